import PyProof.Rows.All
import Wide.All
import OpenK.AllK
import Wide.FinOn
import Lean
import PyProof.EqAt
import PyProof.EqKinds
import PyProof.TupleCall
import PySem.Challenge.RW_deeprests_k91_whole_solved_by_text
set_option Elab.async false
set_option linter.all false
set_option maxRecDepth 100000
set_option compiler.extract_closed false
namespace L2
open PySem PySem.Spec PyProof.Rows
abbrev Key:=Sum Int Str
def keyIs : Key → Value → Bool
  | .inl k,v=>Value.isInt k v
  | .inr x,v=>Value.isStrOf x v
def keyH (w : World) : Key → Int
  | .inl k=>hashInt k
  | .inr x=>hashStr w x
theorem keyIs_shape : ∀ {k : Key} {v : Value},keyIs k v = true → (∃ i t,k = Sum.inl i ∧ v = Value.int i t) ∨ (∃ x t,k = Sum.inr x ∧ v = Value.str x t)
  | .inl i,v,h=>by
    obtain ⟨t,e⟩:=Value.isInt_shape (k:=i) (v:=v) h
    exact .inl ⟨i,t,rfl,e⟩
  | .inr x,v,h=>by
    obtain ⟨t,e⟩:=Value.isStrOf_shape (x:=x) (v:=v) h
    exact .inr ⟨x,t,rfl,e⟩
theorem keyIs_int (i : Int) (t : Tok) : keyIs (.inl i) (.int i t) = true:=by simp [keyIs,Value.isInt]
theorem keyIs_str (x : Str) (t : Tok) : keyIs (.inr x) (.str x t) = true:=by simp [keyIs,Value.isStrOf]
theorem key_ll (a b : Int) : decide ((Sum.inl a : Key) = Sum.inl b) = (a == b):=by
  by_cases e : a = b
  · subst e; simp
  · have h : ¬ (Sum.inl a : Key) = Sum.inl b:=fun q=>e (Sum.inl.inj q)
    rw [decide_eq_false h]
    exact (beq_eq_false_iff_ne.mpr e).symm
theorem key_rr (a b : Str) : decide ((Sum.inr a : Key) = Sum.inr b) = decide (a = b):=by
  by_cases e : a = b
  · subst e; simp
  · have h : ¬ (Sum.inr a : Key) = Sum.inr b:=fun q=>e (Sum.inr.inj q)
    rw [decide_eq_false h,decide_eq_false e]
theorem key_lr (a : Int) (b : Str) : decide ((Sum.inl a : Key) = Sum.inr b) = false:=decide_eq_false (fun q=>nomatch q)
theorem key_rl (a : Str) (b : Int) : decide ((Sum.inr a : Key) = Sum.inl b) = false:=decide_eq_false (fun q=>nomatch q)
def mixKind (prog : Program) (w : World) : PySem.KeyKind prog w Key where
  is:=keyIs
  hash:=keyH w
  inj:=fun v a b ha hb=>by
    rcases keyIs_shape ha with ⟨i,t,rfl,rfl⟩ | ⟨x,t,rfl,rfl⟩
    · rcases keyIs_shape hb with ⟨j,u,rfl,e⟩ | ⟨y,u,rfl,e⟩
      · injection e with e1 _; rw [e1]
      · exact nomatch e
    · rcases keyIs_shape hb with ⟨j,u,rfl,e⟩ | ⟨y,u,rfl,e⟩
      · exact nomatch e
      · injection e with e1 _; rw [e1]
  byValue:=fun k v h=>by
    rcases keyIs_shape h with ⟨i,t,rfl,rfl⟩ | ⟨x,t,rfl,rfl⟩ <;> rfl
  pyHash:=fun hv h=>by
    rcases keyIs_shape hv with ⟨i,t,rfl,rfl⟩ | ⟨x,t,rfl,rfl⟩
    · exact wpAny_pyHash_int h
    · exact wpAny_pyHash_str h
  eqBool:=fun hu hv h=>by
    rcases keyIs_shape hu with ⟨i,t,rfl,rfl⟩ | ⟨x,t,rfl,rfl⟩
    · rcases keyIs_shape hv with ⟨j,u,rfl,rfl⟩ | ⟨y,u,rfl,rfl⟩
      · rw [key_ll] at h; exact wpAny_eqBool_int h
      · rw [key_lr] at h; exact SeqAt.EqAt.int_str i t y u _ _ _ _ h
    · rcases keyIs_shape hv with ⟨j,u,rfl,rfl⟩ | ⟨y,u,rfl,rfl⟩
      · rw [key_rl] at h; exact SeqAt.EqAt.str_int x t j u _ _ _ _ h
      · rw [key_rr] at h; exact wpAny_eqBool_str h
  «strs»:=fun k x t v h=>by
    rcases keyIs_shape h with ⟨i,u,rfl,e⟩ | ⟨y,u,rfl,e⟩
    · exact nomatch e
    · injection e with e1 _
      subst e1
      cases v <;> rfl
theorem mixKind_int (prog : Program) (w : World) (i : Int) (t : Tok) : (mixKind prog w).is (.inl i) (.int i t) = true:=keyIs_int i t
theorem mixKind_str (prog : Program) (w : World) (x : Str) (t : Tok) : (mixKind prog w).is (.inr x) (.str x t) = true:=keyIs_str x t
end L2
namespace L2
open PySem PySem.Spec PyProof.Rows
inductive V where
  | non | bl (b : Bool) | int (i : Int) | str (x : Str) | byt (b : Array UInt8) | flt (b : UInt64) | ref (a : Addr) | ty (n : String)
  deriving DecidableEq
def RelV : V → Value → Prop
  | .non,u=>u = Value.none
  | .bl b,u=>u = Value.bool b
  | .int i,u=>∃ t,u = Value.int i t
  | .str x,u=>∃ t,u = Value.str x t
  | .byt b,u=>∃ t,u = Value.bytes b t
  | .flt b,u=>∃ t,u = Value.float b t
  | .ref a,u=>u = Value.ref a
  | .ty n,u=>u = Value.type n
abbrev Vals : List V → List Value → Prop:=Paired RelV
theorem Vals.length {xs : List V} {us : List Value} (r : Vals xs us) : xs.length = us.length:=Paired.length r
theorem Vals.get : ∀ {xs : List V} {us : List Value} {i : Nat} {x : V},Vals xs us → xs[i]? = some x → ∃ u,us[i]? = some u ∧ RelV x u
  | _,_,_,_,.nil,e=>by simp at e
  | _,_,0,_,.cons r _,e=>by simp at e; subst e; exact ⟨_,rfl,r⟩
  | _,_,i + 1,x,.cons _ t,e=>by
    obtain ⟨u,h1,h2⟩:=Vals.get (i:=i) (x:=x) t (by simpa using e)
    exact ⟨u,by simpa using h1,h2⟩
theorem Vals.set {x : V} {u : Value} (r : RelV x u) : ∀ {xs : List V} {us : List Value} (i : Nat),Vals xs us → Vals (xs.set i x) (us.set i u)
  | _,_,_,.nil=>.nil
  | _,_,0,.cons _ t=>.cons r t
  | _,_,i + 1,.cons q t=>.cons q (Vals.set r i t)
theorem Vals.append : ∀ {xs ys : List V} {us ws : List Value},Vals xs us → Vals ys ws → Vals (xs ++ ys) (us ++ ws)
  | _,_,_,_,.nil,s=>s
  | _,_,_,_,.cons r t,s=>.cons r (Vals.append t s)
theorem Vals.take : ∀ {xs : List V} {us : List Value} (n : Nat),Vals xs us → Vals (xs.take n) (us.take n)
  | _,_,0,_=>.nil
  | _,_,_ + 1,.nil=>.nil
  | _,_,n + 1,.cons r t=>.cons r (Vals.take n t)
theorem Vals.drop : ∀ {xs : List V} {us : List Value} (n : Nat),Vals xs us → Vals (xs.drop n) (us.drop n)
  | _,_,0,r=>r
  | _,_,_ + 1,.nil=>.nil
  | _,_,n + 1,.cons _ t=>Vals.drop n t
def RelO : Option V → Option Value → Prop
  | some v,some u=>RelV v u
  | none,none=>True
  | _,_=>False
def KV {κ : Type} : List (κ × V) → List (κ × Value) → Prop:=Paired fun (p : κ × V) (q : κ × Value)=>p.1 = q.1 ∧ RelV p.2 q.2
def kV : Key → V
  | .inl i=>.int i
  | .inr x=>.str x
inductive HO where
  | lst (xs : List V)
  | tup (xs : List V)
  | dK (kvs : List (Key × V)) | dT (kvs : List (List Key × V))
  | set (S : Int → Bool) (n : Nat)
  | ins (C dx : Addr) (fs : List (Str × V))
  | own (x : Addr)
  | xd (fs : List (Str × V))
  | met (f x : Addr)
  | rng (lo hi : Int)
  | frz (o : Obj) (u : HO)
  | tbl (ps : Array Value)
  | ext (φ : Heap → Prop)
abbrev Hp:=Addr → Option HO
def upd (H : Hp) (a : Addr) (o : HO) : Hp:=fun b=>if b = a then some o else H b
theorem upd_same {H : Hp} {a : Addr} {o : HO} : upd H a o a = some o:=by unfold upd; rw [if_pos rfl]
theorem upd_ne {H : Hp} {a b : Addr} {o : HO} (h : b ≠ a) : upd H a o b = H b:=by unfold upd; rw [if_neg h]
theorem ne_of {H : Hp} {a b : Addr} {o u : HO} (h : H a = some o) (h' : H b = some u) (d : o ≠ u) : a ≠ b:=by
  intro e; subst e; rw [h] at h'; exact d (Option.some.inj h')
theorem ne_of_none {H : Hp} {a b : Addr} {o : HO} (h : H a = some o) (h' : H b = none) : a ≠ b:=by
  intro e; subst e; rw [h] at h'; cases h'
section
variable (P : Program) (w : World)
def ObjOk (H : Hp) (h : Heap) (a : Addr) : HO → Prop
  | .lst xs=>xs.length ≤ sizeLine ∧ ∃ (its : List Value) (n : Nat),Vals xs its ∧ h.get? a = some { cls:=.type "list",data:=.seq its.toArray n }
  | .tup xs=>xs.length ≤ sizeLine ∧ ∃ its : List Value,Vals xs its ∧ IsTup h a its.toArray
  | .dK kvs=>kvs.length ≤ sizeLine ∧ (a == sysModules) = false ∧ ∃ vs,KV kvs vs ∧ h.DictOf (mixKind P w) a vs
  | .dT kvs=>kvs.length ≤ sizeLine ∧ (a == sysModules) = false ∧ ∃ xs : List (List Key × Addr × Value),
      Paired (fun (p : List Key × V) (q : List Key × Addr × Value)=>p.1 = q.1 ∧ H q.2.1 = some (.tup (p.1.map kV)) ∧ RelV p.2 q.2.2) kvs xs ∧
      ∃ o es ep,h.get? a = some o ∧ o.ExactDict ∧ o.data = .dict es ep ∧ es.toList = xs.map (entryOfKey (tupleKind (mixKind P w))) ∧ (xs.map (·.1)).Nodup
  | .set S n=>h.SetOf (intKind P w) a S n
  | .ins C dx fs=>H dx = some (.own a) ∧ fs.length ≤ 1000 ∧ dx ≠ a ∧ h.get? a = some (PySem.W.instObj C dx) ∧
      ∃ mA,h.Ns1 dx mA ∧ (∀ f,RelO (fs.lookup f) (mA f)) ∧ PySem.Within mA (fs.map (·.1))
  | .own _=>∃ o,h.get? a = some o
  | .xd fs=>∃ mA,h.Ns1 a mA ∧ ∀ f,RelO (fs.lookup f) (mA f)
  | .rng lo hi=>∃ t u v,h.get? a = some { cls:=.type "range",data:=.fields #[.int lo t,.int hi u,.int 1 v] }
  | .frz o u=>h.get? a = some o ∧ ObjOk H h a u
  | .tbl ps=>h.get? a = some { cls:=.none,data:=.fields ps }
  | .met f x=>h.get? a = some (PySem.W.methodObj (.ref f) (.ref x))
  | .ext φ=>φ h ∧ (∃ o,h.get? a = some o) ∧ ∀ h1 h2 : Heap,φ h1 → (∀ o,h1.get? a = some o → h2.get? a = some o) → φ h2
def HOk (H : Hp) (h : Heap) : Prop:=∀ a o,H a = some o → ObjOk P w H h a o
end
section
variable {P : Program} {w : World} {H H' : Hp} {h h' : Heap} {a : Addr} {o : HO}
theorem ObjOk.lt (x : ObjOk P w H h a o) : a < h.objs.size:=by
  cases o with
  | lst xs=>obtain ⟨_,_,_,_,e⟩:=x; exact Heap.lt_size e
  | tup xs=>obtain ⟨_,_,_,p⟩:=x; exact p.lt
  | dK kvs=>obtain ⟨_,_,_,_,o,_,_,e,_⟩:=x; exact Heap.lt_size e
  | dT kvs=>obtain ⟨_,_,_,_,o,_,_,e,_⟩:=x; exact Heap.lt_size e
  | set S n=>obtain ⟨o,_,_,_,e,_⟩:=x; exact Heap.lt_size e
  | ins C dx fs=>obtain ⟨_,_,_,e,_⟩:=x; exact Heap.lt_size e
  | own y=>obtain ⟨_,e⟩:=x; exact Heap.lt_size e
  | xd fs=>obtain ⟨_,⟨_,_,_,e,_⟩,_⟩:=x; exact Heap.lt_size e
  | rng lo hi=>obtain ⟨_,_,_,e⟩:=x; exact Heap.lt_size e
  | frz ob u=>obtain ⟨e,_⟩:=x; exact Heap.lt_size e
  | tbl ps=>exact Heap.lt_size (show h.get? a = some _ from x)
  | met f y=>exact Heap.lt_size (show h.get? a = some _ from x)
  | ext φ=>obtain ⟨_,⟨_,e⟩,_⟩:=x; exact Heap.lt_size e
theorem Paired.mapP {α β : Type} {F G : α → β → Prop} : ∀ {l₁ : List α} {l₂ : List β},Paired F l₁ l₂ → (∀ a b,F a b → G a b) → Paired G l₁ l₂
  | _,_,.nil,_=>.nil
  | _,_,.cons r t,f=>.cons (f _ _ r) (Paired.mapP t f)
theorem ObjOk.stay (x : ObjOk P w H h a o) (k : ∀ b u,(b = a ∨ H b = some (.own a)) → h.get? b = some u → h'.get? b = some u)
    (ho : ∀ b,H b = some (.own a) → H' b = some (.own a)) (ht : ∀ b xs,H b = some (.tup xs) → H' b = some (.tup xs)) : ObjOk P w H' h' a o:=by
  induction o with
  | lst xs=>obtain ⟨z,its,n,r,e⟩:=x; exact ⟨z,its,n,r,k _ _ (.inl rfl) e⟩
  | tup xs=>obtain ⟨z,its,r,ob,e,c⟩:=x; exact ⟨z,its,r,ob,k _ _ (.inl rfl) e,c⟩
  | dK kvs=>obtain ⟨z,y,vs,r,ob,es,ep,e,c⟩:=x; exact ⟨z,y,vs,r,ob,es,ep,k _ _ (.inl rfl) e,c⟩
  | dT kvs=>
    obtain ⟨z,y,xs,r,ob,es,ep,e,c⟩:=x
    exact ⟨z,y,xs,Paired.mapP r fun p q z=>⟨z.1,ht _ _ z.2.1,z.2.2⟩,ob,es,ep,k _ _ (.inl rfl) e,c⟩
  | set S n=>obtain ⟨ob,es,ep,t,e,c⟩:=x; exact ⟨ob,es,ep,t,k _ _ (.inl rfl) e,c⟩
  | ins C dx fs=>
    obtain ⟨d,z,ne,e,mA,⟨od,es,ep,e2,c⟩,r⟩:=x
    exact ⟨ho _ d,z,ne,k _ _ (.inl rfl) e,mA,⟨od,es,ep,k _ _ (.inr d) e2,c⟩,r⟩
  | own y=>obtain ⟨ob,e⟩:=x; exact ⟨ob,k _ _ (.inl rfl) e⟩
  | xd fs=>obtain ⟨mA,⟨od,es,ep,e,c⟩,r⟩:=x; exact ⟨mA,⟨od,es,ep,k _ _ (.inl rfl) e,c⟩,r⟩
  | rng lo hi=>obtain ⟨t,u,v,e⟩:=x; exact ⟨t,u,v,k _ _ (.inl rfl) e⟩
  | frz ob u ih=>obtain ⟨e,q⟩:=x; exact ⟨k _ _ (.inl rfl) e,ih q⟩
  | tbl ps=>
    have e : h.get? a = some { cls:=.none,data:=.fields ps }:=x
    show h'.get? a = some { cls:=.none,data:=.fields ps }
    exact k a _ (.inl rfl) e
  | met f y=>
    have e : h.get? a = some (PySem.W.methodObj (.ref f) (.ref y)):=x
    show h'.get? a = some (PySem.W.methodObj (.ref f) (.ref y))
    exact k a _ (.inl rfl) e
  | ext φ=>obtain ⟨p,⟨o,e⟩,st⟩:=x; exact ⟨st _ _ p fun o q=>k _ _ (.inl rfl) q,⟨o,k _ _ (.inl rfl) e⟩,st⟩
theorem HOk.lt (x : HOk P w H h) (e : H a = some o) : a < h.objs.size:=(x a o e).lt
theorem HOk.fresh (x : HOk P w H h) (e : h.objs.size ≤ a) : H a = none:=by
  cases q : H a with
  | none=>rfl
  | some u=>exact absurd (Nat.lt_of_lt_of_le (x.lt q) e) (Nat.lt_irrefl _)
theorem HOk.kept (x : HOk P w H h) (k : ∀ b u,h.get? b = some u → h'.get? b = some u) : HOk P w H h':=fun a o e=>
  (x a o e).stay (fun b u _ q=>k b u q) (fun _ q=>q) fun _ _ q=>q
theorem HOk.laid (x : HOk P w H h) (k : ∀ b u,h.get? b = some u → h'.get? b = some u) (hp : h.objs.size ≤ a) (new : ObjOk P w (upd H a o) h' a o) : HOk P w (upd H a o) h':=fun b u e=>by
  have hn:=x.fresh hp
  by_cases hb : b = a
  · subst hb; rw [upd_same] at e; cases e; exact new
  · rw [upd_ne hb] at e
    exact (x b u e).stay (fun c v _ q=>k c v q) (fun c q=>by rw [upd_ne (ne_of_none q hn)]; exact q) fun c xs q=>by rw [upd_ne (ne_of_none q hn)]; exact q
end
def Rd (H : Hp) (a : Addr) (u : HO) : Prop:=H a = some u ∨ ∃ o,H a = some (.frz o u)
theorem Rd.ok {P : Program} {w : World} {H : Hp} {h : Heap} {a : Addr} {u : HO} (r : Rd H a u) (x : HOk P w H h) : ObjOk P w H h a u:=by
  rcases r with r | ⟨o,r⟩
  · exact x a u r
  · obtain ⟨_,q⟩:=x a _ r
    exact q
def Mut : Option HO → Prop
  | some (.lst _)=>True
  | some (.dK _)=>True
  | some (.dT _)=>True
  | some (.set _ _)=>True
  | some (.ins _ _ _)=>True
  | some (.ext _)=>True
  | _=>False
section
variable {P : Program} {w : World} {H : Hp} {h h' : Heap} {x e : Addr} {o' : HO}
theorem HOk.write (ok : HOk P w H h) (mu : Mut (H x)) (he : e = x ∨ H e = some (.own x)) (k : ∀ b u,b ≠ e → h.get? b = some u → h'.get? b = some u) (heo : ∃ u,h'.get? e = some u)
    (new : ObjOk P w (upd H x o') h' x o') : HOk P w (upd H x o') h':=fun b u q=>by
  have nown : ∀ c y,H c = some (.own y) → c ≠ x:=fun c y r z=>by subst z; rw [r] at mu; exact mu
  have ntup : ∀ c xs,H c = some (.tup xs) → c ≠ x:=fun c xs r z=>by subst z; rw [r] at mu; exact mu
  by_cases hb : b = x
  · subst hb; rw [upd_same] at q; cases q; exact new
  · rw [upd_ne hb] at q
    by_cases hbe : b = e
    · have q' : H b = some (.own x):=by
        rcases he with z | z
        · exact absurd (hbe.trans z) hb
        · rw [hbe]; exact z
      rw [q] at q'; cases q'
      obtain ⟨v,hv⟩:=heo
      exact ⟨v,by rw [hbe]; exact hv⟩
    · refine (ok b u q).stay (fun c v hc r=>k c v ?_ r) (fun c r=>by rw [upd_ne (nown c b r)]; exact r) fun c xs r=>by rw [upd_ne (ntup c xs r)]; exact r
      rcases hc with rfl | hc
      · exact hbe
      · rintro rfl
        rcases he with z | z
        · exact nown c b hc z
        · rw [hc] at z; cases z; exact hb rfl
end
structure Un (fs ex : List Addr) (H H' : Hp) (h h' : Heap) : Prop where
  keep : ∀ b o,h.get? b = some o → H b = none → b ∉ fs → b ∉ ex → h'.get? b = some o
  slot : ∀ b o,h.get? b = some o → H b = none → b ∈ fs → b ∉ ex → ∃ sl,h'.get? b = some { o with slots:=sl }
  free : ∀ b o,h.get? b = some o → H b = none → b ∉ ex → H' b = none
  there : ∀ b o,h.get? b = some o → b ∉ ex → ∃ o',h'.get? b = some o'
  tups : ∀ b xs,H b = some (.tup xs) → H' b = some (.tup xs)
  frzs : ∀ b o u,H b = some (.frz o u) → H' b = some (.frz o u)
  tbls : ∀ b ps,H b = some (.tbl ps) → ∃ more,H' b = some (.tbl (ps ++ more))
section
variable {fs fs' ex ex' : List Addr} {H H1 H2 : Hp} {h h1 h2 h' : Heap} {a x e : Addr} {o : HO}
theorem Un.any (u : Un fs ex H H1 h h1) {b : Addr} {ob : Obj} (q : h.get? b = some ob) (n : H b = none) (hx : b ∉ ex) : ∃ sl,h1.get? b = some { ob with slots:=sl }:=by
  by_cases hb : b ∈ fs
  · exact u.slot b ob q n hb hx
  · exact ⟨ob.slots,u.keep b ob q n hb hx⟩
theorem Un.kept (k : ∀ b u,h.get? b = some u → h'.get? b = some u) : Un fs ex H H h h':=
  ⟨fun b ob q _ _ _=>k b ob q,fun b ob q _ _ _=>⟨ob.slots,k b ob q⟩,fun _ _ _ n _=>n,fun b ob q _=>⟨ob,k b ob q⟩,fun _ _ q=>q,fun _ _ _ q=>q,fun _ ps q=>⟨#[],by rw [q]; simp⟩⟩
theorem Un.refl : Un fs ex H H h h:=Un.kept fun _ _ q=>q
theorem Un.laid (k : ∀ b u,h.get? b = some u → h'.get? b = some u) (hp : h.objs.size ≤ a) (hn : H a = none) : Un fs ex H (upd H a o) h h' where
  keep:=fun b u q _ _ _=>k b u q
  slot:=fun b u q _ _ _=>⟨u.slots,k b u q⟩
  free:=fun b u q n _=>by rw [upd_ne (Nat.ne_of_lt (Nat.lt_of_lt_of_le (Heap.lt_size q) hp))]; exact n
  there:=fun b u q _=>⟨u,k b u q⟩
  tups:=fun b xs q=>by rw [upd_ne (ne_of_none q hn)]; exact q
  frzs:=fun b u xs q=>by rw [upd_ne (ne_of_none q hn)]; exact q
  tbls:=fun b ps q=>⟨#[],by rw [upd_ne (ne_of_none q hn),q]; simp⟩
theorem Un.write (mu : Mut (H x)) (he : e = x ∨ H e = some (.own x)) (k : ∀ b u,b ≠ e → h.get? b = some u → h'.get? b = some u) (heo : ∃ u,h'.get? e = some u) : Un fs ex H (upd H x o) h h':=by
  have hx : ∀ b,H b = none → b ≠ x:=fun b n z=>by subst z; rw [n] at mu; exact mu
  have hb : ∀ b,H b = none → b ≠ e:=fun b n z=>by
    subst z
    rcases he with r | r
    · exact hx b n r
    · rw [n] at r; cases r
  have hm : ∀ b u,H b = some u → ¬ Mut (some u) → b ≠ x:=fun b u q nm z=>by subst z; rw [q] at mu; exact nm mu
  refine ⟨fun b u q n _ _=>k b u (hb b n) q,fun b u q n _ _=>⟨u.slots,k b u (hb b n) q⟩,fun b u q n _=>by rw [upd_ne (hx b n)]; exact n,fun b u q _=>?_,
    fun b xs q=>by rw [upd_ne (hm b _ q fun z=>z)]; exact q,fun b u xs q=>by rw [upd_ne (hm b _ q fun z=>z)]; exact q,fun b ps q=>⟨#[],by rw [upd_ne (hm b _ q fun z=>z),q]; simp⟩⟩
  by_cases hbe : b = e
  · subst hbe; exact heo
  · exact ⟨u,k b u hbe q⟩
end
def trk (h : Heap) (H : Hp) : List Addr:=(List.range h.objs.size).filter fun a=>(H a).isSome
def hidT (h : Heap) (H : Hp) : Heap:=PySem.W.hideAll h (trk h H)
theorem hidT_size (h : Heap) (H : Hp) : (hidT h H).objs.size = h.objs.size:=PySem.W.hideAll_size _ _
theorem hidT_get {h : Heap} {H : Hp} {b : Addr} {o : Obj} (e : h.get? b = some o) (n : H b = none) : (hidT h H).get? b = some o:=
  PySem.W.hideAll_get _ e fun hm=>by
    have q : (H b).isSome = true:=(List.mem_filter.mp hm).2
    rw [n] at q; simp at q
theorem of_hidT {h : Heap} {H : Hp} {b : Addr} {o : Obj} (e : (hidT h H).get? b = some o) : h.get? b = some o ∧ H b = none:=by
  have e' : h.get? b = some o:=PySem.W.of_hideAll (trk h H) e
  refine ⟨e',?_⟩
  cases q : H b with
  | none=>rfl
  | some x=>
    have hm : b ∈ trk h H:=List.mem_filter.mpr ⟨List.mem_range.mpr (Heap.lt_size e'),by simp [q]⟩
    have z : (hidT h H).get? b = none:=PySem.W.hideAll_none (trk h H) hm
    rw [z] at e; cases e
def allNews (g h : Heap) (L : Addr) : List (Addr × Obj):=(List.range h.objs.size).filterMap fun a=>if a = L ∨ (g.get? a).isSome = true then none else (h.get? a).map fun o=>(a,o)
def rest (g h : Heap) (L d : Addr) : List (Addr × Obj):=(allNews g h L).filter fun p=>decide (p.1 ≠ d)
end L2
namespace L2
open PySem PySem.Spec PyProof.Rows
structure Mod (K : PySem.W.Frag) (mg : Str → Option Value) (base : Heap) : Prop where
  kin : K.In base
  glob : base.Ns mainGlobals mg
  blt : ∃ mb,base.Ns builtinsNs mb ∧ ∀ x : Str,x ≠ "__name__" → mb x = bootBuiltins x
  nolimit : base.NoLimit
/-- the context: a def's body (or a comprehension's block) running. base: fixed through the whole law; s₀,H₀: the entry; outer: the frames whose slots others may change (a def's callers); stack: all frames that run;
   ex: iterators that were made ahead of the entry and are walked here (a comprehension's); fn: the names whose cells were made at the entry (a def: all; a comprehension's block: its own); calm: not within an except suite; pn: pins that every state bears; xe: what is wanted of an exception that leaves the code -/
structure Cx where
  prog : Program
  w : World
  K : PySem.W.Frag
  mg : Str → Option Value
  base : Heap
  A : Around
  N : List Str
  s₀ : Shared
  H₀ : Hp
  env : Env
  outer : List Env
  stack : List Env
  ex : List Addr
  fn : Str → Bool
  calm : Bool
  pn : List (Addr × Obj)
  xe : Value → Shared → Prop
def frs (l : List Env) : List Addr:=l.filterMap (·.frame)
abbrev Cx.fs (X : Cx) : List Addr:=frs X.outer
def Vis (sc : Scope) (x : Str) : Prop:=sc.names.lookup x = some .local ∨ sc.names.lookup x = some .cell ∨ sc.names.lookup x = some .free
def Loc (sc : Scope) (x : Str) : Prop:=sc.names.lookup x = some .local ∨ sc.names.lookup x = some .cell
def Look (env : Env) (h : Heap) (m : Str → Option Value) (x : Str) (u : Value) : Prop:=
  (env.kindOf x = some .local ∧ m x = some u) ∨ ((env.kindOf x = some .cell ∨ env.kindOf x = some .free) ∧ ∃ c,env.cells.lookup x = some c ∧ h.IsCell c (some u))
structure Cx.Ok (X : Cx) : Prop where
  mod : Mod X.K X.mg X.base
  kind : X.env.scope.kind = .function
  glob : X.env.globals = mainGlobals
  blt : X.env.builtins = builtinsNs
  above : X.s₀.heap.objs.size ≤ X.env.locals
  inj : ∀ x y c,X.env.cells.lookup x = some c → X.env.cells.lookup y = some c → x = y
  has : ∀ x,(X.env.kindOf x = some .cell ∨ X.env.kindOf x = some .free) → ∃ c,X.env.cells.lookup x = some c
  cab : ∀ x c,X.fn x = true → X.env.cells.lookup x = some c → X.s₀.heap.objs.size ≤ c
  hd : X.calm = true → X.A.handled = none
  frames : X.A.frames = some X.stack
  stk : X.stack = X.outer ∨ (X.stack = X.env :: X.outer ∧ X.env.frame = some X.env.locals)
  exf : ∀ b ∈ X.ex,b ≠ X.env.locals ∧ ∀ x c,X.env.cells.lookup x = some c → c ≠ b
  bs : ∀ b o,X.base.get? b = some o → X.s₀.heap.get? b = some o ∧ X.H₀ b = none
  bsz : X.base.objs.size ≤ X.s₀.heap.objs.size
  noex : ∀ b o,X.base.get? b = some o → b ∉ X.ex
  exfs : ∀ b ∈ X.ex,b ∉ X.fs
  funs : X.s₀.heap.FunFrames X.base X.outer
  frf : ∀ b ∈ X.fs,X.H₀ b = none
structure Inv (X : Cx) (pins : List (Addr × Obj)) (σ : List (Option V)) (H : Hp) (s : Shared) : Prop where
  ok : X.Ok
  os : s.os = X.s₀.os
  bare : AllBare s.gens
  base : Un X.fs X.ex X.H₀ H X.s₀.heap s.heap
  loc : ∃ m,s.heap.Ns X.env.locals m ∧ ∀ (i : Nat) (x : Str) (v : V),X.N[i]? = some x → σ[i]? = some (some v) → Vis X.env.scope x → ∃ u,RelV v u ∧ Look X.env s.heap m x u
  cell : ∀ x c,X.env.cells.lookup x = some c → ∃ v,s.heap.IsCell c v
  free : H X.env.locals = none
  freeC : ∀ x c,X.env.cells.lookup x = some c → H c = none
  pin : ∀ p ∈ X.pn ++ pins,s.heap.get? p.1 = some p.2 ∧ H p.1 = none ∧ p.1 ≠ X.env.locals ∧ p.1 ∉ X.fs ∧ ∀ v,p.2.data ≠ .cell v
  hok : HOk X.prog X.w H s.heap
  len : σ.length = X.N.length
section
variable {X : Cx} {pins : List (Addr × Obj)} {σ : List (Option V)} {H H' : Hp} {s : Shared} {h' : Heap}
theorem Cx.Ok.nofr (ok : X.Ok) {b : Addr} {o : Obj} (e : X.base.get? b = some o) : b ∉ X.fs:=fun hb=>by
  have:=(ok.funs.mem hb).1
  rw [e] at this; cases this
theorem Inv.bs (I : Inv X pins σ H s) : ∀ b o,X.base.get? b = some o → s.heap.get? b = some o ∧ H b = none:=fun b o e=>
  ⟨I.base.keep b o (I.ok.bs b o e).1 (I.ok.bs b o e).2 (I.ok.nofr e) (I.ok.noex b o e),I.base.free b o (I.ok.bs b o e).1 (I.ok.bs b o e).2 (I.ok.noex b o e)⟩
theorem Inv.bk (I : Inv X pins σ H s) : ∀ b o,X.base.get? b = some o → s.heap.get? b = some o:=fun b o e=>(I.bs b o e).1
theorem Inv.mod (I : Inv X pins σ H s) : Mod X.K X.mg X.base:=I.ok.mod
theorem Inv.kIn (I : Inv X pins σ H s) : X.K.In s.heap:=I.ok.mod.kin.keeps I.bk
theorem Inv.lt (I : Inv X pins σ H s) : X.env.locals < s.heap.objs.size:=let ⟨_,hn,_⟩:=I.loc; hn.lt
theorem Inv.sz (I : Inv X pins σ H s) : X.s₀.heap.objs.size ≤ s.heap.objs.size:=Nat.le_trans I.ok.above (Nat.le_of_lt I.lt)
theorem Inv.nofs (I : Inv X pins σ H s) {a : Addr} (h : s.heap.objs.size ≤ a) : a ∉ X.fs:=fun hb=>by
  obtain ⟨_,o,ho,_⟩:=I.ok.funs.mem hb
  exact absurd (Nat.lt_of_lt_of_le (Heap.lt_size ho) (Nat.le_trans I.sz h)) (Nat.lt_irrefl _)
theorem Inv.cne (I : Inv X pins σ H s) : ∀ x c,X.env.cells.lookup x = some c → c ≠ X.env.locals:=fun x c e z=>by
  obtain ⟨v,o,ho,hd⟩:=I.cell x c e
  obtain ⟨m,⟨o',es,ep,ho',hd',_⟩,_⟩:=I.loc
  rw [z,ho'] at ho; cases ho; rw [hd'] at hd; cases hd
theorem Inv.funs (I : Inv X pins σ H s) : s.heap.FunFrames X.base X.outer:=by
  have all : ∀ (l : List Env),(∀ b ∈ frs l,b ∈ X.fs) → X.s₀.heap.FunFrames X.base l → s.heap.FunFrames X.base l:=by
    intro l
    induction l with
    | nil=>intro _ _; trivial
    | cons env r ih=>
      intro hs hl
      obtain ⟨hk,⟨L,o,hf,hn,ho,hd⟩,hr⟩:=hl
      have hL : L ∈ X.fs:=hs L (by unfold frs; rw [List.filterMap_cons,hf]; exact List.mem_cons_self)
      obtain ⟨sl,e⟩:=I.base.slot L o ho (I.ok.frf L hL) hL fun z=>I.ok.exfs L z hL
      exact ⟨hk,⟨L,_,hf,hn,e,hd⟩,ih (fun b hb=>hs b (by unfold frs; rw [List.filterMap_cons,hf]; exact List.mem_cons_of_mem _ hb)) hr⟩
  exact all X.outer (fun _ hb=>hb) I.ok.funs
theorem Inv.stack (I : Inv X pins σ H s) : s.heap.FunFrames X.base X.stack:=by
  rcases I.ok.stk with e | ⟨e,hf⟩
  · rw [e]; exact I.funs
  · rw [e]
    obtain ⟨m,hn,_⟩:=I.loc
    refine .cons (by rw [I.ok.kind]; decide) hf hn ?_ I.funs
    exact Heap.get?_none_of_le (Nat.le_trans I.ok.bsz I.ok.above)
theorem Inv.stkSub (I : Inv X pins σ H s) : ∀ b ∈ frs X.stack,b ∈ X.env.locals :: X.fs:=fun b hb=>by
  rcases I.ok.stk with e | ⟨e,hf⟩
  · rw [e] at hb; exact List.mem_cons_of_mem _ hb
  · rw [e] at hb
    unfold frs at hb
    rw [List.filterMap_cons,hf] at hb
    exact hb
theorem Inv.stkFree (I : Inv X pins σ H s) : ∀ b ∈ frs X.stack,H b = none:=fun b hb=>by
  rcases List.mem_cons.mp (I.stkSub b hb) with e | hb
  · rw [e]; exact I.free
  · obtain ⟨_,o,ho,_⟩:=I.ok.funs.mem hb
    exact I.base.free b o ho (I.ok.frf b hb) fun z=>I.ok.exfs b z hb
theorem Inv.step {g' : Array GenState} {t' : Nat} {d' : Drawn} {ch : List Addr} (I : Inv X pins σ H s)
    (hch : ∀ b ∈ ch,(b ∈ X.ex ∨ X.s₀.heap.objs.size ≤ b) ∧ b ≠ X.env.locals ∧ (∀ x c,X.env.cells.lookup x = some c → c ≠ b) ∧ ∀ p ∈ X.pn ++ pins,p.1 ≠ b)
    (keep : ∀ b o,b ≠ X.env.locals → b ∉ X.fs → b ∉ ch → s.heap.get? b = some o → H b = none → h'.get? b = some o)
    (slot : ∀ b o,b ≠ X.env.locals → b ∈ X.fs → b ∉ ch → s.heap.get? b = some o → H b = none → ∃ sl,h'.get? b = some { o with slots:=sl }) (free : ∀ b o,b ∉ ch → s.heap.get? b = some o → H b = none → H' b = none)
    (there : ∀ b o,b ∉ ch → s.heap.get? b = some o → ∃ o',h'.get? b = some o')
    (tups : ∀ b xs,H b = some (.tup xs) → H' b = some (.tup xs)) (frzs : ∀ b o u,H b = some (.frz o u) → H' b = some (.frz o u)) (tbls : ∀ b ps,H b = some (.tbl ps) → ∃ more,H' b = some (.tbl (ps ++ more)))
    (ns : ∀ m,s.heap.Ns X.env.locals m → h'.Ns X.env.locals m) (hok : HOk X.prog X.w H' h') (hg : AllBare g') :
    Inv X pins σ H' { s with heap:=h',gens:=g',drawn:=d',toks:=t' }:=by
  have neL : ∀ b o,X.s₀.heap.get? b = some o → b ≠ X.env.locals:=fun b o e=>Nat.ne_of_lt (Nat.lt_of_lt_of_le (Heap.lt_size e) I.ok.above)
  have neC : ∀ b o,X.s₀.heap.get? b = some o → b ∉ X.ex → b ∉ ch:=fun b o e hx hb=>by
    rcases (hch b hb).1 with z | z
    · exact hx z
    · exact absurd (Nat.lt_of_lt_of_le (Heap.lt_size e) z) (Nat.lt_irrefl _)
  have cellK : ∀ x c,X.env.cells.lookup x = some c → ∀ v,s.heap.IsCell c v → h'.IsCell c v:=fun x c e v ⟨o,ho,hd⟩=>by
    have nch : c ∉ ch:=fun z=>(hch c z).2.2.1 x c e rfl
    by_cases hc : c ∈ X.fs
    · obtain ⟨sl,q⟩:=slot c o (I.cne x c e) hc nch ho (I.freeC x c e)
      exact ⟨_,q,hd⟩
    · exact ⟨o,keep c o (I.cne x c e) hc nch ho (I.freeC x c e),hd⟩
  refine ⟨I.ok,I.os,hg,⟨fun b o e n hb hx=>?_,fun b o e n hb hx=>?_,fun b o e n hx=>?_,fun b o e hx=>?_,fun b xs e=>tups b xs (I.base.tups b xs e),fun b o xs e=>frzs b o xs (I.base.frzs b o xs e),fun b ps e=>?_⟩,?_,fun x c e=>?_,?_,fun x c e=>?_,fun p hp=>?_,hok,I.len⟩
  · exact keep b o (neL b o e) hb (neC b o e hx) (I.base.keep b o e n hb hx) (I.base.free b o e n hx)
  · obtain ⟨sl,e1⟩:=I.base.slot b o e n hb hx
    obtain ⟨sl',e2⟩:=slot b _ (neL b o e) hb (neC b o e hx) e1 (I.base.free b o e n hx)
    exact ⟨sl',e2⟩
  · obtain ⟨o',e1⟩:=I.base.there b o e hx
    exact free b o' (neC b o e hx) e1 (I.base.free b o e n hx)
  · obtain ⟨o',e1⟩:=I.base.there b o e hx
    exact there b o' (neC b o e hx) e1
  · obtain ⟨m1,e1⟩:=I.base.tbls b ps e
    obtain ⟨m2,e2⟩:=tbls b _ e1
    exact ⟨m1 ++ m2,by rw [e2,Array.append_assoc]⟩
  · obtain ⟨m,hn,hl⟩:=I.loc
    refine ⟨m,ns m hn,fun i x v e1 e2 e3=>?_⟩
    obtain ⟨u,r,l⟩:=hl i x v e1 e2 e3
    refine ⟨u,r,?_⟩
    rcases l with l | ⟨k,c,e,z⟩
    · exact .inl l
    · exact .inr ⟨k,c,e,cellK x c e _ z⟩
  · obtain ⟨v,z⟩:=I.cell x c e
    exact ⟨v,cellK x c e v z⟩
  · obtain ⟨m,⟨o,_,_,ho,_⟩,_⟩:=I.loc
    exact free _ o (fun z=>(hch _ z).2.1 rfl) ho I.free
  · obtain ⟨v,o,ho,hd⟩:=I.cell x c e
    exact free c o (fun z=>(hch c z).2.2.1 x c e rfl) ho (I.freeC x c e)
  · obtain ⟨e,n,ne,nf,d⟩:=I.pin p hp
    have nch : p.1 ∉ ch:=fun z=>(hch p.1 z).2.2.2 p hp rfl
    exact ⟨keep p.1 p.2 ne nf nch e n,free p.1 p.2 nch e n,ne,nf,d⟩
theorem Inv.un {t' : Nat} (I : Inv X pins σ H s) (u : Un X.fs [] H H' s.heap h') (hok : HOk X.prog X.w H' h') : Inv X pins σ H' { s with heap:=h',toks:=t' }:=by
  obtain ⟨m,⟨o,es,ep,ho,r⟩,_⟩:=id I.loc
  obtain ⟨sl,hL⟩:=u.any ho I.free (by simp)
  exact I.step (g':=s.gens) (d':=s.drawn) (ch:=[]) (fun _ z=>nomatch z) (fun b o _ hb _ e n=>u.keep b o e n hb (by simp)) (fun b o _ hb _ e n=>u.slot b o e n hb (by simp)) (fun b o _ e n=>u.free b o e n (by simp)) (fun b o _ e=>u.there b o e (by simp)) u.tups u.frzs u.tbls (fun m' hm=>by
    obtain ⟨o',es',ep',ho',r'⟩:=hm
    rw [ho] at ho'; cases ho'
    exact ⟨_,es',ep',hL,r'⟩) hok I.bare
theorem Inv.call {g' : Array GenState} {t' : Nat} {d' : Drawn} {ch : List Addr} (I : Inv X pins σ H s) (u : Un (frs X.stack) ch H H' s.heap h') (hok : HOk X.prog X.w H' h') (hg : AllBare g')
    (hch : ∀ b ∈ ch,(b ∈ X.ex ∨ X.s₀.heap.objs.size ≤ b) ∧ b ≠ X.env.locals ∧ (∀ x c,X.env.cells.lookup x = some c → c ≠ b) ∧ ∀ p ∈ X.pn ++ pins,p.1 ≠ b) :
    Inv X pins σ H' { s with heap:=h',gens:=g',drawn:=d',toks:=t' }:=by
  obtain ⟨m,⟨o,es,ep,ho,r⟩,_⟩:=id I.loc
  obtain ⟨sl,hL⟩:=u.any ho I.free fun z=>(hch _ z).2.1 rfl
  exact I.step (ch:=ch) hch (fun b o hL hb hc e n=>u.keep b o e n (fun z=>(List.mem_cons.mp (I.stkSub b z)).elim hL hb) hc) (fun b o _ _ hc e n=>u.any e n hc) (fun b o hc e n=>u.free b o e n hc) (fun b o hc e=>u.there b o e hc) u.tups u.frzs u.tbls (fun m' hm=>by
    obtain ⟨o',es',ep',ho',r'⟩:=hm
    rw [ho] at ho'; cases ho'
    exact ⟨_,es',ep',hL,r'⟩) hok hg
theorem Inv.turned {t' : Nat} {it : Addr} (I : Inv X pins σ H s) (k : ∀ b o,b ≠ it → s.heap.get? b = some o → h'.get? b = some o) (hn : H it = none) (hL : it ≠ X.env.locals)
    (h1 : it ∈ X.ex ∨ X.s₀.heap.objs.size ≤ it) (h2 : ∀ x c,X.env.cells.lookup x = some c → c ≠ it) (h3 : ∀ p ∈ X.pn ++ pins,p.1 ≠ it) : Inv X pins σ H { s with heap:=h',toks:=t' }:=by
  have nit : ∀ b u,H b = some u → b ≠ it:=fun b u e z=>by rw [z,hn] at e; cases e
  refine I.step (g':=s.gens) (d':=s.drawn) (ch:=[it]) (fun b hb=>?_) (fun b o _ _ hc e _=>k b o (fun z=>hc (by simp [z])) e) (fun b o _ _ hc e _=>⟨o.slots,k b o (fun z=>hc (by simp [z])) e⟩) (fun _ _ _ _ n=>n)
    (fun b o hc e=>⟨o,k b o (fun z=>hc (by simp [z])) e⟩) (fun _ _ e=>e) (fun _ _ _ e=>e) (fun b ps e=>⟨#[],by rw [e]; simp⟩) (fun m hm=>?_) (fun b u e=>?_) I.bare
  · have e : b = it:=by simpa using hb
    subst e
    exact ⟨h1,hL,h2,h3⟩
  · obtain ⟨o,es,ep,ho,r⟩:=hm
    exact ⟨o,es,ep,k _ o (Ne.symm hL) ho,r⟩
  · refine (I.hok b u e).stay (fun c v hc q=>k c v ?_ q) (fun _ q=>q) fun _ _ q=>q
    rcases hc with z | z
    · rw [z]; exact nit b u e
    · exact nit c _ z
theorem Inv.tok (I : Inv X pins σ H s) (t : Nat) : Inv X pins σ H { s with toks:=t }:=I.un (h':=s.heap) (t':=t) Un.refl I.hok
theorem Inv.kept {t' : Nat} (I : Inv X pins σ H s) (k : ∀ b u,s.heap.get? b = some u → h'.get? b = some u) : Inv X pins σ H { s with heap:=h',toks:=t' }:=I.un (Un.kept k) (I.hok.kept k)
theorem Inv.laid {a : Addr} {o : HO} {t' : Nat} (I : Inv X pins σ H s) (k : ∀ b u,s.heap.get? b = some u → h'.get? b = some u) (hp : s.heap.objs.size ≤ a) (new : ObjOk X.prog X.w (upd H a o) h' a o) :
    Inv X pins σ (upd H a o) { s with heap:=h',toks:=t' }:=I.un (Un.laid k hp (I.hok.fresh hp)) (I.hok.laid k hp new)
theorem Inv.write {x e : Addr} {o : HO} {t' : Nat} (I : Inv X pins σ H s) (mu : Mut (H x)) (he : e = x ∨ H e = some (.own x)) (k : ∀ b u,b ≠ e → s.heap.get? b = some u → h'.get? b = some u) (heo : ∃ u,h'.get? e = some u)
    (new : ObjOk X.prog X.w (upd H x o) h' x o) : Inv X pins σ (upd H x o) { s with heap:=h',toks:=t' }:=I.un (Un.write mu he k heo) (I.hok.write mu he k heo new)
theorem Inv.pins_of {pins' : List (Addr × Obj)} (I : Inv X pins σ H s) (h : ∀ p ∈ pins',s.heap.get? p.1 = some p.2 ∧ H p.1 = none ∧ p.1 ≠ X.env.locals ∧ p.1 ∉ X.fs ∧ ∀ v,p.2.data ≠ .cell v) : Inv X pins' σ H s:=
  ⟨I.ok,I.os,I.bare,I.base,I.loc,I.cell,I.free,I.freeC,fun p hp=>(List.mem_append.mp hp).elim (fun z=>I.pin p (List.mem_append_left _ z)) (h p),I.hok,I.len⟩
theorem nodup_ix {N : List Str} (hN : N.Nodup) {i j : Nat} {x : Str} (a : N[i]? = some x) (b : N[j]? = some x) : i = j:=by
  obtain ⟨h1,e1⟩:=List.getElem?_eq_some_iff.mp a
  obtain ⟨h2,e2⟩:=List.getElem?_eq_some_iff.mp b
  exact (List.getElem_inj hN).mp (e1.trans e2.symm)
theorem store_ok2 {M : Model} {A : Around} {E : Value → Shared → Prop} {i : Nat} {x : Str} {v : V} {u : Value} {Q : Unit → Shared → Prop} (I : Inv X pins σ H s) (hN : X.N.Nodup) (hi : X.N[i]? = some x) (hx : Loc X.env.scope x) (r : RelV v u)
    (h : ∀ s',Inv X pins (σ.set i (some v)) H s' → (∃ a,Heap.SameBut a s.heap s'.heap ∧ (a = X.env.locals ∨ X.env.cells.lookup x = some a)) → Q () s') (hf : X.fn x = true ∨ X.env.scope.names.lookup x = some .local:=by first | exact .inl rfl | exact .inr rfl | assumption) : wpAny M A (storeName X.env x u) Q E s:=by
  obtain ⟨m,hn,hl⟩:=id I.loc
  have hcls : (X.env.scope.kind == .class || (X.env.scope.kind == .module && X.env.locals != X.env.globals)) = false:=by rw [I.ok.kind]; rfl
  have hiσ : i < σ.length:=by rw [I.len]; exact (List.getElem?_eq_some_iff.mp hi).1
  have cne:=I.cne
  have tracked : ∀ {a : Addr} {h' : Heap},(∃ o,s.heap.get? a = some o ∧ H a = none) → Heap.SameBut a s.heap h' → HOk X.prog X.w H h':=fun {a h'} ha hs b ob e=>by
    obtain ⟨_,_,hfree⟩:=ha
    refine (I.hok b ob e).stay (fun c w' hc q=>(hs.2 c ?_).trans q) (fun _ q=>q) fun _ _ q=>q
    rintro rfl
    rcases hc with rfl | hc
    · rw [hfree] at e; cases e
    · rw [hfree] at hc; cases hc
  rcases hx with hk | hk
  · refine wpAny_storeName_local hk hn (fun h' hn' hs=>?_) hcls
    obtain ⟨oL,_,_,hoL,_⟩:=id hn
    refine h _ ⟨I.ok,I.os,I.bare,⟨fun b o e n hb hx=>?_,fun b o e n hb hx=>?_,I.base.free,fun b o e hx=>?_,I.base.tups,I.base.frzs,I.base.tbls⟩,⟨_,hn',fun j y v' e1 e2 e3=>?_⟩,fun y c e=>?_,I.free,I.freeC,fun p hp=>?_,tracked ⟨oL,hoL,I.free⟩ hs,by simpa using I.len⟩ ⟨_,hs,.inl rfl⟩
    · exact (hs.2 b (Nat.ne_of_lt (Nat.lt_of_lt_of_le (Heap.lt_size e) I.ok.above))).trans (I.base.keep b o e n hb hx)
    · obtain ⟨sl,e1⟩:=I.base.slot b o e n hb hx
      exact ⟨sl,(hs.2 b (Nat.ne_of_lt (Nat.lt_of_lt_of_le (Heap.lt_size e) I.ok.above))).trans e1⟩
    · obtain ⟨o',e1⟩:=I.base.there b o e hx
      exact ⟨o',(hs.2 b (Nat.ne_of_lt (Nat.lt_of_lt_of_le (Heap.lt_size e) I.ok.above))).trans e1⟩
    · by_cases hj : j = i
      · subst hj
        rw [hi] at e1; cases e1
        rw [List.getElem?_set_self hiσ] at e2
        cases e2
        exact ⟨u,r,.inl ⟨hk,by simp⟩⟩
      · rw [List.getElem?_set_ne (Ne.symm hj)] at e2
        obtain ⟨u',r',q⟩:=hl j y v' e1 e2 e3
        refine ⟨u',r',?_⟩
        rcases q with ⟨k,e⟩ | ⟨k,c,e,z⟩
        · refine .inl ⟨k,?_⟩
          have : y ≠ x:=fun e=>hj (nodup_ix hN e1 (e ▸ hi))
          simp [this,e]
        · exact .inr ⟨k,c,e,z.sameBut hs (cne y c e)⟩
    · obtain ⟨w',z⟩:=I.cell y c e
      exact ⟨w',z.sameBut hs (cne y c e)⟩
    · obtain ⟨e,n,ne,nf,d⟩:=I.pin p hp
      exact ⟨(hs.2 p.1 ne).trans e,n,ne,nf,d⟩
  · have hfn : X.fn x = true:=by
      rcases hf with z | z
      · exact z
      · rw [z] at hk; cases hk
    obtain ⟨c,hc⟩:=I.ok.has x (.inl hk)
    obtain ⟨w',z⟩:=I.cell x c hc
    refine wpAny_storeName_cell I.ok.kind hk hc z (fun h' hc' hs=>?_)
    obtain ⟨oc,hoc,hocd⟩:=id z
    refine h { s with heap:=h' } ⟨I.ok,I.os,I.bare,⟨fun b o e n hb hx=>?_,fun b o e n hb hx=>?_,I.base.free,fun b o e hx=>?_,I.base.tups,I.base.frzs,I.base.tbls⟩,⟨m,hn.sameBut hs (Ne.symm (cne x c hc)),fun j y v' e1 e2 e3=>?_⟩,fun y c' e=>?_,I.free,I.freeC,fun p hp=>?_,tracked ⟨oc,hoc,I.freeC x c hc⟩ hs,by simpa using I.len⟩ ⟨c,hs,.inr hc⟩
    · exact (hs.2 b (Nat.ne_of_lt (Nat.lt_of_lt_of_le (Heap.lt_size e) (I.ok.cab x c hfn hc)))).trans (I.base.keep b o e n hb hx)
    · obtain ⟨sl,e1⟩:=I.base.slot b o e n hb hx
      exact ⟨sl,(hs.2 b (Nat.ne_of_lt (Nat.lt_of_lt_of_le (Heap.lt_size e) (I.ok.cab x c hfn hc)))).trans e1⟩
    · obtain ⟨o',e1⟩:=I.base.there b o e hx
      exact ⟨o',(hs.2 b (Nat.ne_of_lt (Nat.lt_of_lt_of_le (Heap.lt_size e) (I.ok.cab x c hfn hc)))).trans e1⟩
    · by_cases hj : j = i
      · subst hj
        rw [hi] at e1; cases e1
        rw [List.getElem?_set_self hiσ] at e2
        cases e2
        exact ⟨u,r,.inr ⟨.inl hk,c,hc,hc'⟩⟩
      · rw [List.getElem?_set_ne (Ne.symm hj)] at e2
        obtain ⟨u',r',q⟩:=hl j y v' e1 e2 e3
        refine ⟨u',r',?_⟩
        rcases q with q | ⟨k,c',e,z'⟩
        · exact .inl q
        · refine .inr ⟨k,c',e,z'.sameBut hs ?_⟩
          rintro rfl
          exact hj (nodup_ix hN e1 (I.ok.inj _ _ _ e hc ▸ hi))
    · by_cases hcc : c' = c
      · subst hcc; exact ⟨_,hc'⟩
      · obtain ⟨w2,z2⟩:=I.cell y c' e
        exact ⟨w2,z2.sameBut hs hcc⟩
    · obtain ⟨e,n,ne,nf,d⟩:=I.pin p hp
      refine ⟨(hs.2 p.1 ?_).trans e,n,ne,nf,d⟩
      intro q
      rw [q,hoc] at e
      have q' : oc = p.2:=Option.some.inj e
      exact d w' (by rw [← q']; exact hocd)
theorem store_ok {M : Model} {A : Around} {E : Value → Shared → Prop} {i : Nat} {x : Str} {v : V} {u : Value} {Q : Unit → Shared → Prop} (I : Inv X pins σ H s) (hN : X.N.Nodup) (hi : X.N[i]? = some x) (hx : Loc X.env.scope x) (r : RelV v u)
    (h : ∀ s',Inv X pins (σ.set i (some v)) H s' → Q () s') (hf : X.fn x = true ∨ X.env.scope.names.lookup x = some .local:=by first | exact .inl rfl | exact .inr rfl | assumption) : wpAny M A (storeName X.env x u) Q E s:=
  store_ok2 I hN hi hx r (fun s' I' _=>h s' I') hf
theorem Inv.call' {s' : Shared} {ch : List Addr} (I : Inv X pins σ H s) (ho : s'.os = s.os) (u : Un (frs X.stack) ch H H' s.heap s'.heap) (hok : HOk X.prog X.w H' s'.heap) (hg : AllBare s'.gens)
    (hch : ∀ b ∈ ch,(b ∈ X.ex ∨ X.s₀.heap.objs.size ≤ b) ∧ b ≠ X.env.locals ∧ (∀ x c,X.env.cells.lookup x = some c → c ≠ b) ∧ ∀ p ∈ X.pn ++ pins,p.1 ≠ b) : Inv X pins σ H' s':=by
  obtain ⟨h',g',d',t',o'⟩:=s'
  have e : o' = s.os:=ho
  subst e
  exact I.call (g':=g') (t':=t') (d':=d') u hok hg hch
end
abbrev XK:=Value → Option Addr → Hp → Prop
abbrev St:=List (Option V)
abbrev VK:=V → Hp → Prop
abbrev TE:=St → Hp → VK → Prop
abbrev TT:=St → Hp → (Bool → Hp → Prop) → Prop
abbrev TA:=St → Hp → (List V → Hp → Prop) → Prop
structure Ends where
  nx : St → Hp → Prop
  rt : VK
  bk : St → Hp → Prop:=fun _ _=>False
  ct : St → Hp → Prop:=fun _ _=>False
abbrev TS:=Ends → St → Hp → Prop
def EP (X : Cx) (pins : List (Addr × Obj)) (σ : St) (Q : VK) (u : Value) (s' : Shared) : Prop:=∃ v H',Inv X pins σ H' s' ∧ RelV v u ∧ Q v H'
def TP (X : Cx) (pins : List (Addr × Obj)) (σ : St) (Q : Bool → Hp → Prop) (b : Bool) (s' : Shared) : Prop:=∃ H',Inv X pins σ H' s' ∧ Q b H'
def AP (X : Cx) (pins : List (Addr × Obj)) (σ : St) (Q : List V → Hp → Prop) (us : List Value) (s' : Shared) : Prop:=∃ vs H',Inv X pins σ H' s' ∧ Vals vs us ∧ Q vs H'
def SP (X : Cx) (pins : List (Addr × Obj)) (D : Ends) (f : Flow) (s' : Shared) : Prop:=
  match f with
  | .next=>∃ σ' H',Inv X pins σ' H' s' ∧ D.nx σ' H'
  | .brk=>∃ σ' H',Inv X pins σ' H' s' ∧ D.bk σ' H'
  | .cont=>∃ σ' H',Inv X pins σ' H' s' ∧ D.ct σ' H'
  | .ret u=>∃ v σ' H',Inv X pins σ' H' s' ∧ RelV v u ∧ D.rt v H'
def PE (X : Cx) (e : Expr) (t : TE) : Prop:=
  ∀ (pins : List (Addr × Obj)) (s : Shared) (σ : St) (H : Hp) (Q : VK),Inv X pins σ H s → t σ H Q → wpAny (model X.prog X.w) X.A (eval e X.env) (EP X pins σ Q) X.xe s
def PT (X : Cx) (e : Expr) (t : TT) : Prop:=
  ∀ (pins : List (Addr × Obj)) (s : Shared) (σ : St) (H : Hp) (Q : Bool → Hp → Prop),Inv X pins σ H s → t σ H Q → wpAny (model X.prog X.w) X.A (isTrue e X.env (eval e X.env)) (TP X pins σ Q) X.xe s
def PW (X : Cx) (e : Expr) (t : TT) : Prop:=
  ∀ (whole : Sem Value) (pins : List (Addr × Obj)) (s : Shared) (σ : St) (H : Hp) (Q : Bool → Hp → Prop),Inv X pins σ H s → t σ H Q → wpAny (model X.prog X.w) X.A (isTrue e X.env whole) (TP X pins σ Q) X.xe s
theorem PW.pt {X : Cx} {e : Expr} {t : TT} (h : PW X e t) : PT X e t:=h _
def PA (X : Cx) (es : List Expr) (t : TA) : Prop:=
  ∀ (pos : Pos) (pins : List (Addr × Obj)) (s : Shared) (σ : St) (H : Hp) (Q : List V → Hp → Prop),Inv X pins σ H s → t σ H Q → wpAny (model X.prog X.w) X.A (spliced (backTo pos (starEach es X.env))) (AP X pins σ Q) X.xe s
def PS (X : Cx) (st : Stmt) (t : TS) : Prop:=
  ∀ (pins : List (Addr × Obj)) (s : Shared) (σ : St) (H : Hp) (D : Ends),Inv X pins σ H s → t D σ H → wpAny (model X.prog X.w) X.A (exec st X.env) (SP X pins D) X.xe s
def PSs (X : Cx) (st : List Stmt) (t : TS) : Prop:=
  ∀ (pins : List (Addr × Obj)) (s : Shared) (σ : St) (H : Hp) (D : Ends),Inv X pins σ H s → t D σ H → wpAny (model X.prog X.w) X.A (execs st X.env) (SP X pins D) X.xe s
theorem thn {α : Type} {t : Sem α} {Q Q' : α → Shared → Prop} {M : Model} {A : Around} {E : Value → Shared → Prop} {s : Shared} (h : wpAny M A t Q E s) (hQ : ∀ a s,Q a s → Q' a s) : wpAny M A t Q' E s:=wpAny_mono h hQ fun _ _ x=>x
end L2
namespace L2
open PySem PySem.Spec PyProof.Rows
section
variable {X : Cx}
def tVar (i : Nat) : TE:=fun σ H Q=>∃ v,σ[i]? = some (some v) ∧ Q v H
def tC (v : V) : TE:=fun _ H Q=>Q v H
theorem pe_var {i : Nat} {x : Str} {pos : Pos} (hN : X.N[i]? = some x) (hv : Vis X.env.scope x) (hd : (x == ("__debug__" : Str)) = false:=by decide) (hcd : (x == ("__classdict__" : Str)) = false:=by decide) : PE X (.Name x pos) (tVar i):=by
  intro pins s σ H Q I h
  obtain ⟨v,e,h⟩:=h
  obtain ⟨m,hn,hl⟩:=I.loc
  obtain ⟨u,r,l⟩:=hl i x v hN e hv
  have fin : EP X pins σ Q u s:=⟨v,H,I,r,h⟩
  rcases l with ⟨hk,hm⟩ | ⟨hk,c,hc,hcell⟩
  · exact wpAny_Name (wpAny_loadName_local I.ok.kind hk hn hm fin) hd
  · rcases hk with hk | hk
    · exact wpAny_Name (wpAny_loadName_cell I.ok.kind hk hc hcell fin) hd
    · exact wpAny_Name (wpAny_loadName_free I.ok.kind hk hc hcell fin hcd) hd
theorem pe_int {i j pos} : PE X (.Constant (.int i) j pos) (tC (.int i)):=fun _ _ _ H _ I h=>wpAny_Constant_int ⟨.int i,H,I.tok _,⟨_,rfl⟩,h⟩
theorem pe_bl {b j pos} : PE X (.Constant (.bool b) j pos) (tC (.bl b)):=fun _ _ _ H _ I h=>Constant_bool ⟨.bl b,H,I,rfl,h⟩
theorem pe_non {j pos} : PE X (.Constant .none j pos) (tC .non):=fun _ _ _ H _ I h=>Constant_none ⟨.non,H,I,rfl,h⟩
theorem pe_str {x j pos} : PE X (.Constant (.str x) j pos) (tC (.str x)):=fun _ _ _ H _ I h=>Calls.Constant_str ⟨.str x,H,I.tok _,⟨_,rfl⟩,h⟩
def Gl (X : Cx) (x : Str) : Prop:=X.env.kindOf x = some .globalImplicit
theorem ld_glob {E : Value → Shared → Prop} {pins : List (Addr × Obj)} {s : Shared} {σ : St} {H : Hp} {x : Str} {u : Value} {pos : Pos} {Q : Value → Shared → Prop} (I : Inv X pins σ H s) (hg : Gl X x) (hm : X.mg x = some u) (h : Q u s)
    (hd : (x == ("__debug__" : Str)) = false:=by decide) : wpAny (model X.prog X.w) X.A (eval (.Name x pos) X.env) Q E s:=
  Calls.Name_function_global I.ok.kind hg (Calls.loadGlobal_global (by rw [I.ok.glob]; exact I.mod.glob.keeps I.bk) hm h) hd
theorem ld_blt {E : Value → Shared → Prop} {pins : List (Addr × Obj)} {s : Shared} {σ : St} {H : Hp} {x : Str} {u : Value} {pos : Pos} {Q : Value → Shared → Prop} (I : Inv X pins σ H s) (hg : Gl X x) (hm : X.mg x = none) (hv : bootBuiltins x = some u) (h : Q u s)
    (hn : x ≠ "__name__":=by decide) (hd : (x == ("__debug__" : Str)) = false:=by decide) : wpAny (model X.prog X.w) X.A (eval (.Name x pos) X.env) Q E s:=by
  obtain ⟨mb,h1,h2⟩:=I.mod.blt
  exact Calls.Name_function_global I.ok.kind hg (Calls.loadGlobal_builtin (by rw [I.ok.glob]; exact I.mod.glob.keeps I.bk) hm (by rw [I.ok.blt]; exact h1.keeps I.bk) ((h2 x hn).trans hv) h) hd
theorem pe_glob {x : Str} {v : V} {u : Value} {pos : Pos} (hg : Gl X x) (hm : X.mg x = some u) (r : RelV v u) (hd : (x == ("__debug__" : Str)) = false:=by decide) : PE X (.Name x pos) (tC v):=
  fun _ _ _ H _ I h=>ld_glob I hg hm ⟨v,H,I,r,h⟩ hd
theorem pe_bltn {x : Str} {v : V} {u : Value} {pos : Pos} (hg : Gl X x) (hm : X.mg x = none) (hv : bootBuiltins x = some u) (r : RelV v u) (hn : x ≠ "__name__":=by decide) (hd : (x == ("__debug__" : Str)) = false:=by decide) : PE X (.Name x pos) (tC v):=
  fun _ _ _ H _ I h=>ld_blt I hg hm hv ⟨v,H,I,r,h⟩ hn hd
variable {a b : Expr} {ta tb : TE} {pos : Pos}
def PC (X : Cx) (op : CmpOp) (a b : Expr) (t : TE) : Prop:=
  ∀ (pins : List (Addr × Obj)) (s : Shared) (σ : St) (H : Hp) (Q : VK),Inv X pins σ H s → t σ H Q →
    wpAny (model X.prog X.w) X.A (eval a X.env) (fun v s₁=>wpAny (model X.prog X.w) X.A (eval b X.env) (fun u s₂=>wpAny (model X.prog X.w) X.A (compareOp op v u) (EP X pins σ Q) X.xe s₂) X.xe s₁) X.xe s
theorem nobehind (b : Expr) {op : CmpOp} (h : op ≠ .In) (h2 : op ≠ .NotIn) : behindInMarks op b = false:=by
  have e1 : (op == CmpOp.In) = false:=by cases op <;> first | rfl | exact absurd rfl h
  have e2 : (op == CmpOp.NotIn) = false:=by cases op <;> first | rfl | exact absurd rfl h2
  cases b <;> simp [behindInMarks,e1,e2]
def tB (t : TE) : TT:=fun σ H Q=>t σ H fun x H1=>∃ c,x = .bl c ∧ Q c H1
theorem pt_cmp {op : CmpOp} {t : TE} (h : PC X op a b t) (h1 : behindInMarks op b = false:=by first | exact nobehind _ (by decide) (by decide) | rfl) : PT X (.Compare a [op] [b] pos) (tB t):=by
  intro pins s σ H Q I hw
  refine wpAny_isTrue_Compare1 (thn (h pins s σ H _ I hw) fun v s1 h1=>thn h1 fun u s2 h2=>thn h2 fun c s3 ⟨x,H1,I1,r1,q1⟩=>?_) h1
  obtain ⟨d,rfl,q⟩:=q1
  cases r1
  exact wpAny_truthy_bool ⟨H1,I1,q⟩
theorem pt_val {e : Expr} {t : TE} (h : PE X e t) (he : ∀ whole,isTrue e X.env whole = (do let v ← whole; standAt e.pos; holding [v] (truthy v)):=by intro _; rfl) : PT X e (tB t):=by
  intro pins s σ H Q I hw
  refine isTrue_plain (thn (h pins s σ H _ I hw) fun v s1 ⟨x,H1,I1,r1,q1⟩=>?_) (he _)
  obtain ⟨d,rfl,q⟩:=q1
  cases r1
  exact wpAny_truthy_bool ⟨H1,I1,q⟩
variable {tA tB' : TT} {rest : List Expr}
def tAnd (t u : TT) : TT:=fun σ H Q=>t σ H fun c H1=>if c = true then u σ H1 Q else Q false H1
def tOr (t u : TT) : TT:=fun σ H Q=>t σ H fun c H1=>if c = true then Q true H1 else u σ H1 Q
def tNot (t : TT) : TT:=fun σ H Q=>t σ H fun c H1=>Q (!c) H1
theorem pw_and1 (ha : PT X a tA) : PW X (.BoolOp .And [a] pos) tA:=by
  intro wh pins s σ H Q I h
  refine isTrue_and (thn (ha pins s σ H Q I h) fun c s1 e=>?_)
  cases c with
  | true=>exact isTrue_and_nil e
  | false=>exact e
theorem pw_or1 (ha : PT X a tA) : PW X (.BoolOp .Or [a] pos) tA:=by
  intro wh pins s σ H Q I h
  refine isTrue_or (thn (ha pins s σ H Q I h) fun c s1 e=>?_)
  cases c with
  | false=>exact isTrue_or_nil e
  | true=>exact e
theorem pw_and (ha : PT X a tA) (hb : PW X (.BoolOp .And (b :: rest) pos) tB') : PW X (.BoolOp .And (a :: b :: rest) pos) (tAnd tA tB'):=by
  intro wh pins s σ H Q I h
  refine isTrue_and (thn (ha pins s σ H _ I h) fun c s1 ⟨H1,I1,q1⟩=>?_)
  cases c with
  | true=>exact hb wh pins s1 σ H1 Q I1 q1
  | false=>exact ⟨H1,I1,q1⟩
theorem pw_or (ha : PT X a tA) (hb : PW X (.BoolOp .Or (b :: rest) pos) tB') : PW X (.BoolOp .Or (a :: b :: rest) pos) (tOr tA tB'):=by
  intro wh pins s σ H Q I h
  refine isTrue_or (thn (ha pins s σ H _ I h) fun c s1 ⟨H1,I1,q1⟩=>?_)
  cases c with
  | true=>exact ⟨H1,I1,q1⟩
  | false=>exact hb wh pins s1 σ H1 Q I1 q1
theorem pt_not (ha : PT X a tA) : PT X (.UnaryOp .Not a pos) (tNot tA):=by
  intro pins s σ H Q I h
  exact isTrue_not (ha pins s σ H (fun c H1=>Q (!c) H1) I h)
def tAndV (ta tb : TE) : TE:=fun σ H Q=>ta σ H fun x H1=>∃ c,x = .bl c ∧ if c = true then tb σ H1 Q else Q (.bl false) H1
def tOrV (ta tb : TE) : TE:=fun σ H Q=>ta σ H fun x H1=>∃ c,x = .bl c ∧ if c = true then Q (.bl true) H1 else tb σ H1 Q
def tNotV (ta : TE) : TE:=fun σ H Q=>ta σ H fun x H1=>∃ c,x = .bl c ∧ Q (.bl (!c)) H1
theorem pe_not (ha : PE X a ta) : PE X (.UnaryOp .Not a pos) (tNotV ta):=by
  intro pins s σ H Q I h
  refine UnaryOp_ (thn (ha pins s σ H _ I h) fun v s1 ⟨x,H1,I1,r1,q1⟩=>?_)
  obtain ⟨c,rfl,q1⟩:=q1
  cases r1
  exact not_of (wpAny_truthy_bool ⟨.bl (!c),H1,I1,rfl,q1⟩)
def tIf (t : TT) (ta tb : TE) : TE:=fun σ H Q=>t σ H fun c H1=>if c = true then ta σ H1 Q else tb σ H1 Q
theorem pe_ifExp {c : Expr} (hc : PT X c tA) (ha : PE X a ta) (hb : PE X b tb) : PE X (.IfExp c a b pos) (tIf tA ta tb):=by
  intro pins s σ H Q I h
  refine wpAny_IfExp (thn (hc pins s σ H _ I h) fun d s1 ⟨H1,I1,q1⟩=>?_)
  cases d with
  | true=>exact ha pins s1 σ H1 Q I1 q1
  | false=>exact hb pins s1 σ H1 Q I1 q1
end
end L2
namespace L2
open PySem PySem.Spec PyProof.Rows
def SqL (K : PySem.W.Frag) (H : Hp) (a : Addr) (xs : List V) : Prop:=
  Rd H a (.lst xs) ∨
    ∃ (o : Obj) (its : Array Value) (n : Nat),K.lookup a = some o ∧ o.cls = .type "list" ∧ o.dict = none ∧ o.data = .seq its n ∧ its.size ≤ sizeLine ∧ Vals xs its.toList
def SqT (K : PySem.W.Frag) (H : Hp) (a : Addr) (xs : List V) : Prop:=
  Rd H a (.tup xs) ∨
    ∃ (o : Obj) (its : Array Value) (n : Nat),K.lookup a = some o ∧ o.cls = .type "tuple" ∧ o.data = .seq its n ∧ its.size ≤ sizeLine ∧ Vals xs its.toList
def absV : Value → Option V
  | .none=>some .non
  | .bool b=>some (.bl b)
  | .int i _=>some (.int i)
  | .str x _=>some (.str x)
  | .bytes b _=>some (.byt b)
  | .float b _=>some (.flt b)
  | .ref a=>some (.ref a)
  | .type n=>some (.ty n)
  | _=>none
theorem RelV.abs {x : V} {u : Value} (r : RelV x u) : absV u = some x:=by
  cases x with
  | non=>cases r; rfl
  | bl _=>cases r; rfl
  | int _=>obtain ⟨t,rfl⟩:=r; rfl
  | str _=>obtain ⟨t,rfl⟩:=r; rfl
  | byt _=>obtain ⟨t,rfl⟩:=r; rfl
  | flt _=>obtain ⟨t,rfl⟩:=r; rfl
  | ref _=>cases r; rfl
  | ty _=>cases r; rfl
theorem RelV.inj {x y : V} {u : Value} (r : RelV x u) (q : RelV y u) : x = y:=Option.some.inj (r.abs.symm.trans q.abs)
theorem Vals.inj : ∀ {xs ys : List V} {us : List Value},Vals xs us → Vals ys us → xs = ys
  | _,_,_,.nil,.nil=>rfl
  | _,_,_,.cons r t,.cons r' t'=>by rw [r.inj r',Vals.inj t t']
section
variable {X : Cx} {pins : List (Addr × Obj)} {σ : St} {H : Hp} {s : Shared} {a : Addr} {xs ys : List V}
theorem SqL.of {K : PySem.W.Frag} (h : H a = some (.lst xs)) : SqL K H a xs:=.inl (.inl h)
theorem SqT.of {K : PySem.W.Frag} (h : H a = some (.tup xs)) : SqT K H a xs:=.inl (.inl h)
theorem Inv.list (I : Inv X pins σ H s) (h : SqL X.K H a xs) : ∃ its : List Value,Vals xs its ∧ PlainL s.heap a its.toArray ∧ xs.length ≤ sizeLine:=by
  rcases h with h | ⟨o,its,n,hk,hc,hd,hs,hz,r⟩
  · obtain ⟨z,its,n,r,e⟩:=h.ok I.hok
    exact ⟨its,r,⟨_,n,e,rfl,rfl,rfl⟩,z⟩
  · refine ⟨its.toList,r,⟨o,n,I.kIn a o hk,hc,hd,by simpa using hs⟩,?_⟩
    have e:=r.length
    simp only [Array.length_toList] at e
    omega
theorem Inv.tuple (I : Inv X pins σ H s) (h : SqT X.K H a xs) : ∃ its : List Value,Vals xs its ∧ IsTup s.heap a its.toArray ∧ xs.length ≤ sizeLine:=by
  rcases h with h | ⟨o,its,n,hk,hc,hs,hz,r⟩
  · obtain ⟨z,its,r,p⟩:=h.ok I.hok
    exact ⟨its,r,p,z⟩
  · refine ⟨its.toList,r,⟨o,I.kIn a o hk,hc,n,by simpa using hs⟩,?_⟩
    have e:=r.length
    simp only [Array.length_toList] at e
    omega
theorem Inv.list_inj (I : Inv X pins σ H s) (h : SqL X.K H a xs) (h' : SqL X.K H a ys) : xs = ys:=by
  obtain ⟨its,r,⟨o,n,e,_,_,d⟩,_⟩:=I.list h
  obtain ⟨its',r',⟨o',n',e',_,_,d'⟩,_⟩:=I.list h'
  rw [e] at e'; cases e'
  rw [d] at d'
  injection d' with d1 _
  have : its = its':=by simpa using congrArg Array.toList d1
  subst this
  exact r.inj r'
theorem Inv.tuple_inj (I : Inv X pins σ H s) (h : SqT X.K H a xs) (h' : SqT X.K H a ys) : xs = ys:=by
  obtain ⟨its,r,⟨o,e,_,n,d⟩,_⟩:=I.tuple h
  obtain ⟨its',r',⟨o',e',_,n',d'⟩,_⟩:=I.tuple h'
  rw [e] at e'; cases e'
  rw [d] at d'
  injection d' with d1 _
  have : its = its':=by simpa using congrArg Array.toList d1
  subst this
  exact r.inj r'
end
abbrev Cx.wish (X : Cx) (E : Value → Shared → Prop) : Cx:={ X with xe:=E }
abbrev Cx.nox (X : Cx) : Cx:=X.wish fun _ _=>False
theorem Cx.Ok.wish {X : Cx} (ok : X.Ok) (E : Value → Shared → Prop) : (X.wish E).Ok:=
  ⟨ok.mod,ok.kind,ok.glob,ok.blt,ok.above,ok.inj,ok.has,ok.cab,ok.hd,ok.frames,ok.stk,ok.exf,ok.bs,ok.bsz,ok.noex,ok.exfs,ok.funs,ok.frf⟩
theorem Cx.Ok.unwish {X : Cx} {E : Value → Shared → Prop} (ok : (X.wish E).Ok) : X.Ok:=
  ⟨ok.mod,ok.kind,ok.glob,ok.blt,ok.above,ok.inj,ok.has,ok.cab,ok.hd,ok.frames,ok.stk,ok.exf,ok.bs,ok.bsz,ok.noex,ok.exfs,ok.funs,ok.frf⟩
section
variable {X : Cx} {pins : List (Addr × Obj)} {σ : St} {H : Hp} {s : Shared} {E : Value → Shared → Prop}
theorem Inv.wish (I : Inv X pins σ H s) (E : Value → Shared → Prop) : Inv (X.wish E) pins σ H s:=⟨I.ok.wish E,I.os,I.bare,I.base,I.loc,I.cell,I.free,I.freeC,I.pin,I.hok,I.len⟩
theorem Inv.unwish (I : Inv (X.wish E) pins σ H s) : Inv X pins σ H s:=⟨I.ok.unwish,I.os,I.bare,I.base,I.loc,I.cell,I.free,I.freeC,I.pin,I.hok,I.len⟩
theorem SP.unwish {D : Ends} {f : Flow} {s' : Shared} (h : SP (X.wish E) pins D f s') : SP X pins D f s':=by
  cases f with
  | next=>obtain ⟨σ',H',I,q⟩:=h; exact ⟨σ',H',I.unwish,q⟩
  | brk=>obtain ⟨σ',H',I,q⟩:=h; exact ⟨σ',H',I.unwish,q⟩
  | cont=>obtain ⟨σ',H',I,q⟩:=h; exact ⟨σ',H',I.unwish,q⟩
  | ret u=>obtain ⟨v,σ',H',I,r,q⟩:=h; exact ⟨v,σ',H',I.unwish,r,q⟩
theorem PSs.nox {st : List Stmt} {t : TS} (h : PSs X.nox st t) : PSs X st t:=fun pins s σ H D I hw=>
  wpAny_mono (h pins s σ H D (I.wish _) hw) (fun _ _ q=>q.unwish) fun _ _ z=>False.elim z
end
section
variable {X : Cx} {st : Stmt} {rest : List Stmt} {t u : TS} {e : Expr} {te : TE} {pos : Pos}
def tNext : TS:=fun D σ H=>D.nx σ H
def tSeq (t u : TS) : TS:=fun D σ H=>t { D with nx:=u D } σ H
theorem pss_nil : PSs X [] tNext:=fun _ _ σ H _ I h=>wpAny_execs_nil ⟨σ,H,I,h⟩
theorem pss_cons (h1 : PS X st t) (h2 : PSs X rest u) : PSs X (st :: rest) (tSeq t u):=by
  intro pins s σ H D I h
  refine wpAny_execs_cons (thn (h1 pins s σ H { D with nx:=u D } I h) fun f s1 q=>?_)
  cases f with
  | next=>
    obtain ⟨σ',H',I',q⟩:=q
    exact h2 pins s1 σ' H' D I' q
  | ret v=>exact q
  | brk=>exact q
  | cont=>exact q
theorem pss_one (h1 : PS X st t) : PSs X [st] t:=by
  intro pins s σ H D I h
  refine wpAny_execs_cons (thn (h1 pins s σ H D I h) fun f s1 q=>?_)
  cases f with
  | next=>exact wpAny_execs_nil q
  | ret v=>exact q
  | brk=>exact q
  | cont=>exact q
theorem Inv.quiet {pins : List (Addr × Obj)} {σ : St} {H : Hp} {s : Shared} (I : Inv X pins σ H s) : interactive X.env = false:=by simp [interactive,I.ok.kind]
def tDrop (te : TE) : TS:=fun D σ H=>te σ H fun _ H1=>D.nx σ H1
theorem ps_expr (he : PE X e te) (hs : swapsWith e none pos.line X.env = pure false:=by rfl) : PS X (.Expr e pos) (tDrop te):=by
  intro pins s σ H D I h
  exact wpAny_Expr_any (thn (he pins s σ H _ I h) fun v s1 ⟨x,H1,I1,r1,q1⟩=>⟨σ,H1,I1,q1⟩) I.quiet hs
def tRet (te : TE) : TS:=fun D σ H=>te σ H D.rt
theorem ps_ret (he : PE X e te) : PS X (.Return (some e) pos) (tRet te):=by
  intro pins s σ H D I h
  exact wpAny_Return_some (thn (he pins s σ H _ I h) fun v s1 ⟨x,H1,I1,r1,q1⟩=>⟨x,σ,H1,I1,r1,q1⟩)
def tRetN : TS:=fun D _ H=>D.rt .non H
def tIfS (c : TT) (t u : TS) : TS:=fun D σ H=>c σ H fun b H1=>if b = true then t D σ H1 else u D σ H1
theorem ps_if {c : Expr} {a b : List Stmt} {tc : TT} (hc : PT X c tc) (ha : PSs X a t) (hb : PSs X b u) : PS X (.If c a b pos) (tIfS tc t u):=by
  intro pins s σ H D I h
  refine wpAny_If (thn (hc pins s σ H _ I h) fun d s1 ⟨H1,I1,q1⟩=>?_)
  cases d with
  | true=>exact ha pins s1 σ H1 D I1 q1
  | false=>exact hb pins s1 σ H1 D I1 q1
def tNever : TS:=fun _ _ _=>False
theorem ps_never : PS X st tNever:=fun _ _ _ _ _ _ h=>h.elim
end
abbrev TG:=V → St → Hp → (St → Hp → Prop) → Prop
abbrev TGs:=List V → St → Hp → (St → Hp → Prop) → Prop
def PG (X : Cx) (target : Expr) (t : TG) : Prop:=
  ∀ (pins : List (Addr × Obj)) (s : Shared) (σ : St) (H : Hp) (v : V) (u : Value) (Q : St → Hp → Prop),Inv X pins σ H s → RelV v u → t v σ H Q →
    wpAny (model X.prog X.w) X.A (assign target X.env u) (fun _ s'=>∃ σ' H',Inv X pins σ' H' s' ∧ Q σ' H') X.xe s
def PGs (X : Cx) (ts : List Expr) (t : TGs) : Prop:=
  ∀ (pins : List (Addr × Obj)) (s : Shared) (σ : St) (H : Hp) (vs : List V) (us : List Value) (Q : St → Hp → Prop),Inv X pins σ H s → Vals vs us → t vs σ H Q →
    wpAny (model X.prog X.w) X.A (assignInOrder ((assignEach ts X.env).map (·.2)) us) (fun _ s'=>∃ σ' H',Inv X pins σ' H' s' ∧ Q σ' H') X.xe s
abbrev TSet:=V → V → V → Hp → (Hp → Prop) → Prop
def PSet (X : Cx) (t : TSet) : Prop:=
  ∀ (pins : List (Addr × Obj)) (s : Shared) (σ : St) (H : Hp) (o i v : V) (ov iv u : Value) (Q : Hp → Prop),Inv X pins σ H s → RelV o ov → RelV i iv → RelV v u → t o i v H Q →
    wpAny (model X.prog X.w) X.A (setItem ov iv u) (fun _ s'=>∃ H',Inv X pins σ H' s' ∧ Q H') X.xe s
abbrev TIp:=V → V → Hp → VK → Prop
def PIp (X : Cx) (op : Operator) (t : TIp) : Prop:=
  ∀ (pins : List (Addr × Obj)) (s : Shared) (σ : St) (H : Hp) (x y : V) (v u : Value) (Q : VK),Inv X pins σ H s → RelV x v → RelV y u → t x y H Q →
    wpAny (model X.prog X.w) X.A (inplaceOp op v u) (EP X pins σ Q) X.xe s
section
variable {X : Cx} {pos : Pos}
def gName (i : Nat) : TG:=fun v σ H Q=>Q (σ.set i (some v)) H
theorem pg_name {i : Nat} {x : Str} (hN : X.N.Nodup) (hi : X.N[i]? = some x) (hx : Loc X.env.scope x) (hf : X.fn x = true ∨ X.env.scope.names.lookup x = some .local:=by first | exact .inl rfl | exact .inr rfl | assumption) : PG X (.Name x pos) (gName i):=by
  intro pins s σ H v u Q I r h
  exact wpAny_assign_Name (store_ok I hN hi hx r (fun s' I'=>⟨_,H,I',h⟩) hf)
def gNil : TGs:=fun vs σ H Q=>vs = [] ∧ Q σ H
def gCons (t : TG) (u : TGs) : TGs:=fun vs σ H Q=>∃ v r,vs = v :: r ∧ t v σ H fun σ' H'=>u r σ' H' Q
theorem pgs_nil : PGs X [] gNil:=by
  intro pins s σ H vs us Q I r h
  obtain ⟨e,h⟩:=h
  subst e
  cases r
  exact assignInOrder_nil ⟨σ,H,I,h⟩
theorem pgs_cons {e : Expr} {es : List Expr} {t : TG} {u : TGs} (h1 : PG X e t) (h2 : PGs X es u)
    (hs : (assignEach (e :: es) X.env).map (·.2) = assign e X.env :: (assignEach es X.env).map (·.2):=by rfl) : PGs X (e :: es) (gCons t u):=by
  intro pins s σ H vs us Q I r h
  obtain ⟨v,vr,e1,h⟩:=h
  subst e1
  cases r with
  | cons r rr=>
    rw [hs]
    refine assignInOrder_cons (thn (h1 pins s σ H _ _ _ I r h) fun _ s1 ⟨σ1,H1,I1,q1⟩=>?_)
    exact h2 pins s1 σ1 H1 _ _ Q I1 rr q1
def gTup (K : PySem.W.Frag) (n : Nat) (t : TGs) : TG:=fun v σ H Q=>∃ a xs,v = .ref a ∧ SqT K H a xs ∧ xs.length = n ∧ t xs σ H Q
theorem pg_tup {es : List Expr} {k : Nat} {t : TGs} {n : Nat} (hc : X.calm = true) (h : PGs X es t)
    (hn : (assignEach es X.env).length = n:=by rfl) (hst : (assignEach es X.env).findIdx? (·.1) = none:=by rfl) : PG X (.Tuple es k pos) (gTup X.K n t):=by
  intro pins s σ H v u Q I r hw
  obtain ⟨a,xs,e1,hq,hl,hw⟩:=hw
  subst e1
  cases r
  obtain ⟨its,rv,ht,hz⟩:=I.tuple hq
  refine assign_Tuple_tuple (I.ok.hd hc) ht (by simp [hn,← hl,rv.length]) hst fun h' hx=>?_
  have I1 : Inv X pins σ H { s with heap:=h' }:=I.kept (t':=s.toks) fun b o e=>hx b o (Nat.ne_of_lt (Heap.lt_size e)) e
  exact h pins _ σ H xs _ Q I1 (by simpa using rv) hw
def gSub (to ti : TE) (t : TSet) : TG:=fun v σ H Q=>to σ H fun o H1=>ti σ H1 fun i H2=>t o i v H2 fun H3=>Q σ H3
theorem pg_sub {o i : Expr} {to ti : TE} {t : TSet} (ho : PE X o to) (hi : PE X i ti) (hs : PSet X t)
    (ha : ∀ v,assign (.Subscript o i pos) X.env v = (do
      let ov ← holding [v] (eval o X.env)
      let iv ← holding [v,ov] (eval i X.env)
      standAt pos
      holding [v,ov,iv] (setItem ov iv v)
      release [v,ov,iv] []):=by intro _; rfl) : PG X (.Subscript o i pos) (gSub to ti t):=by
  intro pins s σ H v u Q I r h
  rw [ha]
  refine wpAny_bind (wpAny_holding (thn (ho pins s σ H _ I h) fun ov s1 ⟨x,H1,I1,r1,q1⟩=>?_))
  refine wpAny_bind (wpAny_holding (thn (hi pins s1 σ H1 _ I1 q1) fun iv s2 ⟨y,H2,I2,r2,q2⟩=>?_))
  refine wpAny_bind (wpAny_standAt (wpAny_bind (wpAny_holding (thn (hs pins s2 σ H2 x y v ov iv u _ I2 r1 r2 r q2) fun _ s3 ⟨H3,I3,q3⟩=>?_))))
  exact wpAny_release ⟨σ,H3,I3,q3⟩
def tAsg (te : TE) (g : TG) : TS:=fun D σ H=>te σ H fun x H1=>g x σ H1 D.nx
theorem ps_asg {tg e : Expr} {te : TE} {g : TG} (he : PE X e te) (hg : PG X tg g) (hs : swapsWithSole [tg] e pos.line X.env = pure false:=by rfl) (hw : swappedStores [tg] e X.env = pure none:=by rfl)
    (h1 : (assignEach [tg] X.env).map (·.2) = [assign tg X.env]:=by rfl) : PS X (.Assign [tg] e pos) (tAsg te g):=by
  intro pins s σ H D I h
  refine wpAny_Assign_stores (thn (he pins s σ H _ I h) fun v s1 ⟨x,H1,I1,r1,q1⟩=>?_) hs hw
  rw [h1]
  exact thn (hg pins s1 σ H1 x v _ I1 r1 q1) fun _ s2 q=>q
theorem ps_set {i : Nat} {x : Str} {e : Expr} {te : TE} {pos' : Pos} (hN : X.N.Nodup) (hi : X.N[i]? = some x) (hx : Loc X.env.scope x) (he : PE X e te) (hs : swapsWith e (some (.Name x pos')) pos.line X.env = pure false:=by rfl) (hf : X.fn x = true ∨ X.env.scope.names.lookup x = some .local:=by first | exact .inl rfl | exact .inr rfl | assumption) :
    PS X (.Assign [.Name x pos'] e pos) (tAsg te (gName i)):=by
  intro pins s σ H D I h
  refine wpAny_Assign_Name (thn (he pins s σ H _ I h) fun v s1 ⟨y,H1,I1,r1,q1⟩=>?_) hs
  exact store_ok I1 hN hi hx r1 (fun s2 I2=>⟨_,H1,I2,q1⟩) hf
def tPar (i j : Nat) (ta : TA) : TS:=fun D σ H=>ta σ H fun vs H1=>∃ v w,vs = [v,w] ∧ D.nx ((σ.set i (some v)).set j (some w)) H1
def tAug (i : Nat) (te : TE) (ti : TIp) : TS:=fun D σ H=>∃ x,σ[i]? = some (some x) ∧ te σ H fun y H1=>ti x y H1 fun z H2=>D.nx (σ.set i (some z)) H2
theorem ps_aug {i : Nat} {x : Str} {e : Expr} {te : TE} {op : Operator} {ti : TIp} {pos' : Pos} (hN : X.N.Nodup) (hi : X.N[i]? = some x) (hx : Loc X.env.scope x) (he : PE X e te) (ho : PIp X op ti) (hf : X.fn x = true ∨ X.env.scope.names.lookup x = some .local:=by first | exact .inl rfl | exact .inr rfl | assumption) :
    PS X (.AugAssign (.Name x pos') op e pos) (tAug i te ti):=by
  intro pins s σ H D I h
  obtain ⟨v,e1,h⟩:=h
  obtain ⟨m,hn,hl⟩:=I.loc
  have vis : Vis X.env.scope x:=by rcases hx with k | k; exact .inl k; exact .inr (.inl k)
  obtain ⟨u,r,l⟩:=hl i x v hi e1 vis
  refine wpAny_AugAssign_Name ?_
  have go : wpAny (model X.prog X.w) X.A (eval e X.env) (fun w s₂=>wpAny (model X.prog X.w) X.A (inplaceOp op u w) (fun r s₃=>wpAny (model X.prog X.w) X.A (storeName X.env x r) (fun _=>SP X pins D .next) X.xe s₃) X.xe s₂) X.xe s:=by
    refine thn (he pins s σ H _ I h) fun w s1 ⟨y,H1,I1,r1,q1⟩=>?_
    refine thn (ho pins s1 σ H1 v y u w _ I1 r r1 q1) fun z s2 ⟨zv,H2,I2,r2,q2⟩=>?_
    exact store_ok I2 hN hi hx r2 (fun s3 I3=>⟨_,H2,I3,q2⟩) hf
  rcases l with ⟨hk,hm⟩ | ⟨hk,c,hc,hcell⟩
  · exact wpAny_loadName_local I.ok.kind hk hn hm go
  · rcases hk with hk | hk
    · exact wpAny_loadName_cell I.ok.kind hk hc hcell go
    · rcases hx with k | k
      · have : X.env.scope.names.lookup x = some .free:=hk
        rw [k] at this; cases this
      · have : X.env.scope.names.lookup x = some .free:=hk
        rw [k] at this; cases this
def tAugS (to ti te : TE) (tget : V → V → Hp → VK → Prop) (tip : TIp) (tset : TSet) : TS:=fun D σ H=>to σ H fun o H1=>ti σ H1 fun i H2=>tget o i H2 fun x H3=>te σ H3 fun y H4=>tip x y H4 fun z H5=>tset o i z H5 fun H6=>D.nx σ H6
def PGet (X : Cx) (t : V → V → Hp → VK → Prop) : Prop:=
  ∀ (pins : List (Addr × Obj)) (s : Shared) (σ : St) (H : Hp) (o i : V) (ov iv : Value) (Q : VK),Inv X pins σ H s → RelV o ov → RelV i iv → t o i H Q →
    wpAny (model X.prog X.w) X.A (getItem ov iv) (EP X pins σ Q) X.xe s
theorem ps_augS {o i e : Expr} {to ti te : TE} {tget : V → V → Hp → VK → Prop} {tip : TIp} {tset : TSet} {op : Operator} {tpos : Pos} (ho : PE X o to) (hi : PE X i ti) (hg : PGet X tget) (he : PE X e te) (hp : PIp X op tip) (hs : PSet X tset)
    (ha : ∀ ov iv new,augStore i ov iv new = (do holding [new,ov,iv] (setItem ov iv new); release [new,ov,iv] []; pure .next):=by intros; rfl) : PS X (.AugAssign (.Subscript o i tpos) op e pos) (tAugS to ti te tget tip tset):=by
  intro pins s σ H D I h
  refine wpAny_AugAssign_SubscriptAny (thn (ho pins s σ H _ I h) fun ov s1 ⟨x1,H1,I1,r1,q1⟩=>?_) ha
  refine thn (hi pins s1 σ H1 _ I1 q1) fun iv s2 ⟨x2,H2,I2,r2,q2⟩=>?_
  refine thn (hg pins s2 σ H2 x1 x2 ov iv _ I2 r1 r2 q2) fun old s3 ⟨x3,H3,I3,r3,q3⟩=>?_
  refine thn (he pins s3 σ H3 _ I3 q3) fun v s4 ⟨x4,H4,I4,r4,q4⟩=>?_
  refine thn (hp pins s4 σ H4 x3 x4 old v _ I4 r3 r4 q4) fun new s5 ⟨x5,H5,I5,r5,q5⟩=>?_
  exact thn (hs pins s5 σ H5 x1 x2 x5 ov iv new _ I5 r1 r2 r5 q5) fun _ s6 ⟨H6,I6,q6⟩=>⟨σ,H6,I6,q6⟩
def ipI (f : Int → Int → Int) : TIp:=fun x y H Q=>∃ i j,x = .int i ∧ y = .int j ∧ Q (.int (f i j)) H
theorem ip_add : PIp X .Add (ipI fun i j=>i + j):=by
  intro pins s σ H x y v u Q I r1 r2 h
  obtain ⟨i,j,e1,e2,q⟩:=h
  subst e1; subst e2
  obtain ⟨t,rfl⟩:=r1
  obtain ⟨t',rfl⟩:=r2
  exact iadd_int ⟨.int _,H,I.tok _,⟨_,rfl⟩,q⟩
end
section
variable {X : Cx} {pos : Pos}
def tWhile (c : TT) (tb : TS) : TS:=fun D σ H=>∃ W : Nat → St → Hp → Prop,(∃ m,W m σ H) ∧ ∀ m σ H,W m σ H →
  c σ H fun b H1=>if b = true then ∃ N : St → Hp → Prop,(∀ σ' H',N σ' H' → ∃ m',m' < m ∧ W m' σ' H') ∧ tb { D with nx:=N,ct:=N,bk:=D.nx } σ H1 else D.nx σ H1
theorem ps_while {c : Expr} {body : List Stmt} {tc : TT} {tb : TS} (hp : PassesOwn (model X.prog X.w) X.A X.env X.xe) (hc : PT X c tc) (hb : PSs X body tb) : PS X (.While c body [] pos) (tWhile tc tb):=by
  intro pins s σ H D I h
  obtain ⟨W,⟨m0,w0⟩,turn⟩:=h
  refine wpAny_While (codeAny_whileLoop (fun n s'=>∃ σ' H',Inv X pins σ' H' s' ∧ W n σ' H') ?_ m0 ⟨σ,H,I,w0⟩)
  rintro n s1 ⟨σ1,H1,I1,w1⟩
  refine wpAny_passesOwn hp (thn (hc pins s1 σ1 H1 _ I1 (turn n σ1 H1 w1)) fun b s2 ⟨H2,I2,q2⟩=>?_)
  cases b with
  | true=>
    obtain ⟨N,hN,q2⟩:=q2
    rw [if_pos rfl]
    refine wpAny_passesOwn hp (thn (hb pins s2 σ1 H2 _ I2 q2) fun f s3 q3=>?_)
    cases f with
    | next=>
      obtain ⟨σ3,H3,I3,n3⟩:=q3
      obtain ⟨m',hm,w3⟩:=hN σ3 H3 n3
      exact ⟨m',hm,σ3,H3,I3,w3⟩
    | cont=>
      obtain ⟨σ3,H3,I3,n3⟩:=q3
      obtain ⟨m',hm,w3⟩:=hN σ3 H3 n3
      exact ⟨m',hm,σ3,H3,I3,w3⟩
    | brk=>exact q3
    | ret v=>exact q3
  | false=>
    rw [if_neg Bool.false_ne_true]
    exact wpAny_execs_nil ⟨σ1,H2,I2,q2⟩
end
structure It where
  go : Nat → Hp → Prop
  yld : Nat → Hp → V → Hp → Prop
  stop : Nat → Hp → Prop
def FpOk (X : Cx) (pins : List (Addr × Obj)) (H : Hp) (b : Addr) : Prop:=
  H b = none ∧ b ≠ X.env.locals ∧ b ∉ X.fs ∧ (b ∈ X.ex ∨ X.s₀.heap.objs.size ≤ b) ∧ (∀ x c,X.env.cells.lookup x = some c → c ≠ b) ∧ ∀ p ∈ X.pn ++ pins,p.1 ≠ b
theorem Inv.fpOk {X : Cx} {pins : List (Addr × Obj)} {σ : St} {H H' : Hp} {s : Shared} {b : Addr} (I : Inv X pins σ H s) (hb : s.heap.objs.size ≤ b) (hn : H' b = none) : FpOk X pins H' b:=by
  refine ⟨hn,Nat.ne_of_gt (Nat.lt_of_lt_of_le I.lt hb),I.nofs hb,.inr (Nat.le_trans I.sz hb),fun x c e z=>?_,fun p hp z=>?_⟩
  · obtain ⟨v,q⟩:=I.cell x c e
    exact absurd (Nat.lt_of_lt_of_le q.lt (by rw [z]; exact hb)) (Nat.lt_irrefl _)
  · exact absurd (Nat.lt_of_lt_of_le (Heap.lt_size (I.pin p hp).1) (by rw [z]; exact hb)) (Nat.lt_irrefl _)
structure Turn (P : Program) (w : World) (K : PySem.W.Frag) (tg : Expr) (J : It) (fp : List Addr) (it : Addr) (tn : Nat → Heap → Prop) : Prop where
  mem : it ∈ fp
  obj : ∀ i h,tn i h → ∀ b ∈ fp,∃ o,h.get? b = some o ∧ ∀ v,o.data ≠ .cell v
  keep : ∀ i h h',tn i h → (∀ b ∈ fp,∀ o,h.get? b = some o → h'.get? b = some o) → tn i h'
  item : ∀ (X : Cx),X.prog = P → X.w = w → X.K = K → X.calm = true → ∀ (i : Nat) (pins : List (Addr × Obj)) (s : Shared) (σ : St) (H : Hp) (E : Value → Shared → Prop),Inv X pins σ H s → (∀ b ∈ fp,FpOk X pins H b) → tn i s.heap → J.go i H →
    wpAny (model P w) X.A (pyNext (.ref it)) (fun r s1=>∃ u,r = some u ∧
      wpAny (model P w) X.A (letOwnedTupleGo tg (.ref it) u) (fun _ s2=>∃ x H',Inv X pins σ H' s2 ∧ RelV x u ∧ J.yld i H x H' ∧ tn (i + 1) s2.heap ∧ ∀ b ∈ fp,H' b = none) E s1) E s
  done : ∀ (X : Cx),X.prog = P → X.w = w → X.K = K → X.calm = true → ∀ (i : Nat) (pins : List (Addr × Obj)) (s : Shared) (σ : St) (H : Hp) (E : Value → Shared → Prop),Inv X pins σ H s → (∀ b ∈ fp,FpOk X pins H b) → tn i s.heap → J.stop i H →
    wpAny (model P w) X.A (pyNext (.ref it)) (fun r s1=>r = none ∧ Inv X pins σ H s1) E s
  self : ∀ (A : Around) (i : Nat) (s : Shared) (Q : Value → Shared → Prop) (E : Value → Shared → Prop),tn i s.heap → Q (.ref it) s → wpAny (model P w) A (pyIter (.ref it)) Q E s
abbrev TI:=St → Hp → (It → Hp → Prop) → Prop
def PIE (X : Cx) (pins : List (Addr × Obj)) (σ : St) (tg : Expr) (R : It → Hp → Prop) (itv : Value) (s2 : Shared) : Prop:=
  ∃ (it : Addr) (fp : List Addr) (tn : Nat → Heap → Prop) (J : It) (H' : Hp),itv = .ref it ∧ Inv X pins σ H' s2 ∧ Turn X.prog X.w X.K tg J fp it tn ∧ tn 0 s2.heap ∧ (∀ b ∈ fp,FpOk X pins H' b) ∧ R J H'
def PI (X : Cx) (tg iter : Expr) (wi : TI) : Prop:=
  ∀ (pins : List (Addr × Obj)) (s : Shared) (σ : St) (H : Hp) (R : It → Hp → Prop),Inv X pins σ H s → wi σ H R →
    wpAny (model X.prog X.w) X.A (eval iter X.env) (fun v s1=>wpAny (model X.prog X.w) X.A (pyIter v) (PIE X pins σ tg R) X.xe s1) X.xe s
theorem go_of {M : Model} {A : Around} {E : Value → Shared → Prop} {s : Shared} {tg : Expr} {it : Addr} {u : Value} {o : Obj} {n : String} {vs : Array Value} {Q : Unit → Shared → Prop} (ho : s.heap.get? it = some o) (hc : o.cls = .type n) (hd : o.data = .fields vs)
    (hn : ["enumerate","zip","dict_itemiterator","dict_reverseitemiterator","odict_iterator","itertools.zip_longest","itertools.pairwise"].contains n = false) (hQ : Q () s) : wpAny M A (letOwnedTupleGo tg (.ref it) u) Q E s:=by
  unfold letOwnedTupleGo
  cases tg <;> first
    | exact wpAny_pure hQ
    | (cases u <;> first
        | exact wpAny_pure hQ
        | (refine wpAny_bind (wpAny_load ho ?_)
           rw [hc,hd]
           show wpAny M A (if (["enumerate","zip","dict_itemiterator","dict_reverseitemiterator","odict_iterator","itertools.zip_longest","itertools.pairwise"].contains n && vs[0]? == some (rawInt _)) = true then _ else _) Q E s
           rw [if_neg (by intro h; rw [hn,Bool.false_and] at h; cases h)]
           exact wpAny_pure hQ))
def Itl (K : PySem.W.Frag) (a : Addr) : It:=
  ⟨fun i H=>∃ xs x,SqL K H a xs ∧ xs[i]? = some x,fun i H x H'=>H' = H ∧ ∀ xs,SqL K H a xs → xs[i]? = some x,fun i H=>∃ xs,SqL K H a xs ∧ xs.length ≤ i⟩
def Itt (K : PySem.W.Frag) (a : Addr) : It:=
  ⟨fun i H=>∃ xs x,SqT K H a xs ∧ xs[i]? = some x,fun i H x H'=>H' = H ∧ ∀ xs,SqT K H a xs → xs[i]? = some x,fun i H=>∃ xs,SqT K H a xs ∧ xs.length ≤ i⟩
def Itr (lo : Int) (n : Nat) : It:=⟨fun i _=>i < n,fun i H x H'=>H' = H ∧ x = .int (lo + i),fun i _=>n ≤ i⟩
theorem turn_list {P : Program} {w : World} {K : PySem.W.Frag} {tg : Expr} (a it : Addr) : Turn P w K tg (Itl K a) [it] it (fun i h=>h.IsListIter it a i) where
  mem:=by simp
  obj:=fun i h st b hb=>by
    have e : b = it:=by simpa using hb
    subst e
    obtain ⟨o,e,c,d⟩:=st
    exact ⟨o,e,fun v z=>by rw [d] at z; cases z⟩
  keep:=fun i h h' st k=>st.at fun o e=>k it (by simp) o e
  item:=by
    intro X hP hw hK hc i pins s σ H E I hf st hg
    subst hP hw hK
    obtain ⟨xs,x,hq,hx⟩:=hg
    obtain ⟨its,rv,p,hz⟩:=I.list hq
    obtain ⟨u,hu,ru⟩:=rv.get hx
    obtain ⟨f0,f1,f2,f3,f4,f5⟩:=hf it (by simp)
    refine wpAny_pyNext_list_item st p.isList (x:=u) (by simpa using hu) fun h' st' sb=>?_
    have I1 : Inv X pins σ H { s with heap:=h' }:=I.turned (t':=s.toks) (fun b o hb e=>(sb.2 b hb).trans e) f0 f1 f3 f4 f5
    obtain ⟨o,e,c,d⟩:=id st'
    exact ⟨u,rfl,go_of (s:={ s with heap:=h' }) e c d (by decide) ⟨x,H,I1,ru,⟨rfl,fun ys hy=>by rw [I.list_inj hy hq]; exact hx⟩,st',fun b hb=>(hf b hb).1⟩⟩
  done:=by
    intro X hP hw hK hc i pins s σ H E I hf st hg
    subst hP hw hK
    obtain ⟨xs,hq,hx⟩:=hg
    obtain ⟨its,rv,p,hz⟩:=I.list hq
    obtain ⟨f0,f1,f2,f3,f4,f5⟩:=hf it (by simp)
    have hl:=rv.length
    exact wpAny_pyNext_list_end (I.ok.hd hc) st p.isList (by simp; omega) fun h' eb=>⟨rfl,I.turned (t':=s.toks) (fun b o hb e=>eb b o hb e) f0 f1 f3 f4 f5⟩
  self:=fun _ _ _ _ _ st h=>wpAny_pyIter_listiter st h
theorem turn_range {P : Program} {w : World} {K : PySem.W.Frag} {tg : Expr} (it : Addr) (lo : Int) (n : Nat) : Turn P w K tg (Itr lo n) [it] it (fun i h=>IsRangeIter h it (lo + (i : Nat) * 1) ((n : Int) - (i : Nat)) 1) where
  mem:=by simp
  obj:=fun i h st b hb=>by
    have e : b = it:=by simpa using hb
    subst e
    exact ⟨_,st,fun v z=>by
      have z' : Data.fields _ = Data.cell v:=z
      cases z'⟩
  keep:=fun i h h' st k=>k it (by simp) _ st
  item:=by
    intro X hP hw hK hc i pins s σ H E I hf st hg
    subst hP hw hK
    obtain ⟨f0,f1,f2,f3,f4,f5⟩:=hf it (by simp)
    have W:=Walks.range (prog:=X.prog) (w:=X.w) (I.ok.hd hc) it lo 1 n
    refine W.item i s _ _ hg st fun v h' tk hv st' kk=>?_
    obtain ⟨t,rfl⟩:=hv
    have I1 : Inv X pins σ H { s with heap:=h',toks:=tk }:=I.turned (fun b o hb e=>kk b o (by simpa using hb) e) f0 f1 f3 f4 f5
    refine ⟨_,rfl,go_of (s:={ s with heap:=h',toks:=tk }) (n:="range_iterator") st' rfl rfl (by decide) ⟨.int (lo + i),H,I1,⟨t,?_⟩,⟨rfl,rfl⟩,st',fun b hb=>(hf b hb).1⟩⟩
    rw [Int.mul_one]
  done:=by
    intro X hP hw hK hc i pins s σ H E I hf st hg
    subst hP hw hK
    obtain ⟨f0,f1,f2,f3,f4,f5⟩:=hf it (by simp)
    exact wpAny_pyNext_range_end (I.ok.hd hc) st (by have : n ≤ i:=hg; omega) fun h' eb=>⟨rfl,I.turned (t':=s.toks) (fun b o hb e=>eb b o hb e) f0 f1 f3 f4 f5⟩
  self:=fun _ _ _ _ _ st h=>wpAny_pyIter_rangeiter st h
end L2
namespace L2
open PySem PySem.Spec PyProof.Rows
section
variable {X : Cx} {tg : Expr}
def iList (K : PySem.W.Frag) (tl : TE) : TI:=fun σ H R=>tl σ H fun x H1=>∃ a,x = .ref a ∧ (∃ xs,SqL K H1 a xs) ∧ R (Itl K a) H1
def iTup (K : PySem.W.Frag) (tl : TE) : TI:=fun σ H R=>tl σ H fun x H1=>∃ a,x = .ref a ∧ (∃ xs,SqT K H1 a xs) ∧ R (Itt K a) H1
theorem pi_list {l : Expr} {tl : TE} (hl : PE X l tl) : PI X tg l (iList X.K tl):=by
  intro pins s σ H R I h
  refine thn (hl pins s σ H _ I h) fun v s1 ⟨x,H1,I1,r1,q1⟩=>?_
  obtain ⟨a,e,⟨xs,hq⟩,q⟩:=q1
  subst e
  cases r1
  obtain ⟨its,rv,p,hz⟩:=I1.list hq
  refine wpAny_pyIter_list p.isList ?_
  refine ⟨s1.heap.objs.size,[s1.heap.objs.size],_,_,H1,rfl,I1.kept (t':=s1.toks) fun b o e=>Heap.get?_push_of_some _ e,turn_list a _,⟨_,Heap.get?_push_size _ rfl,rfl,rfl⟩,fun b hb=>?_,q⟩
  have e : b = s1.heap.objs.size:=by simpa using hb
  subst e
  exact I1.fpOk (Nat.le_refl _) (I1.hok.fresh (Nat.le_refl _))
theorem range_it {pins : List (Addr × Obj)} {σ : St} {H : Hp} {s : Shared} {R : It → Hp → Prop} {E : Value → Shared → Prop} {lo hi : Int} {t u v : Tok} {tk : Nat} (I : Inv X pins σ H s) (h1 : -(2 ^ 62) ≤ lo) (h2 : lo < 2 ^ 62) (h3 : -(2 ^ 62) ≤ hi) (h4 : hi < 2 ^ 62)
    (q : R (Itr lo (hi - lo).toNat) H) : wpAny (model X.prog X.w) X.A (pyIter (.ref s.heap.objs.size)) (PIE X pins σ tg R) E { s with heap:=s.heap.push { cls:=.type "range",data:=.fields #[.int lo t,.int hi u,.int 1 v] },toks:=tk }:=by
  refine wpAny_pyIter_range (IsRange.new ..) (small_one h1 h2 h3 h4) ?_
  have I1 : Inv X pins σ H { s with heap:=s.heap.push { cls:=.type "range",data:=.fields #[.int lo t,.int hi u,.int 1 v] },toks:=tk }:=I.kept fun b o e=>Heap.get?_push_of_some _ e
  refine ⟨(s.heap.push { cls:=.type "range",data:=.fields #[.int lo t,.int hi u,.int 1 v] }).objs.size,[(s.heap.push { cls:=.type "range",data:=.fields #[.int lo t,.int hi u,.int 1 v] }).objs.size],_,_,H,rfl,
    I1.kept (t':=tk) fun b o e=>Heap.get?_push_of_some _ e,turn_range _ lo (hi - lo).toNat,?_,fun b hb=>?_,q⟩
  · have e1 : lo + ((0 : Nat) : Int) * 1 = lo:=by simp
    have e2 : (((hi - lo).toNat : Nat) : Int) - ((0 : Nat) : Int) = Builtin.Range.rangeSize lo hi 1:=by rw [rangeSize_one]; split <;> omega
    show IsRangeIter _ _ (lo + ((0 : Nat) : Int) * 1) ((((hi - lo).toNat : Nat) : Int) - ((0 : Nat) : Int)) 1
    rw [e1,e2]
    exact Heap.get?_push_size _ rfl
  · have e : b = (s.heap.push { cls:=.type "range",data:=.fields #[.int lo t,.int hi u,.int 1 v] }).objs.size:=by simpa using hb
    subst e
    exact I1.fpOk (Nat.le_refl _) (I1.hok.fresh (Nat.le_refl _))
def iRng1 (ta : TA) : TI:=fun σ H R=>ta σ H fun vs H1=>∃ j : Int,vs = [.int j] ∧ -(2 ^ 62) ≤ j ∧ j < 2 ^ 62 ∧ R (Itr 0 j.toNat) H1
def iRng2 (ta : TA) : TI:=fun σ H R=>ta σ H fun vs H1=>∃ i j : Int,vs = [.int i,.int j] ∧ (-(2 ^ 62) ≤ i ∧ i < 2 ^ 62 ∧ -(2 ^ 62) ≤ j ∧ j < 2 ^ 62) ∧ R (Itr i (j - i).toNat) H1
theorem pi_range1 {a : Expr} {ta : TA} {p pos : Pos} (hg : Gl X "range") (hm : X.mg "range" = none) (ha : PA X [a] ta) (hs : starEach [a] X.env = [(false,eval a X.env)]:=by rfl) : PI X tg (.Call (.Name "range" p) [a] [] pos) (iRng1 ta):=by
  intro pins s σ H R I h
  refine Call_ (ld_blt I hg hm boot_range (PyProof.Rows.callWith_type1 (thn (ha pos pins s σ H _ I h) fun us s1 ⟨vs,H1,I1,r1,q1⟩=>?_) hs rfl))
  obtain ⟨j,e,q1,q2,q⟩:=q1
  subst e
  cases r1 with
  | cons r rr=>
    cases rr
    obtain ⟨t,rfl⟩:=r
    exact call_range_1 (range_it I1 (by omega) (by omega) q1 q2 (by simpa using q))
theorem pi_range2 {a b : Expr} {ta : TA} {p pos : Pos} (hg : Gl X "range") (hm : X.mg "range" = none) (ha : PA X [a,b] ta) (hs : starEach [a,b] X.env = [(false,eval a X.env),(false,eval b X.env)]:=by rfl) (hs2 : starEach [b] X.env = [(false,eval b X.env)]:=by rfl) :
    PI X tg (.Call (.Name "range" p) [a,b] [] pos) (iRng2 ta):=by
  intro pins s σ H R I h
  refine Call_ (ld_blt I hg hm boot_range (PyProof.Rows.callWith_type1 (thn (ha pos pins s σ H _ I h) fun us s1 ⟨vs,H1,I1,r1,q1⟩=>?_) (by rw [hs,hs2]) (by rw [hs2]; rfl)))
  obtain ⟨i,j,e,⟨q1,q2,q3,q4⟩,q⟩:=q1
  subst e
  cases r1 with
  | cons r rr=>
    cases rr with
    | cons r' rr=>
      cases rr
      obtain ⟨t,rfl⟩:=r
      obtain ⟨t',rfl⟩:=r'
      exact call_range_2 (range_it I1 q1 q2 q3 q4 q)
def tFor (wi : TI) (g : TG) (tb : TS) : TS:=fun D σ H=>wi σ H fun J H1=>∃ W : Nat → Nat → St → Hp → Prop,(∃ m,W 0 m σ H1) ∧ ∀ i m σ H,W i m σ H →
  (J.stop i H ∧ D.nx σ H) ∨ (J.go i H ∧ ∃ N : St → Hp → Prop,(∀ σ' H',N σ' H' → ∃ m',m' < m ∧ W (i + 1) m' σ' H') ∧ ∀ x H',J.yld i H x H' → g x σ H' fun σ2 H2=>tb { D with nx:=N,ct:=N,bk:=D.nx } σ2 H2)
def pinsAt (fp : List Addr) (h : Heap) : List (Addr × Obj):=fp.filterMap fun b=>(h.get? b).map fun o=>(b,o)
theorem mem_pinsAt {fp : List Addr} {h : Heap} {b : Addr} {o : Obj} (hb : b ∈ fp) (e : h.get? b = some o) : (b,o) ∈ pinsAt fp h:=List.mem_filterMap.mpr ⟨b,hb,by rw [e]; rfl⟩
theorem of_pinsAt {fp : List Addr} {h : Heap} {p : Addr × Obj} (hp : p ∈ pinsAt fp h) : p.1 ∈ fp ∧ h.get? p.1 = some p.2:=by
  obtain ⟨b,hb,e⟩:=List.mem_filterMap.mp hp
  cases q : h.get? b with
  | none=>rw [q] at e; cases e
  | some o=>
    rw [q] at e
    have e' : (b,o) = p:=Option.some.inj e
    subst e'
    exact ⟨hb,q⟩
theorem Inv.pinned {pins : List (Addr × Obj)} {σ : St} {H : Hp} {s : Shared} {fp : List Addr} (I : Inv X pins σ H s) (hf : ∀ b ∈ fp,FpOk X pins H b) (ho : ∀ b ∈ fp,∃ o,s.heap.get? b = some o ∧ ∀ v,o.data ≠ .cell v) : Inv X (pins ++ pinsAt fp s.heap) σ H s:=
  I.pins_of fun p hp=>(List.mem_append.mp hp).elim (fun z=>I.pin p (List.mem_append_right _ z)) fun z=>by
    obtain ⟨hb,e⟩:=of_pinsAt z
    obtain ⟨f0,f1,f2,_⟩:=hf p.1 hb
    obtain ⟨o,e',d⟩:=ho p.1 hb
    rw [e] at e'; cases e'
    exact ⟨e,f0,f1,f2,d⟩
theorem Inv.unpinned {pins pl : List (Addr × Obj)} {σ : St} {H : Hp} {s : Shared} (I : Inv X (pins ++ pl) σ H s) : Inv X pins σ H s:=I.pins_of fun p hp=>I.pin p (List.mem_append_right _ (List.mem_append_left _ hp))
theorem ps_for {iter : Expr} {body : List Stmt} {wi : TI} {g : TG} {tb : TS} {pos : Pos} (hp : PassesOwn (model X.prog X.w) X.A X.env X.xe) (hc : X.calm = true) (hi : PI X tg iter wi) (hg : PG X tg g) (hb : PSs X body tb)
    (hs : ∀ x,foldedSetIterable iter X.env x = pure x:=by intro _; rfl) : PS X (.For tg iter body [] pos) (tFor wi g tb):=by
  intro pins s σ H D I h
  refine wpAny_For (thn (hi pins s σ H _ I h) fun v s1 h1=>thn h1 fun itv s2 h2=>?_) hs
  obtain ⟨it,fp,tn,J,H2,e,I2,T,st2,f2,W,⟨m0,w0⟩,turn⟩:=h2
  subst e
  have stat : ∀ {H' : Hp},(∀ b ∈ fp,H' b = none) → ∀ b ∈ fp,FpOk X pins H' b:=fun hn b hb=>⟨hn b hb,(f2 b hb).2⟩
  refine codeAny_forLoop_any (fun n s'=>∃ i σ' H',Inv X pins σ' H' s' ∧ tn i s'.heap ∧ (∀ b ∈ fp,H' b = none) ∧ W i n σ' H') ?_ m0 ⟨0,σ,H2,I2,st2,fun b hb=>(f2 b hb).1,w0⟩
  rintro n s3 ⟨i,σ3,H3,I3,st3,fr3,w3⟩
  rcases turn i n σ3 H3 w3 with ⟨stop,qn⟩ | ⟨go,N,hN,step⟩
  · refine wpAny_passesOwn hp (thn (T.done X rfl rfl rfl hc i pins s3 σ3 H3 X.xe I3 (stat fr3) st3 stop) fun r s4 ⟨hr,I4⟩=>?_)
    subst hr
    exact wpAny_execs_nil ⟨σ3,H3,I4,qn⟩
  · refine wpAny_passesOwn hp (thn (T.item X rfl rfl rfl hc i pins s3 σ3 H3 X.xe I3 (stat fr3) st3 go) fun r s4 ⟨u,hr,h4⟩=>?_)
    subst hr
    refine wpAny_passesOwn hp (thn h4 fun _ s5 ⟨x,H5,I5,r5,y5,st5,fr5⟩=>?_)
    have I5':=I5.pinned (stat fr5) (T.obj _ _ st5)
    refine wpAny_passesOwn hp (thn (hg _ s5 σ3 H5 x u _ I5' r5 (step x H5 y5)) fun _ s6 ⟨σ6,H6,I6,q6⟩=>?_)
    refine wpAny_passesOwn hp (thn (hb _ s6 σ6 H6 _ I6 q6) fun f s7 q7=>?_)
    have again : ∀ {σ7 : St} {H7 : Hp},Inv X (pins ++ pinsAt fp s5.heap) σ7 H7 s7 → N σ7 H7 → ∃ m,m < n ∧ ∃ i σ' H',Inv X pins σ' H' s7 ∧ tn i s7.heap ∧ (∀ b ∈ fp,H' b = none) ∧ W i m σ' H':=fun {σ7 H7} I7 n7=>by
      obtain ⟨m',hm,w7⟩:=hN σ7 H7 n7
      refine ⟨m',hm,i + 1,σ7,H7,I7.unpinned,T.keep _ _ _ st5 fun b hb o e=>(I7.pin (b,o) (List.mem_append_right _ (List.mem_append_right _ (mem_pinsAt hb e)))).1,fun b hb=>?_,w7⟩
      obtain ⟨o,e,d⟩:=T.obj _ _ st5 b hb
      exact (I7.pin (b,o) (List.mem_append_right _ (List.mem_append_right _ (mem_pinsAt hb e)))).2.1
    cases f with
    | next=>obtain ⟨σ7,H7,I7,n7⟩:=q7; exact again I7 n7
    | cont=>obtain ⟨σ7,H7,I7,n7⟩:=q7; exact again I7 n7
    | brk=>obtain ⟨σ7,H7,I7,q7⟩:=q7; exact ⟨σ7,H7,I7.unpinned,q7⟩
    | ret v=>obtain ⟨x7,σ7,H7,I7,r7,q7⟩:=q7; exact ⟨x7,σ7,H7,I7.unpinned,r7,q7⟩
end
theorem for_list {K : PySem.W.Frag} {a : Addr} {xs : List V} {g : TG} {tb : TS} {D : Ends} {σ : St} {H : Hp} (Pv : Nat → St → Hp → Prop) (h0 : Pv 0 σ H) (hl : ∀ i σ H,i ≤ xs.length → Pv i σ H → SqL K H a xs)
    (hs : ∀ i x σ H,xs[i]? = some x → Pv i σ H → g x σ H fun σ2 H2=>tb { D with nx:=Pv (i + 1),ct:=Pv (i + 1),bk:=D.nx } σ2 H2) (hd : ∀ σ H,Pv xs.length σ H → D.nx σ H) :
    ∃ W : Nat → Nat → St → Hp → Prop,(∃ m,W 0 m σ H) ∧ ∀ i m σ H,W i m σ H →
      ((Itl K a).stop i H ∧ D.nx σ H) ∨ ((Itl K a).go i H ∧ ∃ N : St → Hp → Prop,(∀ σ' H',N σ' H' → ∃ m',m' < m ∧ W (i + 1) m' σ' H') ∧ ∀ x H',(Itl K a).yld i H x H' → g x σ H' fun σ2 H2=>tb { D with nx:=N,ct:=N,bk:=D.nx } σ2 H2):=by
  refine ⟨fun i m σ H=>m = xs.length - i ∧ i ≤ xs.length ∧ Pv i σ H,⟨xs.length,by simp,Nat.zero_le _,h0⟩,?_⟩
  rintro i m σ H ⟨rfl,hi,p⟩
  have q:=hl i σ H hi p
  by_cases hlt : i < xs.length
  · refine .inr ⟨⟨xs,xs[i],q,by simp [hlt]⟩,Pv (i + 1),fun σ' H' p'=>⟨xs.length - (i + 1),by omega,rfl,hlt,p'⟩,fun x H' y=>?_⟩
    obtain ⟨e,y⟩:=y
    subst e
    exact hs i x σ _ (y xs q) p
  · have e : i = xs.length:=by omega
    subst e
    exact .inl ⟨⟨xs,q,Nat.le_refl _⟩,hd σ H p⟩
theorem for_range {lo : Int} {n : Nat} {g : TG} {tb : TS} {D : Ends} {σ : St} {H : Hp} (Pv : Nat → St → Hp → Prop) (h0 : Pv 0 σ H)
    (hs : ∀ i σ H,i < n → Pv i σ H → g (.int (lo + i)) σ H fun σ2 H2=>tb { D with nx:=Pv (i + 1),ct:=Pv (i + 1),bk:=D.nx } σ2 H2) (hd : ∀ σ H,Pv n σ H → D.nx σ H) :
    ∃ W : Nat → Nat → St → Hp → Prop,(∃ m,W 0 m σ H) ∧ ∀ i m σ H,W i m σ H →
      ((Itr lo n).stop i H ∧ D.nx σ H) ∨ ((Itr lo n).go i H ∧ ∃ N : St → Hp → Prop,(∀ σ' H',N σ' H' → ∃ m',m' < m ∧ W (i + 1) m' σ' H') ∧ ∀ x H',(Itr lo n).yld i H x H' → g x σ H' fun σ2 H2=>tb { D with nx:=N,ct:=N,bk:=D.nx } σ2 H2):=by
  refine ⟨fun i m σ H=>m = n - i ∧ i ≤ n ∧ Pv i σ H,⟨n,by simp,Nat.zero_le _,h0⟩,?_⟩
  rintro i m σ H ⟨rfl,hi,p⟩
  by_cases hlt : i < n
  · refine .inr ⟨hlt,Pv (i + 1),fun σ' H' p'=>⟨n - (i + 1),by omega,rfl,hlt,p'⟩,fun x H' y=>?_⟩
    obtain ⟨e,y⟩:=y
    subst e y
    exact hs i σ _ hlt p
  · have e : i = n:=by omega
    subst e
    exact .inl ⟨Nat.le_refl _,hd σ H p⟩
end L2
namespace L2
open PySem PySem.Spec PyProof.Rows
abbrev R2:=V → V → Hp → VK → Prop
def OpR (X : Cx) (f : Value → Value → Sem Value) (r : R2) : Prop:=
  ∀ (pins : List (Addr × Obj)) (s : Shared) (σ : St) (H : Hp) (x y : V) (v u : Value) (Q : VK),Inv X pins σ H s → RelV x v → RelV y u → r x y H Q →
    wpAny (model X.prog X.w) X.A (f v u) (EP X pins σ Q) X.xe s
def UnR (X : Cx) (f : Value → Sem Value) (r : V → Hp → VK → Prop) : Prop:=
  ∀ (pins : List (Addr × Obj)) (s : Shared) (σ : St) (H : Hp) (x : V) (v : Value) (Q : VK),Inv X pins σ H s → RelV x v → r x H Q →
    wpAny (model X.prog X.w) X.A (f v) (EP X pins σ Q) X.xe s
def CallR (X : Cx) (f : Value) (r : List V → Hp → VK → Prop) : Prop:=
  ∀ (pins : List (Addr × Obj)) (s : Shared) (σ : St) (H : Hp) (xs : List V) (us : List Value) (Q : VK),Inv X pins σ H s → Vals xs us → r xs H Q →
    wpAny (model X.prog X.w) X.A (call f us) (EP X pins σ Q) X.xe s
def tOp (r : R2) (ta tb : TE) : TE:=fun σ H Q=>ta σ H fun x H1=>tb σ H1 fun y H2=>r x y H2 Q
def tUn (r : V → Hp → VK → Prop) (ta : TE) : TE:=fun σ H Q=>ta σ H fun x H1=>r x H1 Q
def rI (C : Int → Int → Prop) (g : Int → Int → V) : R2:=fun x y H Q=>∃ i j,x = .int i ∧ y = .int j ∧ C i j ∧ Q (g i j) H
def rI0 (g : Int → Int → V) : R2:=fun x y H Q=>∃ i j,x = .int i ∧ y = .int j ∧ Q (g i j) H
def rU (g : Int → V) : V → Hp → VK → Prop:=fun x H Q=>∃ i,x = .int i ∧ Q (g i) H
section
variable {X : Cx} {a b c : Expr} {ta tb tc : TE} {pos : Pos}
theorem binT (ha : PE X a ta) (hb : PE X b tb) {pins : List (Addr × Obj)} {s : Shared} {σ : St} {H : Hp} {R : V → V → Hp → Prop} (I : Inv X pins σ H s)
    (h : ta σ H fun x H1=>tb σ H1 fun y H2=>R x y H2) {Q : Value → Shared → Prop} {f : Value → Value → Sem Value}
    (hf : ∀ v u s2 x y H2,Inv X pins σ H2 s2 → RelV x v → RelV y u → R x y H2 → wpAny (model X.prog X.w) X.A (f v u) Q X.xe s2) :
    wpAny (model X.prog X.w) X.A (eval a X.env) (fun v s₁=>wpAny (model X.prog X.w) X.A (eval b X.env) (fun u s₂=>wpAny (model X.prog X.w) X.A (f v u) Q X.xe s₂) X.xe s₁) X.xe s:=by
  refine thn (ha pins s σ H _ I h) fun v s1 ⟨x,H1,I1,r1,q1⟩=>?_
  refine thn (hb pins s1 σ H1 _ I1 q1) fun u s2 ⟨y,H2,I2,r2,q2⟩=>?_
  exact hf v u s2 x y H2 I2 r1 r2 q2
theorem pe_op {op : Operator} {r : R2} (ho : OpR X (binaryOp op) r) (ha : PE X a ta) (hb : PE X b tb) : PE X (.BinOp a op b pos) (tOp r ta tb):=by
  intro pins s σ H Q I h
  exact wpAny_BinOp (binT ha hb I h fun v u s2 x y H2 I2 rx ry q=>ho pins s2 σ H2 x y v u Q I2 rx ry q)
theorem pe_un {op : UnaryOp} {r : V → Hp → VK → Prop} (ho : UnR X (unaryOp op) r) (ha : PE X a ta) : PE X (.UnaryOp op a pos) (tUn r ta):=by
  intro pins s σ H Q I h
  exact UnaryOp_ (thn (ha pins s σ H _ I h) fun v s1 ⟨x,H1,I1,r1,q1⟩=>ho pins s1 σ H1 x v Q I1 r1 q1)
theorem opI {f : Value → Value → Sem Value} {C : Int → Int → Prop} {g : Int → Int → Int}
    (rule : ∀ (i j : Int) (t u : Tok) (s : Shared) (Q : Value → Shared → Prop) (E : Value → Shared → Prop),C i j → Q (.int (g i j) s.toks) { s with toks:=s.toks + 1 } → wpAny (model X.prog X.w) X.A (f (.int i t) (.int j u)) Q E s) :
    OpR X f (rI C fun i j=>.int (g i j)):=by
  intro pins s σ H x y v u Q I rx ry h
  obtain ⟨i,j,rfl,rfl,hc,q⟩:=h
  obtain ⟨t,rfl⟩:=rx
  obtain ⟨t',rfl⟩:=ry
  exact rule i j t t' s _ _ hc ⟨.int (g i j),H,I.tok _,⟨_,rfl⟩,q⟩
theorem opI0 {f : Value → Value → Sem Value} {g : Int → Int → Int}
    (rule : ∀ (i j : Int) (t u : Tok) (s : Shared) (Q : Value → Shared → Prop) (E : Value → Shared → Prop),Q (.int (g i j) s.toks) { s with toks:=s.toks + 1 } → wpAny (model X.prog X.w) X.A (f (.int i t) (.int j u)) Q E s) :
    OpR X f (rI0 fun i j=>.int (g i j)):=by
  intro pins s σ H x y v u Q I rx ry h
  obtain ⟨i,j,rfl,rfl,q⟩:=h
  obtain ⟨t,rfl⟩:=rx
  obtain ⟨t',rfl⟩:=ry
  exact rule i j t t' s _ _ ⟨.int (g i j),H,I.tok _,⟨_,rfl⟩,q⟩
theorem opB0 {f : Value → Value → Sem Value} {g : Int → Int → Bool}
    (rule : ∀ (i j : Int) (t u : Tok) (s : Shared) (Q : Value → Shared → Prop) (E : Value → Shared → Prop),Q (.bool (g i j)) s → wpAny (model X.prog X.w) X.A (f (.int i t) (.int j u)) Q E s) :
    OpR X f (rI0 fun i j=>.bl (g i j)):=by
  intro pins s σ H x y v u Q I rx ry h
  obtain ⟨i,j,rfl,rfl,q⟩:=h
  obtain ⟨t,rfl⟩:=rx
  obtain ⟨t',rfl⟩:=ry
  exact rule i j t t' s _ _ ⟨.bl (g i j),H,I,rfl,q⟩
theorem op_add : OpR X (binaryOp .Add) (rI0 fun i j=>.int (i + j)):=opI0 fun _ _ _ _ _ _ _ q=>add_int q
theorem op_sub : OpR X (binaryOp .Sub) (rI0 fun i j=>.int (i - j)):=opI0 fun _ _ _ _ _ _ _ q=>sub_int q
theorem op_mod : OpR X (binaryOp .Mod) (rI (fun _ j=>0 < j) fun i j=>.int (i % j)):=opI fun i j _ _ _ _ _ hc q=>by
  have h1 : (0 : Int) < j:=hc
  exact mod_int' (by omega) (by rw [Int.fmod_eq_emod_of_nonneg i (by omega)]; exact q)
theorem unI {f : Value → Sem Value} {g : Int → Int}
    (rule : ∀ (i : Int) (t : Tok) (s : Shared) (Q : Value → Shared → Prop) (E : Value → Shared → Prop),Q (.int (g i) s.toks) { s with toks:=s.toks + 1 } → wpAny (model X.prog X.w) X.A (f (.int i t)) Q E s) :
    UnR X f (rU fun i=>.int (g i)):=by
  intro pins s σ H x v Q I rx h
  obtain ⟨i,rfl,q⟩:=h
  obtain ⟨t,rfl⟩:=rx
  exact rule i t s _ _ ⟨.int (g i),H,I.tok _,⟨_,rfl⟩,q⟩
theorem un_neg : UnR X (unaryOp .USub) (rU fun i=>.int (-i)):=unI fun _ _ _ _ _ q=>neg_int q
end
def scal : V → V → Bool
  | .non,.non=>true | .non,.int _=>true | .int _,.non=>true | .non,.bl _=>true | .bl _,.non=>true | .non,.str _=>true | .str _,.non=>true
  | .int _,.int _=>true | .bl _,.bl _=>true | .str _,.str _=>true | .byt _,.byt _=>true
  | .int _,.str _=>true | .str _,.int _=>true | .bl _,.str _=>true | .str _,.bl _=>true
  | _,_=>false
def rEq : R2:=fun x y H Q=>scal x y = true ∧ Q (.bl (decide (x = y))) H
def rNe : R2:=fun x y H Q=>scal x y = true ∧ Q (.bl (!decide (x = y))) H
theorem dec_int {i j : Int} : decide (V.int i = V.int j) = (i == j):=by
  rw [Bool.eq_iff_iff]
  simp
theorem dec_bl {i j : Bool} : decide (V.bl i = V.bl j) = (i == j):=by
  rw [Bool.eq_iff_iff]
  simp
theorem dec_str {i j : Str} : decide (V.str i = V.str j) = (i == j):=by
  rw [Bool.eq_iff_iff]
  simp
theorem dec_byt {i j : Array UInt8} : decide (V.byt i = V.byt j) = (i.toList == j.toList):=by
  rw [Bool.eq_iff_iff]
  cases i
  cases j
  simp
section
variable {X : Cx} {a b c : Expr} {ta tb tc : TE} {pos : Pos}
theorem fin_bl {pins : List (Addr × Obj)} {σ : St} {H : Hp} {s : Shared} {Q : VK} {k k' : Bool} (I : Inv X pins σ H s) (q : Q (.bl k) H) (e : k = k') : EP X pins σ Q (.bool k') s:=by
  subst e
  exact ⟨.bl k,H,I,rfl,q⟩
theorem op_eq : OpR X (compareOp .Eq) rEq:=by
  intro pins s σ H x y v u Q I rx ry h
  obtain ⟨hs,q⟩:=h
  cases x with
  | non=>
    cases rx
    cases y with
    | non=>cases ry; exact PySem.EqNone.eq_none_none (fin_bl I q (by simp))
    | bl j=>cases ry; exact PySem.EqNone.eq_none_bool (fin_bl I q (by simp))
    | int j=>obtain ⟨t',rfl⟩:=ry; exact PySem.EqNone.eq_none_int (fin_bl I q (by simp))
    | str j=>obtain ⟨t',rfl⟩:=ry; exact PySem.EqNone.eq_none_str (fin_bl I q (by simp))
    | _=>exact absurd (show false = true from hs) Bool.false_ne_true
  | bl i=>
    cases rx
    cases y with
    | non=>cases ry; exact PySem.EqNone.eq_bool_none (fin_bl I q (by simp))
    | bl j=>cases ry; exact eq_bool (fin_bl I q dec_bl)
    | str j=>obtain ⟨t',rfl⟩:=ry; exact PySem.EqMixed.eq_bool_str (fin_bl I q (by simp))
    | _=>exact absurd (show false = true from hs) Bool.false_ne_true
  | int i=>
    obtain ⟨t,rfl⟩:=rx
    cases y with
    | non=>cases ry; exact PySem.EqNone.eq_int_none (fin_bl I q (by simp))
    | int j=>obtain ⟨t',rfl⟩:=ry; exact eq_int (fin_bl I q dec_int)
    | str j=>obtain ⟨t',rfl⟩:=ry; exact PySem.EqMixed.eq_int_str (fin_bl I q (by simp))
    | _=>exact absurd (show false = true from hs) Bool.false_ne_true
  | str i=>
    obtain ⟨t,rfl⟩:=rx
    cases y with
    | non=>cases ry; exact PySem.EqNone.eq_str_none (fin_bl I q (by simp))
    | bl j=>cases ry; exact PySem.EqMixed.eq_str_bool (fin_bl I q (by simp))
    | int j=>obtain ⟨t',rfl⟩:=ry; exact PySem.EqMixed.eq_str_int (fin_bl I q (by simp))
    | str j=>obtain ⟨t',rfl⟩:=ry; exact eq_str (fin_bl I q dec_str)
    | _=>exact absurd (show false = true from hs) Bool.false_ne_true
  | byt i=>
    obtain ⟨t,rfl⟩:=rx
    cases y with
    | byt j=>obtain ⟨t',rfl⟩:=ry; exact PySem.W.eq_bytes (fin_bl I q dec_byt)
    | _=>exact absurd (show false = true from hs) Bool.false_ne_true
  | _=>cases y <;> exact absurd (show false = true from hs) Bool.false_ne_true
theorem op_ne : OpR X (compareOp .NotEq) rNe:=by
  intro pins s σ H x y v u Q I rx ry h
  obtain ⟨hs,q⟩:=h
  cases x with
  | non=>
    cases rx
    cases y with
    | non=>cases ry; exact PySem.EqNone.ne_none_none (fin_bl I q (by simp))
    | bl j=>cases ry; exact PySem.EqNone.ne_none_bool (fin_bl I q (by simp))
    | int j=>obtain ⟨t',rfl⟩:=ry; exact PySem.EqNone.ne_none_int (fin_bl I q (by simp))
    | str j=>obtain ⟨t',rfl⟩:=ry; exact PySem.EqNone.ne_none_str (fin_bl I q (by simp))
    | _=>exact absurd (show false = true from hs) Bool.false_ne_true
  | bl i=>
    cases rx
    cases y with
    | non=>cases ry; exact PySem.EqNone.ne_bool_none (fin_bl I q (by simp))
    | bl j=>cases ry; exact ne_bool (fin_bl I q (congrArg not dec_bl))
    | str j=>obtain ⟨t',rfl⟩:=ry; exact PySem.EqMixed.ne_bool_str (fin_bl I q (by simp))
    | _=>exact absurd (show false = true from hs) Bool.false_ne_true
  | int i=>
    obtain ⟨t,rfl⟩:=rx
    cases y with
    | non=>cases ry; exact PySem.EqNone.ne_int_none (fin_bl I q (by simp))
    | int j=>obtain ⟨t',rfl⟩:=ry; exact ne_int (fin_bl I q (congrArg not dec_int))
    | str j=>obtain ⟨t',rfl⟩:=ry; exact PySem.EqMixed.ne_int_str (fin_bl I q (by simp))
    | _=>exact absurd (show false = true from hs) Bool.false_ne_true
  | str i=>
    obtain ⟨t,rfl⟩:=rx
    cases y with
    | non=>cases ry; exact PySem.EqNone.ne_str_none (fin_bl I q (by simp))
    | bl j=>cases ry; exact PySem.EqMixed.ne_str_bool (fin_bl I q (by simp))
    | int j=>obtain ⟨t',rfl⟩:=ry; exact PySem.EqMixed.ne_str_int (fin_bl I q (by simp))
    | str j=>obtain ⟨t',rfl⟩:=ry; exact ne_str (fin_bl I q (congrArg not dec_str))
    | _=>exact absurd (show false = true from hs) Bool.false_ne_true
  | byt i=>
    obtain ⟨t,rfl⟩:=rx
    cases y with
    | byt j=>obtain ⟨t',rfl⟩:=ry; exact PySem.W.ne_bytes (fin_bl I q (congrArg not dec_byt))
    | _=>exact absurd (show false = true from hs) Bool.false_ne_true
  | _=>cases y <;> exact absurd (show false = true from hs) Bool.false_ne_true
theorem op_lt : OpR X (compareOp .Lt) (rI0 fun i j=>.bl (decide (i < j))):=opB0 fun _ _ _ _ _ _ _ q=>lt_int q
theorem op_le : OpR X (compareOp .LtE) (rI0 fun i j=>.bl (decide (i ≤ j))):=opB0 fun _ _ _ _ _ _ _ q=>le_int q
theorem op_gt : OpR X (compareOp .Gt) (rI0 fun i j=>.bl (decide (j < i))):=opB0 fun _ _ _ _ _ _ _ q=>gt_int q
theorem op_ge : OpR X (compareOp .GtE) (rI0 fun i j=>.bl (decide (j ≤ i))):=opB0 fun _ _ _ _ _ _ _ q=>ge_int q
theorem op_in_str : OpR X (compareOp .In) (fun x y H Q=>∃ i j,x = .str i ∧ y = .str j ∧ Q (.bl (!(Builtin.Str.occurrences j i 0 j.length 1).isEmpty)) H):=by
  intro pins s σ H x y v u Q I rx ry h
  obtain ⟨i,j,rfl,rfl,q⟩:=h
  obtain ⟨t,rfl⟩:=rx
  obtain ⟨t',rfl⟩:=ry
  exact in_str (fin_bl I q rfl)
theorem nomark (b : Expr) {op : CmpOp} (h : op ≠ .In:=by decide) (h2 : op ≠ .NotIn:=by decide) : behindInMarks op b = false:=by
  have e1 : (op == CmpOp.In) = false:=by cases op <;> first | rfl | exact absurd rfl h
  have e2 : (op == CmpOp.NotIn) = false:=by cases op <;> first | rfl | exact absurd rfl h2
  cases b <;> simp [behindInMarks,e1,e2]
theorem pe_cmpR {op : CmpOp} {r : R2} (ho : OpR X (compareOp op) r) (ha : PE X a ta) (hb : PE X b tb) (hm : behindInMarks op b = false) : PE X (.Compare a [op] [b] pos) (tOp r ta tb):=by
  intro pins s σ H Q I h
  exact wpAny_Compare1 (binT ha hb I h fun v u s2 x y H2 I2 rx ry q=>ho pins s2 σ H2 x y v u Q I2 rx ry q) hm
def tTest (t : TE) : TT:=fun σ H Q=>t σ H fun x H'=>∃ k,x = .bl k ∧ Q k H'
theorem pt_cmpR {op : CmpOp} {r : R2} (ho : OpR X (compareOp op) r) (ha : PE X a ta) (hb : PE X b tb) (hm : behindInMarks op b = false) : PT X (.Compare a [op] [b] pos) (tTest (tOp r ta tb)):=by
  intro pins s σ H Q I h
  refine wpAny_isTrue_Compare1 (thn (ha pins s σ H _ I h) fun v s1 ⟨x,H1,I1,r1,q1⟩=>thn (hb pins s1 σ H1 _ I1 q1) fun u s2 ⟨y,H2,I2,r2,q2⟩=>
    thn (ho pins s2 σ H2 x y v u _ I2 r1 r2 q2) fun c s3 ⟨z,H3,I3,r3,k,e,q3⟩=>?_) hm
  subst e
  cases r3
  exact wpAny_truthy_bool ⟨H3,I3,q3⟩
def tChain (r r' : R2) (ta tb tc : TE) : TE:=fun σ H Q=>ta σ H fun x H1=>tb σ H1 fun y H2=>r x y H2 fun z H3=>∃ k,z = .bl k ∧
  (if k = true then tc σ H3 fun w' H4=>r' y w' H4 Q else Q (.bl false) H3)
theorem line63 : (sizeLine : Nat) < 2 ^ 63:=by rw [sizeLine_eq]; decide
theorem op_add_str : OpR X (binaryOp .Add) (fun x y H Q=>∃ i j,x = .str i ∧ y = .str j ∧ i.length + j.length ≤ sizeLine ∧ Q (.str (i ++ j)) H):=by
  intro pins s σ H x y v u Q I rx ry h
  obtain ⟨i,j,rfl,rfl,hz,q⟩:=h
  obtain ⟨t,rfl⟩:=rx
  obtain ⟨t',rfl⟩:=ry
  exact add_str (fun t' tk=>⟨.str (i ++ j),H,I.tok _,⟨_,rfl⟩,q⟩) hz
theorem vals1 {x : V} {us : List Value} (r : Vals [x] us) : ∃ u,us = [u] ∧ RelV x u:=by
  cases r with
  | cons r1 r2=>cases r2; exact ⟨_,rfl,r1⟩
theorem vals2 {x y : V} {us : List Value} (r : Vals [x,y] us) : ∃ u w',us = [u,w'] ∧ RelV x u ∧ RelV y w':=by
  cases r with
  | cons r1 r2=>
    cases r2 with
    | cons r3 r4=>cases r4; exact ⟨_,_,rfl,r1,r3⟩
theorem call_abs : CallR X (.builtin "abs") (fun xs H Q=>∃ i,xs = [.int i] ∧ Q (.int (if i < 0 then -i else i)) H):=by
  intro pins s σ H xs us Q I r h
  obtain ⟨i,rfl,q⟩:=h
  obtain ⟨u,rfl,t,rfl⟩:=vals1 r
  exact call_abs_int fun u tk=>⟨.int (if i < 0 then -i else i),H,I.tok _,⟨_,rfl⟩,q⟩
theorem call_max2 (hc : X.calm = true) : CallR X (.builtin "max") (fun xs H Q=>∃ i j,xs = [.int i,.int j] ∧ Q (.int (if j > i then j else i)) H):=by
  intro pins s σ H xs us Q I r h
  obtain ⟨i,j,rfl,q⟩:=h
  obtain ⟨u,w',rfl,⟨t,rfl⟩,⟨t',rfl⟩⟩:=vals2 r
  refine max_two_ints (I.ok.hd hc) fun h' tk k=>⟨_,H,I.kept k,?_,q⟩
  by_cases hj : j > i
  · rw [if_pos hj,if_pos hj]; exact ⟨_,rfl⟩
  · rw [if_neg hj,if_neg hj]; exact ⟨_,rfl⟩
theorem call_min2 (hc : X.calm = true) : CallR X (.builtin "min") (fun xs H Q=>∃ i j,xs = [.int i,.int j] ∧ Q (.int (if j < i then j else i)) H):=by
  intro pins s σ H xs us Q I r h
  obtain ⟨i,j,rfl,q⟩:=h
  obtain ⟨u,w',rfl,⟨t,rfl⟩,⟨t',rfl⟩⟩:=vals2 r
  refine min_two_ints (I.ok.hd hc) fun h' tk k=>⟨_,H,I.kept k,?_,q⟩
  by_cases hj : j < i
  · rw [if_pos hj,if_pos hj]; exact ⟨_,rfl⟩
  · rw [if_neg hj,if_neg hj]; exact ⟨_,rfl⟩
theorem call_int1 : CallR X (.type "int") (fun xs H Q=>(∃ i,xs = [.int i] ∧ Q (.int i) H) ∨ ∃ k,xs = [.bl k] ∧ Q (.int (if k then 1 else 0)) H):=by
  intro pins s σ H xs us Q I r h
  rcases h with ⟨i,rfl,q⟩ | ⟨k,rfl,q⟩
  · obtain ⟨u,rfl,t,rfl⟩:=vals1 r
    exact call_int_int ⟨.int i,H,I,⟨_,rfl⟩,q⟩
  · obtain ⟨u,rfl,r1⟩:=vals1 r
    cases r1
    exact call_int_bool ⟨.int (if k then 1 else 0),H,I.tok _,⟨_,rfl⟩,q⟩
theorem call_str_int : CallR X (.type "str") (fun xs H Q=>∃ i,xs = [.int i] ∧ i.natAbs.log2 < 1920 ∧ Q (.str (toString i)) H):=by
  intro pins s σ H xs us Q I r h
  obtain ⟨i,rfl,hz,q⟩:=h
  obtain ⟨u,rfl,t,rfl⟩:=vals1 r
  exact PySem.P.str_of_int hz ⟨.str _,H,I.tok _,⟨_,rfl⟩,q⟩
end
end L2
namespace L2
open PySem PySem.Spec PyProof.Rows
structure ObjM (h : Heap) (x dx C : Addr) (mA : Str → Option Value) : Prop where
  obj : h.get? x = some (PySem.W.instObj C dx)
  ns : h.Ns1 dx mA
  ne : dx ≠ x
theorem lookIn_ns {h : Heap} {dx : Addr} {mA : Str → Option Value} (n : h.Ns1 dx mA) : ∃ od,h.get? dx = some od ∧ ∀ name,PySem.W.lookIn name od = some (mA name):=by
  obtain ⟨o,es,ep,ho,hd,hk,_,hm⟩:=n
  refine ⟨o,ho,fun name=>?_⟩
  have e:=hm name
  unfold nsFind findBy at e
  rw [← Array.find?_toList] at e
  unfold PySem.W.lookIn
  rw [hd]
  dsimp only
  split
  · rename_i y q
    rw [q] at e
    exact congrArg some e
  · rename_i q
    rw [q] at e
    have a : es.toList.any (·.refKey) = false:=by
      rw [List.any_eq_false]
      intro y hy
      obtain ⟨z,t,hkey⟩:=hk y (Array.mem_toList_iff.mp hy)
      simp [DictEntry.refKey,hkey]
    have a' : ¬ es.toList.any (·.refKey) = true:=by rw [a]; exact Bool.false_ne_true
    rw [if_neg a']
    exact congrArg some e
theorem ObjM.look {h : Heap} {x dx C : Addr} {mA : Str → Option Value} (I : ObjM h x dx C mA) : ∃ od,PySem.W.InstAt h x (PySem.W.instObj C dx) C (some od) ∧ ∀ name,PySem.W.lookIn name od = some (mA name):=
  let ⟨od,ho,hl⟩:=lookIn_ns I.ns
  ⟨od,⟨I.obj,rfl,rfl,ho⟩,hl⟩
section
variable {prog : Program} {w : World} {A : Around} {E : Value → Shared → Prop} {s : Shared} {K : PySem.W.Frag} {x dx C f : Addr} {mA : Str → Option Value} {name : Str} {v : Value}
theorem get_map {expr : Bool} {Q : Value → Shared → Prop} (X : K.In s.heap) (I : ObjM s.heap x dx C mA) (hg : PySem.W.plainGet K C name = true) (hh : PySem.W.hasDictIn K C = true)
    (ha : PySem.W.findIn K (.ref C) name = some none) (hv : mA name = some v) (hv' : PySem.W.handedIn v = true) (h : Q v { s with toks:=s.toks + 1 }) :
    wpAny (model prog w) A (getAttr (.ref x) name expr) Q E s:=by
  obtain ⟨od,J,hl⟩:=I.look
  exact PySem.W.get_value X J (PySem.W.plainGet_of hg).1 (PySem.W.findObj_own hh ha rfl (by rw [hl,hv])) hv' h
theorem get_meth {pl : Sem Bool} {Q : Value × List Value → Shared → Prop} (X : K.In s.heap) (I : ObjM s.heap x dx C mA) (hg : PySem.W.plainGet K C name = true)
    (hf : PySem.W.findIn K (.ref C) name = some (some (.ref f))) (ht : PySem.W.isFn K (.ref f) = true) (hv : mA name = none) (h : Q (.ref f,[.ref x]) s) :
    wpAny (model prog w) A (getMethod (.ref x) name pl) Q E s:=by
  obtain ⟨od,J,hl⟩:=I.look
  exact PySem.W.method_fn X J (PySem.W.plainGet_of hg).1 (PySem.W.plainGet_of hg).2 hf (beq_iff_eq.mp ht) (by show (PySem.W.lookIn name od).map (·.isSome) = some false; rw [hl,hv]; rfl) h
theorem set_map {ns : List Str} {Q : Unit → Shared → Prop} (X : K.In s.heap) (I : ObjM s.heap x dx C mA)
    (hs : PySem.W.findIn K (.ref C) "__setattr__" = some (some (.builtin "object.__setattr__"))) (hp : PySem.W.plainOver K C = true) (ht : PySem.W.takerIn K C name = some none) (hh : PySem.W.hasDictIn K C = true)
    (hw : PySem.Within mA ns) (hsz : ns.length ≤ sizeLine)
    (h : ∀ h',ObjM h' x dx C (fun y=>if y = name then some v else mA y) → Heap.SameBut dx s.heap h' → Q () { s with heap:=h',toks:=s.toks + 2 }) :
    wpAny (model prog w) A (setAttr (.ref x) name v) Q E s:=by
  obtain ⟨od,J,hl⟩:=I.look
  refine PySem.W.set_plain X J hs (PySem.W.osa_open (s:={ s with toks:=s.toks + 1 }) (r:=none) X J hp ht fun b=>?_)
  obtain ⟨cd,hc,hd'⟩:=PySem.W.any_some hh
  have hx : s.heap.get? x = some ⟨.ref C,some dx,.plain,#[]⟩:=I.obj
  refine wpAny_bind (wpAny_pure (wpAny_bind (wpAny_bind (wpAny_loadPart hx (wpAny_bind (PySem.W.Looks.here (s:={ s with toks:=s.toks + 1 }) (PySem.W.looks_clsIn X hc) ?_))))))
  rw [hd']
  refine wpAny_pure (a:=some dx) (wpAny_bind (wpAny_pure (wpAny_bind ?_)))
  refine wpAny_nsSet1 (s:={ s with toks:=s.toks + 1 }) I.ns fun h' hn2 hs2=>?_
  obtain ⟨oD,esD,epD,hoD,hdD,hcD⟩:=hn2.count (PySem.Within.cons name v hw)
  refine wpAny_bind (wpAny_lookBehind hoD (by rw [hdD]; exact pastItsLine_dict (Nat.le_trans hcD (by rw [List.length_cons]; omega))) ?_)
  exact wpAny_pure (h _ ⟨(hs2.2 _ (Ne.symm I.ne)).trans I.obj,hn2,I.ne⟩ hs2)
theorem make_map {R : Result → Shared → Prop} {vs : List Value} {kw : List (Str × Value)} (X : K.In s.heap) (hm : PySem.W.makesIn K C = true)
    (hi : PySem.W.findIn K (.ref C) "__init__" = some (some (.ref f))) (hf : PySem.W.typeIn K (.ref f) = some (.type "function"))
    (h : codeAny (model prog w) (A.under (.builtin "type.__call__" ⟨.ref C :: vs,kw⟩)) (.call (.ref f) ⟨.ref (s.heap.objs.size + 1) :: vs,kw⟩) (PySem.W.InitBack (s.heap.objs.size + 1) R)
      { s with heap:=(s.heap.push PySem.W.emptyDict).push (PySem.W.instObj C s.heap.objs.size) }) :
    codeAny (model prog w) A (.call (.ref C) ⟨vs,kw⟩) R s:=by
  obtain ⟨hh,g,d,t,os⟩:=s
  exact PySem.W.make_core (PySem.W.makes_of X hm) (PySem.W.looks_findIn X hi) (fun self=>PySem.W.bind_fn X self hf) (.inl rfl) h
end
def putF (f : Str) (v : V) : List (Str × V) → List (Str × V)
  | []=>[(f,v)]
  | (g,x) :: r=>if g = f then (g,v) :: r else (g,x) :: putF f v r
theorem lookup_putF (f g : Str) (v : V) : ∀ fs : List (Str × V),(putF f v fs).lookup g = if g = f then some v else fs.lookup g
  | []=>by
    show List.lookup g [(f,v)] = _
    by_cases h : g = f
    · have hb : (g == f) = true:=beq_iff_eq.mpr h
      simp only [List.lookup,hb,if_pos h]
    · have hb : (g == f) = false:=beq_eq_false_iff_ne.mpr h
      simp only [List.lookup,hb,if_neg h]
  | (k,x) :: r=>by
    have ih:=lookup_putF f g v r
    rw [show putF f v ((k,x) :: r) = (if k = f then (k,v) :: r else (k,x) :: putF f v r) from rfl]
    by_cases hk : k = f
    · rw [if_pos hk]
      by_cases h : g = k
      · have hb : (g == k) = true:=beq_iff_eq.mpr h
        simp only [List.lookup,hb,if_pos (h.trans hk)]
      · have hb : (g == k) = false:=beq_eq_false_iff_ne.mpr h
        simp only [List.lookup,hb,if_neg (fun e : g = f=>h (e.trans hk.symm))]
    · rw [if_neg hk]
      by_cases h : g = k
      · have hb : (g == k) = true:=beq_iff_eq.mpr h
        simp only [List.lookup,hb,if_neg (fun e : g = f=>hk (h.symm.trans e))]
      · have hb : (g == k) = false:=beq_eq_false_iff_ne.mpr h
        simp only [List.lookup,hb]
        exact ih
theorem keys_putF (f : Str) (v : V) : ∀ fs : List (Str × V),f ∈ (putF f v fs).map (·.1) ∧ ∀ g,g ∈ fs.map (·.1) → g ∈ (putF f v fs).map (·.1)
  | []=>⟨by simp [putF],fun g h=>by simp at h⟩
  | (k,x) :: r=>by
    obtain ⟨i1,i2⟩:=keys_putF f v r
    rw [show putF f v ((k,x) :: r) = (if k = f then (k,v) :: r else (k,x) :: putF f v r) from rfl]
    by_cases hk : k = f
    · rw [if_pos hk]
      subst hk
      exact ⟨by simp,fun g h=>by simpa using h⟩
    · rw [if_neg hk]
      refine ⟨?_,fun g h=>?_⟩
      · rw [List.map_cons]
        exact List.mem_cons_of_mem _ i1
      · rw [List.map_cons] at h ⊢
        rcases List.mem_cons.mp h with e | e
        · exact List.mem_cons.mpr (.inl e)
        · exact List.mem_cons_of_mem _ (i2 g e)
theorem length_putF (f : Str) (v : V) : ∀ fs : List (Str × V),(putF f v fs).length ≤ fs.length + 1
  | []=>by simp [putF]
  | (k,x) :: r=>by
    have ih:=length_putF f v r
    rw [show putF f v ((k,x) :: r) = (if k = f then (k,v) :: r else (k,x) :: putF f v r) from rfl]
    by_cases hk : k = f
    · rw [if_pos hk,List.length_cons,List.length_cons]; omega
    · rw [if_neg hk,List.length_cons,List.length_cons]; omega
theorem RelO.some_of {v : V} {o : Option Value} (r : RelO (some v) o) : ∃ u,o = some u ∧ RelV v u:=by
  cases o with
  | none=>exact (show False from r).elim
  | some u=>exact ⟨u,rfl,r⟩
theorem RelO.none_of {o : Option Value} (r : RelO none o) : o = none:=by
  cases o with
  | none=>rfl
  | some u=>exact (show False from r).elim
theorem handed_of {v : V} {u : Value} (r : RelV v u) : PySem.W.handedIn u = true:=by
  cases v with
  | non=>cases (show u = Value.none from r); rfl
  | bl b=>cases (show u = Value.bool b from r); rfl
  | int i=>obtain ⟨t,e⟩:=(show ∃ t,u = Value.int i t from r); cases e; rfl
  | str x=>obtain ⟨t,e⟩:=(show ∃ t,u = Value.str x t from r); cases e; rfl
  | byt b=>obtain ⟨t,e⟩:=(show ∃ t,u = Value.bytes b t from r); cases e; rfl
  | flt b=>obtain ⟨t,e⟩:=(show ∃ t,u = Value.float b t from r); cases e; rfl
  | ref a=>cases (show u = Value.ref a from r); rfl
  | ty n=>cases (show u = Value.type n from r); rfl
section
variable {P : Program} {w : World} {H H' : Hp} {h h' : Heap} {a C dx : Addr} {fs fs' : List (Str × V)}
theorem ins_get (hok : HOk P w H h) (e : H a = some (.ins C dx fs)) : ∃ mA,ObjM h a dx C mA ∧ (∀ f,RelO (fs.lookup f) (mA f)) ∧ PySem.Within mA (fs.map (·.1)) ∧ fs.length ≤ 1000 ∧ H dx = some (.own a):=by
  obtain ⟨d,z,ne,ob,mA,n,r,q⟩:=(show ObjOk P w H h a (.ins C dx fs) from hok a _ e)
  exact ⟨mA,⟨ob,n,ne⟩,r,q,z,d⟩
end
structure Cls (K : PySem.W.Frag) (C : Addr) : Prop where
  pg : PySem.W.plainGet K C Str.empty = true
  hd : PySem.W.hasDictIn K C = true
  po : PySem.W.plainOver K C = true
  sa : PySem.W.findIn K (.ref C) "__setattr__" = some (some (.builtin "object.__setattr__"))
theorem Cls.get {K : PySem.W.Frag} {C : Addr} (c : Cls K C) (f : Str) : PySem.W.plainGet K C f = true:=c.pg
def NoAttr (K : PySem.W.Frag) (C : Addr) (f : Str) : Prop:=PySem.W.findIn K (.ref C) f = some none
theorem NoAttr.taker {K : PySem.W.Frag} {C : Addr} {f : Str} (n : NoAttr K C f) : PySem.W.takerIn K C f = some none:=by
  unfold PySem.W.takerIn
  rw [show PySem.W.findIn K (.ref C) f = some none from n]
  rfl
structure Meth (K : PySem.W.Frag) (C : Addr) (m : Str) (f : Addr) : Prop where
  at_ : PySem.W.findIn K (.ref C) m = some (some (.ref f))
  fn : PySem.W.isFn K (.ref f) = true
  kp : PySem.W.keepIn K (.ref f) = true
section
variable {X : Cx} {pins : List (Addr × Obj)} {σ : St} {H : Hp} {s : Shared} {a C dx : Addr} {fs : List (Str × V)} {f : Str} {v : V} {A : Around} {E : Value → Shared → Prop}
theorem getattr_ok {b : Bool} {Q : Value → Shared → Prop} (I : Inv X pins σ H s) (e : H a = some (.ins C dx fs)) (c : Cls X.K C) (n : NoAttr X.K C f) (l : fs.lookup f = some v)
    (h : ∀ u s',Inv X pins σ H s' → RelV v u → Q u s') : wpAny (model X.prog X.w) A (getAttr (.ref a) f b) Q E s:=by
  obtain ⟨mA,O,r,_,_,_⟩:=ins_get I.hok e
  obtain ⟨u,hu,ru⟩:=RelO.some_of (v:=v) (o:=mA f) (by rw [← l]; exact r f)
  exact get_map I.kIn O (c.get f) c.hd n hu (handed_of ru) (h u _ (I.tok _) ru)
theorem getmeth_ok {m : Str} {g : Addr} {pl : Sem Bool} {Q : Value × List Value → Shared → Prop} (I : Inv X pins σ H s) (e : H a = some (.ins C dx fs)) (c : Cls X.K C) (k : Meth X.K C m g) (l : fs.lookup m = none)
    (h : Q (.ref g,[.ref a]) s) : wpAny (model X.prog X.w) A (getMethod (.ref a) m pl) Q E s:=by
  obtain ⟨mA,O,r,_,_,_⟩:=ins_get I.hok e
  have hn : mA m = none:=RelO.none_of (by rw [← l]; exact r m)
  exact get_meth I.kIn O (c.get m) k.at_ k.fn hn h
theorem setattr_ok {y : V} {u : Value} {Q : Unit → Shared → Prop} (I : Inv X pins σ H s) (e : H a = some (.ins C dx fs)) (c : Cls X.K C) (n : NoAttr X.K C f) (hl : fs.length < 1000) (ry : RelV y u)
    (h : ∀ s',Inv X pins σ (upd H a (.ins C dx (putF f y fs))) s' → Q () s') : wpAny (model X.prog X.w) A (setAttr (.ref a) f u) Q E s:=by
  obtain ⟨mA,O,r,wi,_,ho⟩:=ins_get I.hok e
  have hz : (fs.map (·.1)).length ≤ sizeLine:=by rw [List.length_map,sizeLine_eq]; omega
  refine set_map I.kIn O c.sa c.po n.taker c.hd wi hz fun h' O' sb=>h _ ?_
  have hd : ∃ o,h'.get? dx = some o:=let ⟨o,_,_,e',_⟩:=O'.ns; ⟨o,e'⟩
  refine I.write (x:=a) (e:=dx) (by rw [e]; exact True.intro) (.inr ho) (fun b q hb z=>(sb.2 b hb).trans z) hd ?_
  refine ⟨by rw [upd_ne O.ne]; exact ho,?_,O.ne,O'.obj,_,O'.ns,fun g=>?_,fun g hg=>?_⟩
  · have:=length_putF f y fs; omega
  · show RelO ((putF f y fs).lookup g) (if g = f then some u else mA g)
    rw [lookup_putF]
    by_cases q : g = f
    · rw [if_pos q,if_pos q]; exact ry
    · rw [if_neg q,if_neg q]; exact r g
  · by_cases q : g = f
    · rw [q]; exact (keys_putF f y fs).1
    · refine (keys_putF f y fs).2 g (wi g fun z=>hg ?_)
      show (if g = f then some u else mA g) = none
      rw [if_neg q]; exact z
theorem Inv.made (I : Inv X pins σ H s) : Inv X pins σ (upd (upd H s.heap.objs.size (.own (s.heap.objs.size + 1))) (s.heap.objs.size + 1) (.ins C s.heap.objs.size []))
    { s with heap:=(s.heap.push PySem.W.emptyDict).push (PySem.W.instObj C s.heap.objs.size) }:=by
  have e1 : (s.heap.push PySem.W.emptyDict).get? s.heap.objs.size = some PySem.W.emptyDict:=Heap.get?_push_size s.heap rfl
  have e2 : ((s.heap.push PySem.W.emptyDict).push (PySem.W.instObj C s.heap.objs.size)).get? (s.heap.objs.size + 1) = some (PySem.W.instObj C s.heap.objs.size):=by
    have:=Heap.get?_push_size (s.heap.push PySem.W.emptyDict) (o:=PySem.W.instObj C s.heap.objs.size) rfl
    rwa [Heap.size_push] at this
  have e3 : (s.heap.push PySem.W.emptyDict).Ns s.heap.objs.size (fun _=>none):=⟨PySem.W.emptyDict,#[],_,e1,rfl,(fun e he=>absurd he (by simp)),fun _=>rfl⟩
  have I1:=I.laid (a:=s.heap.objs.size) (o:=.own (s.heap.objs.size + 1)) (h':=s.heap.push PySem.W.emptyDict) (t':=s.toks) (fun b u q=>Heap.get?_push_of_some _ q) (Nat.le_refl _) ⟨_,e1⟩
  refine I1.laid (a:=s.heap.objs.size + 1) (o:=.ins C s.heap.objs.size []) (t':=s.toks) (fun b u q=>Heap.get?_push_of_some _ q) (Nat.le_of_eq (Heap.size_push _ _)) ?_
  have ne : s.heap.objs.size ≠ s.heap.objs.size + 1:=Nat.ne_of_lt (Nat.lt_succ_self _)
  refine ⟨by rw [upd_ne ne,upd_same],Nat.zero_le _,ne,e2,fun _=>none,(Heap.Ns1.of_empty e3).at fun o q=>Heap.get?_push_of_some _ q,fun _=>True.intro,fun y hy=>absurd rfl hy⟩
theorem attr_of {prog : Program} {w : World} {env : Env} {e : Expr} {f : Str} {pos : Pos} {s : Shared} {Q : Value → Shared → Prop} (hb : attributeBase e f env (eval e env) = eval e env)
    (h : wpAny (model prog w) A (eval e env) (fun o s₁=>wpAny (model prog w) A (getAttr o f true) Q E s₁) E s) : wpAny (model prog w) A (eval (.Attribute e f pos) env) Q E s:=
  Attribute_any_ h (by rw [arm_eval_Attribute,hb])
end
def tFld (K : PySem.W.Frag) (ta : TE) (f : Str) : TE:=fun σ H Q=>ta σ H fun x H1=>∃ a C dx fs v,x = .ref a ∧ H1 a = some (.ins C dx fs) ∧ Cls K C ∧ NoAttr K C f ∧ fs.lookup f = some v ∧ Q v H1
def sFld (K : PySem.W.Frag) (ta tv : TE) (f : Str) : TS:=fun D σ H=>tv σ H fun y H1=>ta σ H1 fun x H2=>∃ a C dx fs,x = .ref a ∧ H2 a = some (.ins C dx fs) ∧ Cls K C ∧ NoAttr K C f ∧ fs.length < 1000 ∧
  D.nx σ (upd H2 a (.ins C dx (putF f y fs)))
section
variable {X : Cx} {o e value : Expr} {f : Str} {pos pos' tpos : Pos} {ta tv : TE}
theorem pe_fld (he : PE X e ta) (hb : attributeBase e f X.env (eval e X.env) = eval e X.env) : PE X (.Attribute e f pos) (tFld X.K ta f):=by
  intro pins s σ H Q I h
  refine attr_of hb (thn (he pins s σ H _ I h) fun u s1 ⟨x,H1,I1,rx,a,C,dx,fs,v,ex,ea,c,n,l,q⟩=>?_)
  subst ex
  obtain rfl : u = Value.ref a:=rx
  exact getattr_ok I1 ea c n l fun u' s2 I2 ru=>⟨v,H1,I2,ru,q⟩
theorem ps_fld (ha : PE X o ta) (hv : PE X value tv) (hs : swapsWith value (some (.Attribute o f pos')) pos.line X.env = pure false) : PS X (.Assign [.Attribute o f pos'] value pos) (sFld X.K ta tv f):=by
  intro pins s σ H D I h
  refine plainObj_wpAny_Assign_Attribute (thn (hv pins s σ H _ I h) fun u s1 ⟨y,H1,I1,ry,q⟩=>thn (ha pins s1 σ H1 _ I1 q) fun ov s2 ⟨x,H2,I2,rx,a,C,dx,fs,ex,ea,c,n,l,q2⟩=>?_) hs
  subst ex
  obtain rfl : ov = Value.ref a:=rx
  exact setattr_ok I2 ea c n l ry fun s3 I3=>⟨σ,_,I3,q2⟩
def rAdd : V → V → Hp → VK → Prop:=fun x y H Q=>∃ i j,x = .int i ∧ y = .int j ∧ Q (.int (i + j)) H
def rSub : V → V → Hp → VK → Prop:=fun x y H Q=>∃ i j,x = .int i ∧ y = .int j ∧ Q (.int (i - j)) H
end
section
variable {X : Cx} {pins : List (Addr × Obj)} {σ : St} {H : Hp} {s : Shared} {A : Around} {E : Value → Shared → Prop} {Q : Value → Shared → Prop} {c : Value} {b : Bool}
inductive TyOf (K : PySem.W.Frag) (H : Hp) : V → Value → Prop where
  | non : TyOf K H .non (.type "NoneType")
  | bl (x : Bool) : TyOf K H (.bl x) (.type "bool")
  | int (i : Int) : TyOf K H (.int i) (.type "int")
  | str (x : Str) : TyOf K H (.str x) (.type "str")
  | flt (x : UInt64) : TyOf K H (.flt x) (.type "float")
  | lst {a : Addr} {xs : List V} (e : H a = some (.lst xs)) : TyOf K H (.ref a) (.type "list")
  | frz {a : Addr} {o : Obj} {xs : List V} (e : H a = some (.frz o (.lst xs))) : TyOf K H (.ref a) (.type "list")
  | tup {a : Addr} {xs : List V} (e : H a = some (.tup xs)) : TyOf K H (.ref a) (.type "tuple")
  | dK {a : Addr} {kvs : List (Key × V)} (e : H a = some (.dK kvs)) : TyOf K H (.ref a) (.type "dict")
  | dT {a : Addr} {kvs : List (List Key × V)} (e : H a = some (.dT kvs)) : TyOf K H (.ref a) (.type "dict")
  | ins {a C dx : Addr} {fs : List (Str × V)} (e : H a = some (.ins C dx fs)) (cl : Cls K C) (ha : PySem.W.findIn K (.ref C) "__class__" = some (some (.builtin "object.__class__")))
      (hn : PySem.W.specialIn K (.builtin "object.__class__") "__get__" = some (some (.builtin "getset_descriptor.__get__"))) (htk : PySem.W.takesIn K (.builtin "object.__class__") = some true)
      (hm : PySem.W.mroIn K C (.type "object") = some true) : TyOf K H (.ref a) (.ref C)
theorem isinst_ok {x : V} {u t : Value} (I : Inv X pins σ H s) (rx : RelV x u) (ty : TyOf X.K H x t) (e : PySem.W.kitOne X.K t c = some b) (h : ∀ tk,Q (.bool b) { s with toks:=tk }) :
    wpAny (model X.prog X.w) A (call (.builtin "isinstance") [u,c]) Q E s:=by
  cases ty with
  | non=>cases (show u = Value.none from rx); exact PySem.W.kia_one PySem.W.kitx_none I.kIn True.intro e (fun z=>nomatch z) h
  | bl y=>cases (show u = Value.bool y from rx); exact PySem.W.kia_one PySem.W.kitx_bool I.kIn True.intro e (fun z=>nomatch z) h
  | int i=>obtain ⟨t,q⟩:=(show ∃ t,u = Value.int i t from rx); cases q; exact PySem.W.kia_one PySem.W.kitx_int I.kIn True.intro e (fun z=>nomatch z) h
  | str y=>obtain ⟨t,q⟩:=(show ∃ t,u = Value.str y t from rx); cases q; exact PySem.W.kia_one PySem.W.kitx_str I.kIn True.intro e (fun z=>nomatch z) h
  | flt y=>obtain ⟨t,q⟩:=(show ∃ t,u = Value.float y t from rx); cases q; exact PySem.W.kia_one PySem.W.kitx_float I.kIn True.intro e (fun z=>nomatch z) h
  | @lst a xs ea=>
    cases (show u = Value.ref a from rx)
    obtain ⟨_,_,n,_,h1⟩:=(show ObjOk X.prog X.w H s.heap a (.lst xs) from I.hok a _ ea)
    exact PySem.W.kia_one PySem.W.kitx_list I.kIn ⟨_,h1,rfl⟩ e (fun z=>nomatch z) h
  | @frz a ob xs ea=>
    cases (show u = Value.ref a from rx)
    obtain ⟨_,_,_,n,_,h1⟩:=(show ObjOk X.prog X.w H s.heap a (.frz ob (.lst xs)) from I.hok a _ ea)
    exact PySem.W.kia_one PySem.W.kitx_list I.kIn ⟨_,h1,rfl⟩ e (fun z=>nomatch z) h
  | @tup a xs ea=>
    cases (show u = Value.ref a from rx)
    obtain ⟨_,_,_,p⟩:=(show ObjOk X.prog X.w H s.heap a (.tup xs) from I.hok a _ ea)
    obtain ⟨o,h1,h2,_⟩:=p
    exact PySem.W.kia_one PySem.W.kitx_tuple I.kIn ⟨o,h1,h2⟩ e (fun z=>nomatch z) h
  | @dK a kvs ea=>
    cases (show u = Value.ref a from rx)
    obtain ⟨_,_,vs,_,p⟩:=(show ObjOk X.prog X.w H s.heap a (.dK kvs) from I.hok a _ ea)
    obtain ⟨o,es,ep,h1,h2,_⟩:=p
    exact PySem.W.kia_one PySem.W.kitx_dict I.kIn ⟨o,h1,h2.1⟩ e (fun z=>nomatch z) h
  | @dT a kvs ea=>
    cases (show u = Value.ref a from rx)
    obtain ⟨_,_,xs,_,o,es,ep,h1,h2,_⟩:=(show ObjOk X.prog X.w H s.heap a (.dT kvs) from I.hok a _ ea)
    exact PySem.W.kia_one PySem.W.kitx_dict I.kIn ⟨o,h1,h2.1⟩ e (fun z=>nomatch z) h
  | @ins a C dx fs ea cl ha hn htk hm=>
    cases (show u = Value.ref a from rx)
    obtain ⟨mA,O,_⟩:=ins_get I.hok ea
    obtain ⟨od,J,_⟩:=O.look
    exact PySem.W.kia_one (PySem.W.kitx_own (cl.get _) cl.hd ha hn htk hm) I.kIn J e (fun z=>nomatch z) h
end
end L2
namespace L2
open PySem PySem.Spec PyProof.Rows
structure Room (k : Nat) (A : Around) : Prop where
  hd : A.handled = none
  dp : A.depth + 3 * k + 5 < recursionLimit
  un : A.units + 16 * k + 200 < cLine
theorem Room.mono {j k : Nat} {A : Around} (r : Room k A) (h : j ≤ k) : Room j A:=⟨r.hd,by have:=r.dp; omega,by have:=r.un; omega⟩
theorem Room.deeper {k : Nat} {A : Around} (r : Room (k + 1) A) (env : Env) : Room k (A.deeper env):=
  ⟨r.hd,by have:=r.dp; show A.depth + 1 + 3 * k + 5 < _; omega,by have:=r.un; show A.units + 3 + 16 * k + 200 < _; omega⟩
theorem make_depth {A : Around} {C : Addr} {us : List Value} {kw : List (Str × Value)} : (A.under (.builtin "type.__call__" ⟨.ref C :: us,kw⟩)).depth = A.depth + 1:=by
  first | rfl | simp [Around.under,Code.weight,Code.isCreation,Code.isGuard,Code.isCaller,Code.frames,Code.isFrame,guardIds]
theorem make_units {A : Around} {C : Addr} {us : List Value} {kw : List (Str × Value)} : (A.under (.builtin "type.__call__" ⟨.ref C :: us,kw⟩)).units = A.units + 1:=by
  first | rfl | simp [Around.under,Code.cUnits,Code.frames,Code.isFrame]
theorem Room.make {k : Nat} {A : Around} (r : Room (k + 1) A) (C : Addr) (us : List Value) (kw : List (Str × Value)) : Room k (A.under (.builtin "type.__call__" ⟨.ref C :: us,kw⟩)):=
  ⟨r.hd,by have:=r.dp; rw [make_depth]; omega,by have:=r.un; rw [make_units]; omega⟩
theorem Room.depth {k : Nat} {A : Around} (r : Room k A) : A.depth < recursionLimit:=by have:=r.dp; omega
theorem Room.units {k : Nat} {A : Around} (r : Room k A) : A.units + 64 < cLine:=by have:=r.un; omega
def tNil : TA:=fun _ H Q=>Q [] H
def tCons (ta : TE) (tr : TA) : TA:=fun σ H Q=>ta σ H fun x H1=>tr σ H1 fun xs H2=>Q (x :: xs) H2
section
variable {X : Cx} {e : Expr} {es : List Expr} {te : TE} {t : TA} {pos : Pos}
theorem pa_nil : PA X [] tNil:=fun _ _ _ _ H Q I h=>Calls.spliced_nil ⟨[],H,I,.nil,h⟩
theorem pa_cons (ha : PE X e te) (hr : PA X es t) (hs : starEach (e :: es) X.env = (false,eval e X.env) :: starEach es X.env:=by rfl) : PA X (e :: es) (tCons te t):=by
  intro pos pins s σ H Q I h
  rw [hs]
  show wpAny _ _ (spliced ((false,eval e X.env) :: backTo pos (starEach es X.env))) _ _ s
  refine Calls.spliced_cons (thn (ha pins s σ H _ I h) fun u s1 ⟨x,H1,I1,r1,q1⟩=>?_)
  exact thn (hr pos pins s1 σ H1 _ I1 q1) fun us s2 ⟨xs,H2,I2,r2,q2⟩=>⟨x :: xs,H2,I2,.cons r1 r2,q2⟩
def tTup (t : TA) : TE:=fun σ H Q=>t σ H fun xs H1=>xs.length ≤ sizeLine ∧ ∀ p,H1 p = none → Q (.ref p) (upd H1 p (.tup xs))
def tLst (t : TA) : TE:=fun σ H Q=>t σ H fun xs H1=>xs.length ≤ sizeLine ∧ ∀ p,H1 p = none → Q (.ref p) (upd H1 p (.lst xs))
theorem pe_tup {x1} (h : PA X es t) : PE X (.Tuple es x1 pos) (tTup t):=by
  intro pins s σ H Q I hq
  refine wpAny_Tuple_spliced (thn (h pos pins s σ H _ I hq) fun us s1 ⟨xs,H1,I1,r,z,q⟩=>⟨by rw [← r.length]; exact z,?_⟩)
  have hf : H1 s1.heap.objs.size = none:=I1.hok.fresh (Nat.le_refl _)
  refine ⟨.ref s1.heap.objs.size,upd H1 s1.heap.objs.size (.tup xs),I1.laid (t':=s1.toks) (fun b u e=>Heap.get?_push_of_some _ e) (Nat.le_refl _) ?_,rfl,q _ hf⟩
  exact ⟨z,us,r,⟨_,Heap.get?_push_size _ rfl,rfl,_,rfl⟩⟩
theorem pe_lst (h : PA X es t) : PE X (.List es pos) (tLst t):=by
  intro pins s σ H Q I hq
  refine wpAny_List_spliced (thn (h pos pins s σ H _ I hq) fun us s1 ⟨xs,H1,I1,r,z,q⟩=>⟨by rw [← r.length]; exact z,?_⟩)
  have hf : H1 s1.heap.objs.size = none:=I1.hok.fresh (Nat.le_refl _)
  refine ⟨.ref s1.heap.objs.size,upd H1 s1.heap.objs.size (.lst xs),I1.laid (t':=s1.toks) (fun b u e=>Heap.get?_push_of_some _ e) (Nat.le_refl _) ?_,rfl,q _ hf⟩
  exact ⟨z,us,0,r,Heap.get?_push_size _ rfl⟩
end
abbrev Sp:=List V → Hp → VK → XK → Prop
abbrev CXT:=List Env → Hp → Shared → XK → Value → Shared → Prop
structure Env0 (P : Program) (w : World) (K : PySem.W.Frag) (mg : Str → Option Value) (base : Heap) (A : Around) (outer : List Env) (s : Shared) (H : Hp) : Prop where
  frames : A.frames = some outer
  mod : Mod K mg base
  bs : ∀ b o,base.get? b = some o → s.heap.get? b = some o ∧ H b = none
  bsz : base.objs.size ≤ s.heap.objs.size
  funs : s.heap.FunFrames base outer
  frf : ∀ b ∈ frs outer,H b = none
  hok : HOk P w H s.heap
  bare : AllBare s.gens
def CE (outer : List Env) (P : Program) (w : World) (H : Hp) (s : Shared) (Q : VK) (u : Value) (s' : Shared) : Prop:=
  ∃ v H',s'.os = s.os ∧ AllBare s'.gens ∧ Un (frs outer) [] H H' s.heap s'.heap ∧ HOk P w H' s'.heap ∧ RelV v u ∧ Q v H'
def CR (CX : CXT) (outer : List Env) (P : Program) (w : World) (H : Hp) (s : Shared) (Q : VK) (E : XK) (r : Result) (s' : Shared) : Prop:=
  match r with
  | .ok (.ret u)=>CE outer P w H s Q u s'
  | .ok _=>False
  | .error e=>CX outer H s E e s'
structure FnOk (P : Program) (w : World) (K : PySem.W.Frag) (mg : Str → Option Value) (base : Heap) (CX : CXT) (k : Nat) (f : Addr) (fd : FuncData) (ps : List Str) (sp : Sp) : Prop where
  len : ∀ vs H Q E,sp vs H Q E → vs.length = ps.length
  run : ∀ (A : Around) (outer : List Env) (s : Shared) (H : Hp) (args : Args) (us : List Value) (vs : List V) (Q : VK) (E : XK),Room k A → Env0 P w K mg base A outer s H → BindsTo s fd args (ps.zip us) → Vals vs us → sp vs H Q E →
    codeAny (model P w) A (.call (.ref f) args) (CR CX outer P w H s Q E) s
theorem FnOk.mono {P : Program} {w : World} {K : PySem.W.Frag} {mg : Str → Option Value} {base : Heap} {CX : CXT} {j k : Nat} {f : Addr} {fd : FuncData} {ps : List Str} {sp : Sp} (F : FnOk P w K mg base CX j f fd ps sp) (h : j ≤ k) :
    FnOk P w K mg base CX k f fd ps sp:=⟨F.len,fun A outer s H args us vs Q E hr=>F.run A outer s H args us vs Q E (hr.mono h)⟩
theorem Env0.make {P : Program} {w : World} {K : PySem.W.Frag} {mg : Str → Option Value} {base : Heap} {A : Around} {outer : List Env} {s : Shared} {H : Hp} (e : Env0 P w K mg base A outer s H) (C : Addr) (us : List Value) (kw : List (Str × Value)) :
    Env0 P w K mg base (A.under (.builtin "type.__call__" ⟨.ref C :: us,kw⟩)) outer s H:=⟨by first | exact e.frames | (simpa [Around.under,Code.envs,Code.isFrame,pushEnvs] using e.frames),e.mod,e.bs,e.bsz,e.funs,e.frf,e.hok,e.bare⟩
section
variable {X : Cx} {pins : List (Addr × Obj)} {σ : St} {H : Hp} {s s' : Shared}
theorem Inv.env0 (I : Inv X pins σ H s) : Env0 X.prog X.w X.K X.mg X.base X.A X.stack s H:=
  ⟨I.ok.frames,I.ok.mod,I.bs,Nat.le_trans I.ok.bsz I.sz,I.stack,I.stkFree,I.hok,I.bare⟩
theorem Inv.after {Q : VK} {u : Value} (I : Inv X pins σ H s) (h : CE X.stack X.prog X.w H s Q u s') : EP X pins σ Q u s':=by
  obtain ⟨v,H',os,bare,un,hok,r,q⟩:=h
  obtain ⟨hh,g,d,t,os'⟩:=s'
  obtain rfl : os' = s.os:=os
  exact ⟨v,H',I.call (h':=hh) (g':=g) (d':=d) (t':=t) (ch:=[]) un hok bare (fun b z=>absurd z (by simp)),r,q⟩
end
def tCall (sp : Sp) (dvs : List V) (E : XK) (t : TA) : TE:=fun σ H Q=>t σ H fun vs H1=>sp (vs ++ dvs) H1 Q E
def tMeth (C : Addr) (m : Str) (sp : Sp) (dvs : List V) (E : XK) (ta : TE) (t : TA) : TE:=fun σ H Q=>ta σ H fun x H1=>∃ a dx fs,x = .ref a ∧ H1 a = some (.ins C dx fs) ∧ fs.lookup m = none ∧
  t σ H1 fun vs H2=>sp (x :: (vs ++ dvs)) H2 Q E
def tMake (C : Addr) (sp : Sp) (dvs : List V) (E : XK) (t : TA) : TE:=fun σ H Q=>t σ H fun vs H1=>∀ x dx,H1 x = none → H1 dx = none → dx ≠ x →
  sp (.ref x :: (vs ++ dvs)) (upd (upd H1 dx (.own x)) x (.ins C dx [])) (fun v H2=>v = .non ∧ Q (.ref x) H2) E
def Binds (K : PySem.W.Frag) (fd : FuncData) (ps : List Str) (ds : List Value) : Prop:=
  ∀ (s : Shared) (us : List Value),K.In s.heap → (us ++ ds).length = ps.length → BindsTo s fd ⟨us,[]⟩ (ps.zip (us ++ ds))
theorem Binds.all {K : PySem.W.Frag} {fd : FuncData} {ps : List Str} (h : ∀ us : List Value,us.length = ps.length → bindArgs fd ⟨us,[]⟩ = pure (ps.zip us)) : Binds K fd ps []:=fun s us _ hl=>by
  rw [List.append_nil] at hl ⊢
  exact .of_eq (h us hl)
def Passes (CX : CXT) (X : Cx) (E : XK) : Prop:=∀ (pins : List (Addr × Obj)) (σ : St) (H : Hp) (s : Shared) (e : Value) (s' : Shared),Inv X pins σ H s → CX X.stack H s E e s' → X.xe e s'
section
variable {X : Cx} {CX : CXT} {k : Nat} {f C : Addr} {fd : FuncData} {ps : List Str} {sp : Sp} {dvs : List V} {ds : List Value} {E : XK} {x m : Str} {p pos apos : Pos} {e o : Expr} {es : List Expr} {ta : TE} {t : TA}
theorem run_fn {pins : List (Addr × Obj)} {σ : St} {H : Hp} {s : Shared} {Q : VK} {us : List Value} {vs : List V} (F : FnOk X.prog X.w X.K X.mg X.base CX k f fd ps sp) (hr : Room k X.A) (hb : Binds X.K fd ps ds) (hd : Vals dvs ds) (hx : Passes CX X E)
    (I : Inv X pins σ H s) (r : Vals vs us) (h : sp (vs ++ dvs) H Q E) : wpAny (model X.prog X.w) X.A (call (.ref f) us) (EP X pins σ Q) X.xe s:=by
  have r2 : Vals (vs ++ dvs) (us ++ ds):=r.append hd
  have hl : (us ++ ds).length = ps.length:=by rw [← r2.length]; exact F.len _ _ _ _ h
  refine wpAny_call (codeAny_mono (F.run X.A X.stack s H ⟨us,[]⟩ (us ++ ds) (vs ++ dvs) Q E hr I.env0 (hb s us I.kIn hl) r2 h) fun r s' hq=>?_)
  cases r with
  | error e=>exact hx pins σ H s e s' I hq
  | ok fl=>
    cases fl with
    | ret u=>exact I.after hq
    | next=>exact False.elim hq
    | brk=>exact False.elim hq
    | cont=>exact False.elim hq
theorem pe_call (F : FnOk X.prog X.w X.K X.mg X.base CX k f fd ps sp) (hr : Room k X.A) (hg : Gl X x) (hm : X.mg x = some (.ref f)) (hk : PySem.W.keepIn X.K (.ref f) = true) (hb : Binds X.K fd ps ds) (hd : Vals dvs ds) (hx : Passes CX X E)
    (ha : PA X (e :: es) t) (hdb : (x == ("__debug__" : Str)) = false:=by decide) (he : starEach (e :: es) X.env = (false,eval e X.env) :: starEach es X.env:=by rfl) (hpl : (backTo pos (starEach es X.env)).any (·.1) = false:=by rfl) :
    PE X (.Call (.Name x p) (e :: es) [] pos) (tCall sp dvs E t):=by
  intro pins s σ H Q I h
  refine wpAny_Call_Name_kw (ld_glob I hg hm ?_ hdb)
  refine PySem.W.callWith_K (h₀:=X.base) I.ok.mod.kin hk (thn (ha pos pins s σ H _ I h) fun us s1 ⟨vs,H1,I1,r,q⟩=>⟨I1.kIn,?_⟩) he hpl
  exact run_fn F hr hb hd hx I1 r q
theorem pe_meth {pl : Sem Bool} (he : PE X o ta) (c : Cls X.K C) (hm : Meth X.K C m f) (F : FnOk X.prog X.w X.K X.mg X.base CX k f fd ps sp) (hr : Room k X.A) (hb : Binds X.K fd ps ds) (hd : Vals dvs ds) (hx : Passes CX X E) (ha : PA X (e :: es) t)
    (hst : starEach (e :: es) X.env = (false,eval e X.env) :: starEach es X.env:=by rfl) (hpl : (backTo pos (starEach es X.env)).any (·.1) = false:=by rfl)
    (ht : eval (.Call (.Attribute o m apos) (e :: es) [] pos) X.env = (do
      let ov ← eval o X.env
      standAt apos.atName
      let (f,first) ← holding [ov] (getMethod ov m pl)
      callWith pos f first (backTo pos (starEach (e :: es) X.env)) (backToKw pos (keywordEach [] X.env))):=by rfl) :
    PE X (.Call (.Attribute o m apos) (e :: es) [] pos) (tMeth C m sp dvs E ta t):=by
  intro pins s σ H Q I h
  refine PySem.W.methodCall_KW (pl:=pl) (thn (he pins s σ H _ I h) fun u s1 ⟨x,H1,I1,rx,a,dx,fs,ex,ea,l,q⟩=>?_) ht
  subst ex
  obtain rfl : u = Value.ref a:=rx
  refine getmeth_ok I1 ea c hm l ?_
  refine PySem.W.callWith_K (first:=[.ref a]) (h₀:=X.base) I.ok.mod.kin hm.kp (thn (ha pos pins s1 σ H1 _ I1 q) fun us s2 ⟨vs,H2,I2,r,q2⟩=>⟨I2.kIn,?_⟩) hst hpl
  exact run_fn (us:=.ref a :: us) (vs:=.ref a :: vs) F hr hb hd hx I2 (.cons rfl r) q2
structure Mk (K : PySem.W.Frag) (C f : Addr) : Prop where
  makes : PySem.W.makesIn K C = true
  init : PySem.W.findIn K (.ref C) "__init__" = some (some (.ref f))
  fn : PySem.W.isFn K (.ref f) = true
  kp : PySem.W.keepIn K (.ref C) = true
theorem run_make {pins : List (Addr × Obj)} {σ : St} {H : Hp} {s : Shared} {Q : VK} {us : List Value} {vs : List V} (M : Mk X.K C f) (F : FnOk X.prog X.w X.K X.mg X.base CX k f fd ps sp) (hr : Room (k + 1) X.A) (hb : Binds X.K fd ps ds) (hd : Vals dvs ds)
    (hx : Passes CX X E) (I : Inv X pins σ H s) (r : Vals vs us)
    (h : ∀ x dx,H x = none → H dx = none → dx ≠ x → sp (.ref x :: (vs ++ dvs)) (upd (upd H dx (.own x)) x (.ins C dx [])) (fun v H2=>v = .non ∧ Q (.ref x) H2) E) :
    wpAny (model X.prog X.w) X.A (call (.ref C) us) (EP X pins σ Q) X.xe s:=by
  have hq:=h (s.heap.objs.size + 1) s.heap.objs.size (I.hok.fresh (Nat.le_succ _)) (I.hok.fresh (Nat.le_refl _)) (Nat.ne_of_lt (Nat.lt_succ_self _))
  have I2:=Inv.made (C:=C) I
  have r2 : Vals (V.ref (s.heap.objs.size + 1) :: (vs ++ dvs)) (Value.ref (s.heap.objs.size + 1) :: (us ++ ds)):=.cons rfl (r.append hd)
  have hl : (Value.ref (s.heap.objs.size + 1) :: us ++ ds).length = ps.length:=by
    have e:=r2.length
    rw [F.len _ _ _ _ hq] at e
    exact e.symm
  refine wpAny_call (make_map (f:=f) I.kIn M.makes M.init (beq_iff_eq.mp M.fn) (codeAny_mono (F.run _ X.stack _ _ ⟨Value.ref (s.heap.objs.size + 1) :: us,[]⟩ (Value.ref (s.heap.objs.size + 1) :: (us ++ ds)) _ _ E (hr.make C us [])
    (I2.env0.make C us []) (hb _ (Value.ref (s.heap.objs.size + 1) :: us) I2.kIn hl) r2 hq) fun r s' hq'=>?_))
  cases r with
  | error e=>exact hx pins σ _ _ e s' I2 hq'
  | ok fl=>
    cases fl with
    | ret u=>
      obtain ⟨v,H',I3,rv,ev,q3⟩:=I2.after hq'
      subst ev
      exact ⟨rv,⟨V.ref (s.heap.objs.size + 1),H',I3,rfl,q3⟩⟩
    | next=>exact False.elim hq'
    | brk=>exact False.elim hq'
    | cont=>exact False.elim hq'
theorem pe_make (M : Mk X.K C f) (F : FnOk X.prog X.w X.K X.mg X.base CX k f fd ps sp) (hr : Room (k + 1) X.A) (hg : Gl X x) (hm : X.mg x = some (.ref C)) (hb : Binds X.K fd ps ds) (hd : Vals dvs ds) (hx : Passes CX X E)
    (ha : PA X (e :: es) t) (hdb : (x == ("__debug__" : Str)) = false:=by decide) (he : starEach (e :: es) X.env = (false,eval e X.env) :: starEach es X.env:=by rfl) (hpl : (backTo pos (starEach es X.env)).any (·.1) = false:=by rfl) :
    PE X (.Call (.Name x p) (e :: es) [] pos) (tMake C sp dvs E t):=by
  intro pins s σ H Q I h
  refine wpAny_Call_Name_kw (ld_glob I hg hm ?_ hdb)
  refine PySem.W.callWith_K (h₀:=X.base) I.ok.mod.kin M.kp (thn (ha pos pins s σ H _ I h) fun us s1 ⟨vs,H1,I1,r,q⟩=>⟨I1.kIn,?_⟩) he hpl
  exact run_make M F hr hb hd hx I1 r q
end
section
variable {X : Cx} {CX : CXT} {k : Nat} {f C : Addr} {fd : FuncData} {ps ks : List Str} {sp : Sp} {E : XK} {x m : Str} {p pos apos kpos : Pos} {e o : Expr} {es : List Expr} {kws : List Keyword} {te ta : TE} {t tk : TA} {nm : Option Str}
variable {g : List Value → List Value → List Value} {gV : List V → List V → List V}
end
structure FnScope (N P : List Str) (sc : Scope) : Prop where
  kind : sc.kind = .function
  co : sc.isCoroutine = false
  gen : sc.isGenerator = false
  nd : N.Nodup
  pre : N.take P.length = P
  par : ∀ x ∈ P,sc.names.lookup x = some .local ∨ sc.names.lookup x = some .cell
  nofree : ∀ y ∈ sc.names,y.2 ≠ .free
theorem bindL_out {kindOf : Str → Option NameKind} {x : Str} : ∀ {binds : List (Str × Value)} {m : Str → Option Value},(∀ v,(x,v) ∉ binds) → bindL kindOf binds m x = m x
  | [],_,_=>rfl
  | (n,v) :: r,m,h=>by
    unfold bindL
    rw [bindL_out fun w hw=>h w (List.mem_cons_of_mem _ hw)]
    split
    · have : x ≠ n:=by rintro rfl; exact h v List.mem_cons_self
      simp [this]
    · rfl
theorem bindC_out {kindOf : Str → Option NameKind} {x : Str} : ∀ {binds : List (Str × Value)} {m : Str → Option Value},(∀ v,(x,v) ∉ binds) → bindC kindOf binds m x = m x
  | [],_,_=>rfl
  | (n,v) :: r,m,h=>by
    unfold bindC
    rw [bindC_out fun w hw=>h w (List.mem_cons_of_mem _ hw)]
    split
    · rfl
    · have : x ≠ n:=by rintro rfl; exact h v List.mem_cons_self
      simp [this]
theorem bindL_get {kindOf : Str → Option NameKind} {x : Str} {v : Value} : ∀ {P : List Str} {vs : List Value} {i : Nat} {m : Str → Option Value},P.Nodup → P[i]? = some x → vs[i]? = some v → kindOf x = some .local →
    bindL kindOf (P.zip vs) m x = some v
  | [],_,_,_,_,h,_,_=>by simp at h
  | _ :: _,[],_,_,_,_,h,_=>by simp at h
  | p :: P,w :: vs,0,m,nd,h1,h2,hk=>by
    simp at h1 h2; subst h1; subst h2
    show bindL kindOf ((p,w) :: P.zip vs) m p = _
    unfold bindL
    rw [bindL_out fun v hv=>(List.nodup_cons.mp nd).1 (List.of_mem_zip hv).1,if_pos hk]
    simp
  | p :: P,w :: vs,i + 1,m,nd,h1,h2,hk=>by
    show bindL kindOf ((p,w) :: P.zip vs) m x = _
    unfold bindL
    exact bindL_get (i:=i) (List.nodup_cons.mp nd).2 (by simpa using h1) (by simpa using h2) hk
theorem bindC_get {kindOf : Str → Option NameKind} {x : Str} {v : Value} : ∀ {P : List Str} {vs : List Value} {i : Nat} {m : Str → Option Value},P.Nodup → P[i]? = some x → vs[i]? = some v → kindOf x ≠ some .local →
    bindC kindOf (P.zip vs) m x = some v
  | [],_,_,_,_,h,_,_=>by simp at h
  | _ :: _,[],_,_,_,_,h,_=>by simp at h
  | p :: P,w :: vs,0,m,nd,h1,h2,hk=>by
    simp at h1 h2; subst h1; subst h2
    show bindC kindOf ((p,w) :: P.zip vs) m p = _
    unfold bindC
    rw [bindC_out fun v hv=>(List.nodup_cons.mp nd).1 (List.of_mem_zip hv).1,if_neg hk]
    simp
  | p :: P,w :: vs,i + 1,m,nd,h1,h2,hk=>by
    show bindC kindOf ((p,w) :: P.zip vs) m x = _
    unfold bindC
    exact bindC_get (i:=i) (List.nodup_cons.mp nd).2 (by simpa using h1) (by simpa using h2) hk
def start (N : List Str) (vs : List V) : St:=vs.map some ++ List.replicate (N.length - vs.length) none
def cxOf (CX : CXT) (P : Program) (w : World) (K : PySem.W.Frag) (mg : Str → Option Value) (base : Heap) (N : List Str) (qual : Str) (scope : Scope) (f : Addr) (cd : Value) (A : Around) (outer : List Env) (s : Shared) (H : Hp) (E : XK) : Cx where
  prog:=P
  w:=w
  K:=K
  mg:=mg
  base:=base
  A:=A.deeper (envOfC qual scope s.heap.objs.size f cd)
  N:=N
  s₀:=s
  H₀:=H
  env:=envOfC qual scope s.heap.objs.size f cd
  outer:=outer
  stack:=envOfC qual scope s.heap.objs.size f cd :: outer
  ex:=[]
  calm:=true
  fn:=fun _=>true
  pn:=[]
  xe:=fun e s'=>wpAny (model P w) (A.deeper (envOfC qual scope s.heap.objs.size f cd)) (leaving (envOfC qual scope s.heap.objs.size f cd) e) (fun _ s''=>CX outer H s E e s'') (fun e' s''=>CX outer H s E e' s'') s'
theorem cell_has {sc : Scope} {n : Nat} {x : Str} (h : sc.names.lookup x = some .cell) : ∃ c,(cellsFrom n sc.names []).lookup x = some c:=by
  have q:=PySem.W.cellsFrom_some sc.names n [] (.inl h)
  exact Option.isSome_iff_exists.mp q
theorem inv_start {CX : CXT} {P : Program} {w : World} {K : PySem.W.Frag} {mg : Str → Option Value} {base : Heap} {N ps : List Str} {qual : Str} {scope : Scope} {f : Addr} {cd : Value} {A : Around} {outer : List Env} {s s1 : Shared} {H : Hp} {E : XK} {us : List Value} {vs : List V}
    (S : FnScope N ps scope) (hd : A.handled = none) (e0 : Env0 P w K mg base A outer s H) (hl : vs.length = ps.length) (r : Vals vs us)
    (x : InCallC s s.heap.objs.size (bindL (envOfC qual scope s.heap.objs.size f cd).kindOf (ps.zip us) fun _=>none) (cellsFrom (s.heap.objs.size + 1) scope.names []) (bindC (envOfC qual scope s.heap.objs.size f cd).kindOf (ps.zip us) fun _=>none) s1) :
    Inv (cxOf CX P w K mg base N qual scope f cd A outer s H E) [] (start N vs) H s1:=by
  have hpl : ps.length ≤ N.length:=by have:=congrArg List.length S.pre; rw [List.length_take] at this; omega
  obtain ⟨h1,tk,rfl,hk⟩:=x.done
  have noA : ∀ b : Addr,b ∉ (cxOf CX P w K mg base N qual scope f cd A outer s H E).ex:=fun b z=>absurd (show b ∈ ([] : List Addr) from z) (by simp)
  refine ⟨⟨e0.mod,S.kind,rfl,rfl,Nat.le_refl _,fun y z c h1 h2=>?_,fun y hy=>?_,fun y c _ h=>?_,fun _=>hd,Around.frames_deeper e0.frames,.inr ⟨rfl,rfl⟩,fun b z=>absurd z (noA b),e0.bs,e0.bsz,fun b _ _=>noA b,fun b z=>absurd z (noA b),e0.funs,e0.frf⟩,
    rfl,e0.bare,Un.kept hk,⟨_,x.toInCall.ns,fun i y v h1 h2 h3=>?_⟩,fun y c h=>⟨_,x.cell y c h⟩,e0.hok.fresh (Nat.le_refl _),fun y c h=>?_,fun p hp=>absurd (show p ∈ ([] : List (Addr × Obj)) from hp) (by simp),e0.hok.kept hk,?_⟩
  · exact name_of_addr x.apart (PySem.mem_of_lookup h1) (PySem.mem_of_lookup h2)
  · have hy : scope.names.lookup y = some .cell ∨ scope.names.lookup y = some .free:=hy
    rcases hy with hy | hy
    · exact cell_has hy
    · exact absurd rfl (S.nofree _ (PySem.mem_of_lookup hy))
  · exact Nat.le_of_lt (x.above y c (PySem.mem_of_lookup h))
  · have hi : i < vs.length:=by
      unfold start at h2
      by_cases hi : i < vs.length
      · exact hi
      · rw [List.getElem?_append_right (by simpa using hi)] at h2
        rw [List.getElem?_replicate] at h2
        split at h2 <;> cases h2
    have ha : vs[i]? = some v:=by
      unfold start at h2
      rw [List.getElem?_append_left (by simpa using hi),List.getElem?_map] at h2
      cases e : vs[i]? with
      | none=>rw [e] at h2; cases h2
      | some a=>rw [e] at h2; cases h2; rfl
    obtain ⟨u,hu,rv⟩:=r.get ha
    have hp : ps[i]? = some y:=by
      rw [← S.pre,List.getElem?_take_of_lt (by omega)]; exact h1
    have ndP : ps.Nodup:=by rw [← S.pre]; exact S.nd.sublist (List.take_sublist _ _)
    refine ⟨u,rv,?_⟩
    rcases S.par y (List.mem_of_getElem? hp) with k | k
    · exact .inl ⟨k,bindL_get ndP hp hu k⟩
    · obtain ⟨c,e⟩:=cell_has (n:=s.heap.objs.size + 1) k
      refine .inr ⟨.inl k,c,e,?_⟩
      have q:=x.cell y c e
      rw [bindC_get ndP hp hu (by show scope.names.lookup y ≠ _; rw [k]; decide)] at q
      exact q
  · exact e0.hok.fresh (Nat.le_of_lt (x.above y c (PySem.mem_of_lookup h)))
  · unfold start
    show _ = N.length
    rw [List.length_append,List.length_map,List.length_replicate]
    omega
theorem fn_of {CX : CXT} {P : Program} {w : World} {K : PySem.W.Frag} {mg : Str → Option Value} {base : Heap} {k : Nat} {f : Addr} {name qual : Str} {params : Arguments} {body : List Stmt} {scope : Scope} {dV kV doc pm cdv ct oc : Value} {an od : Option Addr}
    {osl : Array (Option Value)} {N ps : List Str} {sp : Sp} (lk : K.lookup f = some ⟨oc,od,.func (PySem.W.fnOf name qual params body scope dV kV doc pm an cdv ct),osl⟩) (hcd : PySem.W.codeIn K cdv qual = true) (S : FnScope N ps scope)
    (len : ∀ vs H Q E,sp vs H Q E → vs.length = ps.length)
    (hbody : ∀ (A : Around) (outer : List Env) (s : Shared) (H : Hp) (vs : List V) (Q : VK) (E : XK),Room k (A.deeper (envOfC qual scope s.heap.objs.size f cdv)) → sp vs H Q E →
      ∃ t,PSs (cxOf CX P w K mg base N qual scope f cdv A outer s H E) body t ∧ t { nx:=fun _ H'=>Q .non H',rt:=Q } (start N vs) H) :
    FnOk P w K mg base CX (k + 1) f (PySem.W.fnOf name qual params body scope dV kV doc pm an cdv ct) ps sp:=by
  refine ⟨len,fun A outer s H args us vs Q E hr e0 hb r hsp=>?_⟩
  have hl:=len _ _ _ _ hsp
  have KX : K.In s.heap:=e0.mod.kin.keeps fun b o e=>(e0.bs b o e).1
  have lim : s.heap.NoLimit:=e0.mod.nolimit.keeps fun b o e=>(e0.bs b o e).1
  have hkind : ∀ y ∈ ps.zip us,scope.names.lookup y.1 = some .local ∨ (scope.names.lookup y.1 = some .cell ∧ ((cellsFrom (s.heap.objs.size + 1) scope.names []).lookup y.1).isSome = true):=fun ⟨n,v⟩ hy=>by
    rcases S.par n (List.of_mem_zip hy).1 with q | q
    · exact .inl q
    · exact .inr ⟨q,PySem.W.cellsFrom_some _ _ _ (.inl q)⟩
  refine codeAny_call_function hr.depth (KX _ _ lk) rfl S.co S.gen rfl (PySem.W.codeRec_of KX hcd) (hb _ _ _ _ ?_)
  refine wpAny_newFunctionEnv_cells S.kind hkind fun env he s1 x=>?_
  subst he
  refine ⟨lim.keeps x.toInCall.keep,codeAny_func ?_⟩
  obtain ⟨t,ht,hq⟩:=hbody A outer s H vs Q E (hr.deeper _) hsp
  have I : Inv (cxOf CX P w K mg base N qual scope f cdv A outer s H E) [] (start N vs) H s1:=inv_start S hr.hd e0 hl r x
  refine wpAny_mono (ht [] s1 (start N vs) H _ I hq) (fun fl s' hs=>?_) fun e s' hs=>hs
  have fin : ∀ {σ' : St} {H' : Hp} {v : V} {u : Value},Inv (cxOf CX P w K mg base N qual scope f cdv A outer s H E) [] σ' H' s' → RelV v u → Q v H' → CE outer P w H s Q u s':=
    fun {σ' H' v u} J rv q=>⟨v,H',J.os,J.bare,J.base,J.hok,rv,q⟩
  cases fl with
  | ret u=>
    obtain ⟨v,σ',H',J,rv,q⟩:=hs
    exact fin J rv q
  | next=>
    obtain ⟨σ',H',J,q⟩:=hs
    exact fin (v:=V.non) (u:=Value.none) J rfl q
  | brk=>
    obtain ⟨_,_,_,q⟩:=hs
    exact False.elim q
  | cont=>
    obtain ⟨_,_,_,q⟩:=hs
    exact False.elim q
end L2
namespace L2
open PySem PySem.Spec PyProof.Rows
section
variable {X : Cx} {x : Str} {p pos : Pos} {e : Expr} {es : List Expr} {t : TA} {id T : String} {r : List V → Hp → VK → Prop}
def tCB (r : List V → Hp → VK → Prop) (t : TA) : TE:=fun σ H Q=>t σ H fun vs H1=>r vs H1 Q
theorem pe_callB (hc : CallR X (.builtin id) r) (hg : Gl X x) (hm : X.mg x = none) (hv : bootBuiltins x = some (.builtin id)) (ha : PA X (e :: es) t) (hn : x ≠ "__name__":=by decide) (hdb : (x == ("__debug__" : Str)) = false:=by decide)
    (he : starEach (e :: es) X.env = (false,eval e X.env) :: starEach es X.env:=by rfl) (hpl : (backTo pos (starEach es X.env)).any (·.1) = false:=by rfl) : PE X (.Call (.Name x p) (e :: es) [] pos) (tCB r t):=by
  intro pins s σ H Q I h
  refine wpAny_Call_Name_kw (ld_blt I hg hm hv ?_ hn hdb)
  exact PyProof.Rows.callWith_builtin1 (thn (ha pos pins s σ H _ I h) fun us s1 ⟨vs,H1,I1,r1,q1⟩=>hc pins s1 σ H1 vs us Q I1 r1 q1) he hpl
theorem pe_callTy (hc : CallR X (.type T) r) (hg : Gl X x) (hm : X.mg x = none) (hv : bootBuiltins x = some (.type T)) (ha : PA X (e :: es) t) (hn : x ≠ "__name__":=by decide) (hdb : (x == ("__debug__" : Str)) = false:=by decide)
    (he : starEach (e :: es) X.env = (false,eval e X.env) :: starEach es X.env:=by rfl) (hpl : (backTo pos (starEach es X.env)).any (·.1) = false:=by rfl) : PE X (.Call (.Name x p) (e :: es) [] pos) (tCB r t):=by
  intro pins s σ H Q I h
  refine wpAny_Call_Name_kw (ld_blt I hg hm hv ?_ hn hdb)
  exact PyProof.Rows.callWith_type1 (thn (ha pos pins s σ H _ I h) fun us s1 ⟨vs,H1,I1,r1,q1⟩=>hc pins s1 σ H1 vs us Q I1 r1 q1) he hpl
end
end L2
namespace L2
open PySem PySem.Spec PyProof.Rows
section
variable {κ : Type} [DecidableEq κ]
def valV (kvs : List (κ × V)) (k : κ) : Option V:=(kvs.find? fun kv=>decide (kv.1 = k)).map (·.2)
def putK (kvs : List (κ × V)) (k : κ) (v : V) : List (κ × V):=
  if (kvs.any fun kv=>decide (kv.1 = k)) = true then kvs.map (fun kv=>if kv.1 = k then (kv.1,v) else kv) else kvs ++ [(k,v)]
theorem valV_pos {p : κ × V} {r : List (κ × V)} {k : κ} (e : p.1 = k) : valV (p :: r) k = some p.2:=by simp [valV,List.find?_cons,e]
theorem valV_neg {p : κ × V} {r : List (κ × V)} {k : κ} (e : ¬ p.1 = k) : valV (p :: r) k = valV r k:=by simp [valV,List.find?_cons,e]
theorem valV_any (k : κ) : ∀ kvs : List (κ × V),(kvs.any fun kv=>decide (kv.1 = k)) = (valV kvs k).isSome
  | []=>rfl
  | p :: r=>by
    rw [List.any_cons]
    by_cases e : p.1 = k
    · simp only [valV_pos e,decide_eq_true e,Bool.true_or,Option.isSome_some]
    · rw [valV_neg e,decide_eq_false e,Bool.false_or]; exact valV_any k r
theorem valV_map (k j : κ) (y : V) : ∀ kvs : List (κ × V),valV (kvs.map fun kv=>if kv.1 = k then (kv.1,y) else kv) j = (valV kvs j).map fun x=>if j = k then y else x
  | []=>rfl
  | p :: r=>by
    have ih:=valV_map k j y r
    rw [List.map_cons]
    by_cases h : p.1 = k
    · rw [if_pos h]
      by_cases e : p.1 = j
      · rw [valV_pos (p:=(p.1,y)) e,valV_pos e,Option.map_some,if_pos (e.symm.trans h)]
      · rw [valV_neg (p:=(p.1,y)) e,valV_neg e,ih]
    · rw [if_neg h]
      by_cases e : p.1 = j
      · rw [valV_pos (p:=p) e,valV_pos e,Option.map_some,if_neg (fun z=>h (e.trans z))]
      · rw [valV_neg (p:=p) e,valV_neg e,ih]
theorem valV_snoc (k j : κ) (y : V) : ∀ kvs : List (κ × V),valV kvs k = none → valV (kvs ++ [(k,y)]) j = if j = k then some y else valV kvs j
  | [],_=>by
    by_cases e : k = j
    · rw [if_pos e.symm]; exact valV_pos (p:=(k,y)) e
    · rw [if_neg (fun z=>e z.symm)]; exact valV_neg (p:=(k,y)) e
  | p :: r,hn=>by
    rw [List.cons_append]
    have hk : ¬ p.1 = k:=fun z=>by rw [valV_pos z] at hn; cases hn
    rw [valV_neg hk] at hn
    have ih:=valV_snoc k j y r hn
    by_cases e : p.1 = j
    · rw [valV_pos e,valV_pos e,if_neg (fun z=>hk (e.trans z))]
    · rw [valV_neg e,valV_neg e,ih]
theorem valV_put (kvs : List (κ × V)) (k j : κ) (y : V) : valV (putK kvs k y) j = if j = k then some y else valV kvs j:=by
  unfold putK
  by_cases a : (kvs.any fun kv=>decide (kv.1 = k)) = true
  · rw [if_pos a,valV_map]
    rw [valV_any] at a
    by_cases e : j = k
    · obtain ⟨x,hx⟩:=Option.isSome_iff_exists.mp a
      rw [if_pos e,e,hx,Option.map_some,if_pos rfl]
    · rw [if_neg e]
      cases valV kvs j with
      | none=>rfl
      | some x=>rw [Option.map_some,if_neg e]
  · rw [if_neg a]
    refine valV_snoc k j y kvs ?_
    rw [valV_any] at a
    cases q : valV kvs k with
    | none=>rfl
    | some x=>rw [q] at a; exact (a rfl).elim
theorem length_putK (kvs : List (κ × V)) (k : κ) (v : V) : (putK kvs k v).length ≤ kvs.length + 1:=by
  unfold putK
  split
  · rw [List.length_map]; omega
  · rw [List.length_append,List.length_cons,List.length_nil]; omega
theorem RelO.isSome_eq {o : Option V} {u : Option Value} (r : RelO o u) : o.isSome = u.isSome:=by
  cases o with
  | none=>cases u with
    | none=>rfl
    | some _=>exact (show False from r).elim
  | some _=>cases u with
    | none=>exact (show False from r).elim
    | some _=>rfl
theorem RelO.getD {o : Option V} {u : Option Value} {d : V} {d' : Value} (r : RelO o u) (rd : RelV d d') : RelV (o.getD d) (u.getD d'):=by
  cases o with
  | none=>cases u with
    | none=>exact rd
    | some _=>exact (show False from r).elim
  | some _=>cases u with
    | none=>exact (show False from r).elim
    | some _=>exact r
theorem KV.val {kvs : List (κ × V)} {vs : List (κ × Value)} (r : KV kvs vs) (k : κ) : RelO (valV kvs k) (valueAt vs k):=by
  unfold KV at r
  induction r with
  | nil=>exact True.intro
  | @cons p q ps qs h t ih=>
    obtain ⟨h1,h2⟩:=h
    by_cases e : p.1 = k
    · have e' : q.1 = k:=h1.symm.trans e
      have b : valueAt (q :: qs) k = some q.2:=by simp [valueAt,List.find?_cons,e']
      rw [valV_pos e,b]; exact h2
    · have e' : ¬ q.1 = k:=fun z=>e (h1.trans z)
      have b : valueAt (q :: qs) k = valueAt qs k:=by simp [valueAt,List.find?_cons,e']
      rw [valV_neg e,b]; exact ih
theorem KV.any {kvs : List (κ × V)} {vs : List (κ × Value)} (r : KV kvs vs) (k : κ) : (kvs.any fun kv=>decide (kv.1 = k)) = vs.any fun kv=>decide (kv.1 = k):=by
  unfold KV at r
  induction r with
  | nil=>rfl
  | cons h t ih=>rw [List.any_cons,List.any_cons,ih,h.1]
theorem KV.repl {kvs : List (κ × V)} {vs : List (κ × Value)} (r : KV kvs vs) (k : κ) {y : V} {u : Value} (ry : RelV y u) :
    KV (kvs.map fun kv=>if kv.1 = k then (kv.1,y) else kv) (vs.map fun kv=>if kv.1 = k then (kv.1,u) else kv):=by
  unfold KV at r ⊢
  induction r with
  | nil=>exact .nil
  | @cons p q ps qs h t ih=>
    rw [List.map_cons,List.map_cons]
    refine .cons ?_ ih
    obtain ⟨h1,h2⟩:=h
    by_cases e : p.1 = k
    · rw [if_pos e,if_pos (h1.symm.trans e)]; exact ⟨h1,ry⟩
    · rw [if_neg e,if_neg (fun z=>e (h1.trans z))]; exact ⟨h1,h2⟩
theorem KV.put {kvs : List (κ × V)} {vs : List (κ × Value)} (r : KV kvs vs) (k : κ) {y : V} {u : Value} (ry : RelV y u) : KV (putK kvs k y) (stored vs k u):=by
  unfold putK stored
  rw [r.any k]
  by_cases e : (vs.any fun kv=>decide (kv.1 = k)) = true
  · rw [if_pos e,if_pos e]; exact r.repl k ry
  · rw [if_neg e,if_neg e]; exact Paired.snoc r ⟨rfl,ry⟩
theorem KV.length {kvs : List (κ × V)} {vs : List (κ × Value)} (r : KV kvs vs) : kvs.length = vs.length:=Paired.length r
end
theorem kV_is {P : Program} {w : World} {k : Key} {u : Value} (r : RelV (kV k) u) : (mixKind P w).is k u = true:=by
  cases k with
  | inl i=>obtain ⟨t,e⟩:=(show ∃ t,u = Value.int i t from r); subst e; exact mixKind_int P w i t
  | inr x=>obtain ⟨t,e⟩:=(show ∃ t,u = Value.str x t from r); subst e; exact mixKind_str P w x t
theorem items_are {P : Program} {w : World} : ∀ {ks : List Key} {us : List Value},Vals (ks.map kV) us → ItemsAre (mixKind P w) ks us
  | [],_,r=>by rw [List.map_nil] at r; cases r; exact .nil
  | k :: ks,_,r=>by
    rw [List.map_cons] at r
    cases r with
    | cons h t=>exact .cons (kV_is h) (items_are t)
abbrev KT (H : Hp) : List (List Key × V) → List (List Key × Addr × Value) → Prop:=Paired fun p q=>p.1 = q.1 ∧ H q.2.1 = some (.tup (p.1.map kV)) ∧ RelV p.2 q.2.2
theorem KT.val {H : Hp} {kvs : List (List Key × V)} {xs : List (List Key × Addr × Value)} (r : KT H kvs xs) (k : List Key) : RelO (valV kvs k) ((atKey xs k).map (·.2)):=by
  induction r with
  | nil=>exact True.intro
  | @cons p q ps qs h t ih=>
    obtain ⟨h1,_,h2⟩:=h
    by_cases e : p.1 = k
    · have e' : q.1 = k:=h1.symm.trans e
      have b : atKey (q :: qs) k = some q.2:=by simp [atKey,List.find?_cons,e']
      rw [valV_pos e,b]; exact h2
    · have e' : ¬ q.1 = k:=fun z=>e (h1.trans z)
      have b : atKey (q :: qs) k = atKey qs k:=by simp [atKey,List.find?_cons,e']
      rw [valV_neg e,b]; exact ih
theorem KT.repl {H : Hp} {kvs : List (List Key × V)} {xs : List (List Key × Addr × Value)} (r : KT H kvs xs) (k : List Key) {y : V} {u : Value} (ry : RelV y u) :
    KT H (kvs.map fun kv=>if kv.1 = k then (kv.1,y) else kv) (xs.map (putAt k u)):=by
  induction r with
  | nil=>exact .nil
  | @cons p q ps qs h t ih=>
    rw [List.map_cons,List.map_cons]
    refine .cons ?_ ih
    obtain ⟨h1,h2,h3⟩:=h
    unfold putAt
    by_cases e : p.1 = k
    · rw [if_pos e,if_pos (h1.symm.trans e)]; exact ⟨h1,h2,ry⟩
    · rw [if_neg e,if_neg (fun z=>e (h1.trans z))]; exact ⟨h1,h2,h3⟩
theorem KT.put {H : Hp} {kvs : List (List Key × V)} {xs : List (List Key × Addr × Value)} (r : KT H kvs xs) (k : List Key) {b : Addr} {y : V} {u : Value} (hb : H b = some (.tup (k.map kV))) (ry : RelV y u) :
    KT H (putK kvs k y) (storedH xs k b u):=by
  have e : (kvs.any fun kv=>decide (kv.1 = k)) = (atKey xs k).isSome:=by
    rw [valV_any,(r.val k).isSome_eq,Option.isSome_map]
  unfold putK storedH
  rw [e]
  by_cases q : (atKey xs k).isSome = true
  · rw [if_pos q,if_pos q]; exact r.repl k ry
  · rw [if_neg q,if_neg q]; exact Paired.snoc r ⟨rfl,hb,ry⟩
theorem KT.keeps {H H' : Hp} {kvs : List (List Key × V)} {xs : List (List Key × Addr × Value)} (r : KT H kvs xs) (ht : ∀ b ys,H b = some (.tup ys) → H' b = some (.tup ys)) : KT H' kvs xs:=
  Paired.mapP r fun _ _ z=>⟨z.1,ht _ _ z.2.1,z.2.2⟩
section
variable {P : Program} {w : World} {H : Hp} {h : Heap} {a : Addr}
theorem rd_of {u : HO} (ok : HOk P w H h) (e : Rd H a u) : ObjOk P w H h a u:=e.ok ok
theorem dk_rd {kvs : List (Key × V)} (ok : HOk P w H h) (e : Rd H a (.dK kvs)) : kvs.length ≤ sizeLine ∧ (a == sysModules) = false ∧ ∃ vs,KV kvs vs ∧ h.DictOf (mixKind P w) a vs:=
  show ObjOk P w H h a (.dK kvs) from rd_of ok e
theorem dk_of {kvs : List (Key × V)} (ok : HOk P w H h) (e : H a = some (.dK kvs)) : kvs.length ≤ sizeLine ∧ (a == sysModules) = false ∧ ∃ vs,KV kvs vs ∧ h.DictOf (mixKind P w) a vs:=dk_rd ok (.inl e)
theorem key_of {ks : List Key} (ok : HOk P w H h) (e : H a = some (.tup (ks.map kV))) : (tupleKind (mixKind P w)).is h ks a:=by
  obtain ⟨_,its,r,o,h1,h2,n,h3⟩:=(show ObjOk P w H h a (.tup (ks.map kV)) from ok a _ e)
  exact ⟨o,its.toArray,n,h1,h2,h3,by simpa using items_are r⟩
theorem dt_rd {kvs : List (List Key × V)} (ok : HOk P w H h) (e : Rd H a (.dT kvs)) : kvs.length ≤ sizeLine ∧ (a == sysModules) = false ∧
    ∃ xs,KT H kvs xs ∧ h.DictOfH (tupleKind (mixKind P w)) a xs:=by
  obtain ⟨z,y,xs,r,o,es,ep,h1,h2,h3,h4,h5⟩:=(show ObjOk P w H h a (.dT kvs) from rd_of ok e)
  refine ⟨z,y,xs,r,o,es,ep,h1,h2,h3,h4,fun x hx=>?_,h5⟩
  have all : ∀ {l : List (List Key × V)} {m : List (List Key × Addr × Value)},KT H l m → ∀ x ∈ m,(tupleKind (mixKind P w)).is h x.1 x.2.1:=by
    intro l m q
    induction q with
    | nil=>intro x hx; exact nomatch hx
    | @cons p q ps qs hq t ih=>
      intro x hx
      rcases List.mem_cons.mp hx with e | hx
      · subst e
        exact key_of ok (by rw [← hq.1]; exact hq.2.1)
      · exact ih x hx
  exact all r x hx
theorem dt_of {kvs : List (List Key × V)} (ok : HOk P w H h) (e : H a = some (.dT kvs)) : kvs.length ≤ sizeLine ∧ (a == sysModules) = false ∧
    ∃ xs,KT H kvs xs ∧ h.DictOfH (tupleKind (mixKind P w)) a xs:=dt_rd ok (.inl e)
end
def DGet (H : Hp) (a : Addr) (y : V) (r : Option V) : Prop:=
  (∃ kvs k,Rd H a (.dK kvs) ∧ y = kV k ∧ r = valV kvs k) ∨ ∃ kvs k b,Rd H a (.dT kvs) ∧ y = .ref b ∧ H b = some (.tup (k.map kV)) ∧ r = valV kvs k
def DPut (H : Hp) (a : Addr) (y v : V) (H' : Hp) : Prop:=
  (∃ kvs k,H a = some (.dK kvs) ∧ y = kV k ∧ kvs.length < sizeLine ∧ H' = upd H a (.dK (putK kvs k v))) ∨
  ∃ kvs k b,H a = some (.dT kvs) ∧ y = .ref b ∧ H b = some (.tup (k.map kV)) ∧ kvs.length < sizeLine ∧ H' = upd H a (.dT (putK kvs k v))
theorem DGet.k {H : Hp} {a : Addr} {kvs : List (Key × V)} {k : Key} (e : H a = some (.dK kvs)) : DGet H a (kV k) (valV kvs k):=.inl ⟨kvs,k,.inl e,rfl,rfl⟩
theorem DGet.t {H : Hp} {a b : Addr} {kvs : List (List Key × V)} {k : List Key} (e : H a = some (.dT kvs)) (eb : H b = some (.tup (k.map kV))) : DGet H a (.ref b) (valV kvs k):=.inr ⟨kvs,k,b,.inl e,rfl,eb,rfl⟩
theorem DPut.k {H : Hp} {a : Addr} {kvs : List (Key × V)} {k : Key} {v : V} (e : H a = some (.dK kvs)) (hl : kvs.length < sizeLine) : DPut H a (kV k) v (upd H a (.dK (putK kvs k v))):=.inl ⟨kvs,k,e,rfl,hl,rfl⟩
theorem DPut.t {H : Hp} {a b : Addr} {kvs : List (List Key × V)} {k : List Key} {v : V} (e : H a = some (.dT kvs)) (eb : H b = some (.tup (k.map kV))) (hl : kvs.length < sizeLine) :
    DPut H a (.ref b) v (upd H a (.dT (putK kvs k v))):=.inr ⟨kvs,k,b,e,rfl,eb,hl,rfl⟩
section
variable {X : Cx} {pins : List (Addr × Obj)} {σ : St} {H : Hp} {s : Shared} {a : Addr} {y v : V} {u r : Value} {o : Option V} {A : Around} {E : Value → Shared → Prop}
theorem Inv.big (I : Inv X pins σ H s) : sysModules < s.heap.objs.size:=by
  have h : mainGlobals < s.heap.objs.size:=(I.mod.glob.keeps I.bk).lt
  exact Nat.lt_trans (by decide) h
theorem d_getItem {Q : Value → Shared → Prop} (hu : A.units + 1 < cLine) (I : Inv X pins σ H s) (g : DGet H a y (some v)) (ry : RelV y u) (h : ∀ w' s',Inv X pins σ H s' → RelV v w' → Q w' s') :
    wpAny (model X.prog X.w) A (getItem (.ref a) u) Q E s:=by
  rcases g with ⟨kvs,k,e,ey,l⟩ | ⟨kvs,k,b,e,ey,eb,l⟩
  · subst ey
    obtain ⟨z,hd,vs,rel,dd⟩:=dk_rd I.hok e
    obtain ⟨w',hw,rw'⟩:=RelO.some_of (v:=v) (o:=valueAt vs k) (by rw [l]; exact rel.val k)
    exact wpAny_getItem_of (kV_is ry) dd.mapOf hw (h w' _ (I.tok _) rw')
  · subst ey
    cases (show u = Value.ref b from ry)
    obtain ⟨z,hd,xs,rel,dd⟩:=dt_rd I.hok e
    obtain ⟨w',hw,rw'⟩:=RelO.some_of (v:=v) (o:=(atKey xs k).map (·.2)) (by rw [l]; exact rel.val k)
    obtain ⟨p,hp,hp2⟩:=Option.map_eq_some_iff.mp hw
    refine wpAny_getItem_heap (tupleKind_room_in1 hu) (key_of I.hok eb) dd hp ?_
    rw [hp2]
    exact h w' _ (I.tok _) rw'
theorem d_notIn {Q : Value → Shared → Prop} (hu : A.units + 1 < cLine) (I : Inv X pins σ H s) (g : DGet H a y o) (ry : RelV y u) (h : ∀ s',Inv X pins σ H s' → Q (.bool (!o.isSome)) s') :
    wpAny (model X.prog X.w) A (compareOp .NotIn u (.ref a)) Q E s:=by
  rcases g with ⟨kvs,k,e,ey,l⟩ | ⟨kvs,k,b,e,ey,eb,l⟩
  · subst ey
    obtain ⟨z,hd,vs,rel,dd⟩:=dk_rd I.hok e
    refine wpAny_notIn_of (kV_is ry) hd dd.mapOf ?_
    rw [← (rel.val k).isSome_eq,← l]
    exact h _ (I.tok _)
  · subst ey
    cases (show u = Value.ref b from ry)
    obtain ⟨z,hd,xs,rel,dd⟩:=dt_rd I.hok e
    refine wpAny_notIn_heap (tupleKind_room_in1 hu) (key_of I.hok eb) hd dd ?_
    have q:=(rel.val k).isSome_eq
    rw [Option.isSome_map] at q
    rw [← q,← l]
    exact h _ (I.tok _)
theorem d_write {h' : Heap} {t' : Nat} {ob : HO} (I : Inv X pins σ H s) (mu : Mut (H a)) (hs : Heap.SameBut a s.heap h') (he : ∃ q,h'.get? a = some q) (new : ObjOk X.prog X.w (upd H a ob) h' a ob) :
    Inv X pins σ (upd H a ob) { s with heap:=h',toks:=t' }:=
  I.write (x:=a) (e:=a) mu (.inl rfl) (fun b q hb z=>(hs.2 b hb).trans z) he new
theorem dk_new {P : Program} {w : World} {H' : Hp} {h' : Heap} {kvs : List (Key × V)} {vs : List (Key × Value)} (z : kvs.length ≤ sizeLine) (hd : (a == sysModules) = false) (rel : KV kvs vs) (dd : h'.DictOf (mixKind P w) a vs) :
    ObjOk P w H' h' a (.dK kvs):=⟨z,hd,vs,rel,dd⟩
theorem d_setItem {H' : Hp} {Q : Unit → Shared → Prop} (hu : A.units + 1 < cLine) (I : Inv X pins σ H s) (g : DPut H a y v H') (ry : RelV y u) (rv : RelV v r) (h : ∀ s',Inv X pins σ H' s' → Q () s') :
    wpAny (model X.prog X.w) A (setItem (.ref a) u r) Q E s:=by
  rcases g with ⟨kvs,k,e,ey,l,eH⟩ | ⟨kvs,k,b,e,ey,eb,l,eH⟩
  · subst ey eH
    obtain ⟨z,hd,vs,rel,dd⟩:=dk_of I.hok e
    have hz : vs.length ≤ sizeLine:=by rw [← rel.length]; exact z
    have hl : (putK kvs k v).length ≤ sizeLine:=by have:=length_putK kvs k v; omega
    refine wpAny_setItem_pairs (hsz:=hz) (kV_is ry) dd fun h' dd' hs=>h _ ?_
    have he : ∃ q,h'.get? a = some q:=let ⟨q,_,_,hq,_⟩:=dd'; ⟨q,hq⟩
    exact d_write I (by rw [e]; exact True.intro) hs he (dk_new hl hd (rel.put k rv) dd')
  · subst ey eH
    cases (show u = Value.ref b from ry)
    obtain ⟨z,hd,xs,rel,dd⟩:=dt_of I.hok e
    have hz : xs.length ≤ sizeLine:=by rw [← Paired.length rel]; exact z
    have hl : (putK kvs k v).length ≤ sizeLine:=by have:=length_putK kvs k v; omega
    refine wpAny_setItem_heap (hsz:=hz) (tupleKind_room_in1 hu) (key_of I.hok eb) dd fun h' dd' hs=>h _ ?_
    obtain ⟨q,es,ep,hq,h2,h3,h4,_,h5⟩:=dd'
    refine d_write I (by rw [e]; exact True.intro) hs ⟨q,hq⟩ ⟨hl,hd,_,(rel.put k eb rv).keeps fun c ys ec=>?_,q,es,ep,hq,h2,h3,h4,h5⟩
    rw [upd_ne (ne_of ec e (fun z=>nomatch z))]
    exact ec
end
section
variable {X : Cx} {pins : List (Addr × Obj)} {σ : St} {H : Hp} {s : Shared} {a : Addr} {kvs : List (Key × V)} {k : Key} {u : Value} {A : Around} {E : Value → Shared → Prop}
end
def NoSl (i : Expr) : Prop:=∀ ov iv,subscripted i false ov iv = operate [ov,iv] (getItem ov iv)
theorem subD_of {prog : Program} {w : World} {A : Around} {E : Value → Shared → Prop} {s : Shared} {env : Env} {value slice : Expr} {pos : Pos} {T id : String} {Q : Value → Shared → Prop}
    (hl : typeLookup (.type T) "__getitem__" = pure (some (.builtin id))) (hs : NoSl slice)
    (h : wpAny (model prog w) A (eval value env) (fun o s₁=>wpAny (model prog w) A (eval slice env) (fun i s₂=>s₂.TypeIs o T ∧ wpAny (model prog w) A (getItem o i) Q E s₂) E s₁) E s) :
    wpAny (model prog w) A (eval (.Subscript value slice pos) env) Q E s:=by
  refine Subscript_ (wpAny_mono h (fun o s₁ h₁=>wpAny_mono h₁ (fun i s₂ h₂=>?_) fun _ _ x=>x) fun _ _ x=>x)
  obtain ⟨hT,h₂⟩:=h₂
  unfold subscriptTail
  refine wpAny_bind ?_
  rw [getitemInPython_of_ne hT.not_modules]
  refine wpAny_bind (wpAny_specialOf hT hl ?_)
  have fin : wpAny (model prog w) A (subscripted slice false o i) (fun r s₃=>wpAny (model prog w) A (letTemporaryGo value o r >>= fun _=>pure r) Q E s₃) E s₂:=by
    rw [hs o i]
    exact wpAny_operating (wpAny_mono h₂ (fun r s₃ h₃=>wpAny_bind (wpAny_letTemporaryGo (wpAny_pure h₃))) fun _ _ x=>x)
  first
    | exact wpAny_pure (wpAny_bind fin)
    | exact wpAny_bind (wpAny_pure (wpAny_bind fin))
    | exact wpAny_bind fin
theorem dict_typeIs {X : Cx} {pins : List (Addr × Obj)} {σ : St} {H : Hp} {s : Shared} {a : Addr} {y : V} {o : Option V} (I : Inv X pins σ H s) (g : DGet H a y o) : s.TypeIs (.ref a) "dict":=by
  rcases g with ⟨kvs,k,e,_,_⟩ | ⟨kvs,k,b,e,_,_,_⟩
  · obtain ⟨_,_,vs,_,dd⟩:=dk_rd I.hok e
    exact dd.typeIs
  · obtain ⟨_,_,xs,_,dd⟩:=dt_rd I.hok e
    exact dd.typeIs
def tDGet (td ty : TE) : TE:=fun σ H Q=>td σ H fun x H1=>ty σ H1 fun y H2=>∃ a v,x = .ref a ∧ DGet H2 a y (some v) ∧ Q v H2
def tDIn (ty td : TE) : TE:=fun σ H Q=>ty σ H fun y H1=>td σ H1 fun x H2=>∃ a o,x = .ref a ∧ DGet H2 a y o ∧ Q (.bl o.isSome) H2
def tDNotIn (ty td : TE) : TE:=fun σ H Q=>ty σ H fun y H1=>td σ H1 fun x H2=>∃ a o,x = .ref a ∧ DGet H2 a y o ∧ Q (.bl (!o.isSome)) H2
def sDPut (td ty tv : TE) : TS:=fun D σ H=>tv σ H fun v H1=>td σ H1 fun x H2=>ty σ H2 fun y H3=>∃ a H4,x = .ref a ∧ DPut H3 a y v H4 ∧ D.nx σ H4
section
variable {X : Cx} {o i e value : Expr} {pos pos' tpos : Pos} {td ty tv : TE}
theorem pe_dget (hu : X.A.units + 1 < cLine) (ho : PE X o td) (hi : PE X i ty) (hs : NoSl i) : PE X (.Subscript o i pos) (tDGet td ty):=by
  intro pins s σ H Q I h
  refine subD_of PySem.F.slot_dict_getitem.lookup hs (thn (ho pins s σ H _ I h) fun u s1 ⟨x,H1,I1,rx,q1⟩=>thn (hi pins s1 σ H1 _ I1 q1) fun iv s2 ⟨y,H2,I2,ry,a,v,ex,g,q2⟩=>?_)
  subst ex
  obtain rfl : u = Value.ref a:=rx
  exact ⟨dict_typeIs I2 g,d_getItem hu I2 g ry fun w' s3 I3 rw'=>⟨v,H2,I3,rw',q2⟩⟩
theorem pc_dnotin (hu : X.A.units + 1 < cLine) (hi : PE X i ty) (ho : PE X o td) : PC X .NotIn i o (tDNotIn ty td):=by
  intro pins s σ H Q I h
  refine thn (hi pins s σ H _ I h) fun iv s1 ⟨y,H1,I1,ry,q1⟩=>thn (ho pins s1 σ H1 _ I1 q1) fun u s2 ⟨x,H2,I2,rx,a,ov,ex,g,q2⟩=>?_
  subst ex
  obtain rfl : u = Value.ref a:=rx
  exact d_notIn hu I2 g ry fun s3 I3=>⟨.bl (!ov.isSome),H2,I3,rfl,q2⟩
theorem ps_dput (hu : X.A.units + 1 < cLine) (ho : PE X o td) (hi : PE X i ty) (hv : PE X value tv) (hs : swapsWith value (some (.Subscript o i pos')) pos.line X.env = pure false) :
    PS X (.Assign [.Subscript o i pos'] value pos) (sDPut td ty tv):=by
  intro pins s σ H D I h
  refine wpAny_Assign_Subscript (thn (hv pins s σ H _ I h) fun r s1 ⟨v,H1,I1,rv,q1⟩=>thn (ho pins s1 σ H1 _ I1 q1) fun u s2 ⟨x,H2,I2,rx,q2⟩=>thn (hi pins s2 σ H2 _ I2 q2) fun iv s3 ⟨y,H3,I3,ry,a,H4,ex,g,q3⟩=>?_) hs
  subst ex
  obtain rfl : u = Value.ref a:=rx
  exact d_setItem hu I3 g ry rv fun s4 I4=>⟨σ,H4,I4,q3⟩
end
theorem dk_empty {P : Program} {w : World} {H : Hp} (h : Heap) (hb : sysModules < h.objs.size) : ObjOk P w H (h.push { cls:=.type "dict",data:=.dict #[] }) h.objs.size (.dK []):=
  ⟨Nat.zero_le _,beq_eq_false_iff_ne.mpr (Ne.symm (Nat.ne_of_lt hb)),[],.nil,Heap.DictOf.new h⟩
theorem dt_empty {P : Program} {w : World} {H : Hp} (h : Heap) (hb : sysModules < h.objs.size) : ObjOk P w H (h.push { cls:=.type "dict",data:=.dict #[] }) h.objs.size (.dT []):=
  ⟨Nat.zero_le _,beq_eq_false_iff_ne.mpr (Ne.symm (Nat.ne_of_lt hb)),[],.nil,_,#[],0,Heap.get?_push_size _ rfl,⟨rfl,rfl,rfl⟩,rfl,rfl,List.nodup_nil⟩
def tDNewK : TE:=fun _ H Q=>∀ p,H p = none → Q (.ref p) (upd H p (.dK []))
def tDNewT : TE:=fun _ H Q=>∀ p,H p = none → Q (.ref p) (upd H p (.dT []))
section
variable {X : Cx} {pos : Pos}
theorem pe_dnewK : PE X (.Dict [] [] pos) tDNewK:=fun pins s σ H Q I h=>
  wpAny_Dict_empty ⟨.ref s.heap.objs.size,_,I.laid (a:=s.heap.objs.size) (o:=.dK []) (t':=s.toks) (fun _ _ q=>Heap.get?_push_of_some _ q) (Nat.le_refl _) (dk_empty s.heap I.big),rfl,h _ (I.hok.fresh (Nat.le_refl _))⟩
theorem pe_dnewT : PE X (.Dict [] [] pos) tDNewT:=fun pins s σ H Q I h=>
  wpAny_Dict_empty ⟨.ref s.heap.objs.size,_,I.laid (a:=s.heap.objs.size) (o:=.dT []) (t':=s.toks) (fun _ _ q=>Heap.get?_push_of_some _ q) (Nat.le_refl _) (dt_empty s.heap I.big),rfl,h _ (I.hok.fresh (Nat.le_refl _))⟩
end
structure M1 (X : Cx) (o : Expr) (m : Str) (apos : Pos) (e : Expr) (cpos : Pos) : Prop where
  base : attributeBase o m X.env (eval o X.env) = eval o X.env
  few : ((backTo cpos (starEach [e] X.env)).all (fun x=>!x.1) && (backToKw cpos (keywordEach [] X.env)).all (fun x=>x.1.isSome)
    && decide (([e] : List Expr).length + ([] : List Keyword).length + (if ([] : List Keyword).isEmpty then 0 else 1) < 30)) = true
  line : (apos.endLine == cpos.line) = true
  trees : backTo cpos (starEach [e] X.env) = [(false,eval e X.env)]
structure M2 (X : Cx) (o : Expr) (m : Str) (apos : Pos) (e f : Expr) (cpos : Pos) : Prop where
  base : attributeBase o m X.env (eval o X.env) = eval o X.env
  few : ((backTo cpos (starEach [e,f] X.env)).all (fun x=>!x.1) && (backToKw cpos (keywordEach [] X.env)).all (fun x=>x.1.isSome)
    && decide (([e,f] : List Expr).length + ([] : List Keyword).length + (if ([] : List Keyword).isEmpty then 0 else 1) < 30)) = true
  line : (apos.endLine == cpos.line) = true
  trees : backTo cpos (starEach [e,f] X.env) = [(false,eval e X.env),(false,eval f X.env)]
def IsD (H : Hp) (a : Addr) : Prop:=(∃ kvs,Rd H a (.dK kvs)) ∨ ∃ kvs,Rd H a (.dT kvs)
theorem isD_at {X : Cx} {pins : List (Addr × Obj)} {σ : St} {H : Hp} {s : Shared} {a : Addr} (I : Inv X pins σ H s) (d : IsD H a) :
    s.TypeIs (.ref a) "dict" ∧ (∀ b,Value.ref a = .ref b → ∃ ob,s.heap.get? b = some ob ∧ ob.dict = none) ∧ (a == sysModules) = false:=by
  rcases d with ⟨kvs,e⟩ | ⟨kvs,e⟩
  · obtain ⟨_,hd,vs,_,dd⟩:=dk_rd I.hok e
    refine ⟨dd.typeIs,fun b q=>?_,hd⟩
    cases q
    obtain ⟨ob,_,_,h1,h2,_⟩:=dd
    exact ⟨ob,h1,h2.2.1⟩
  · obtain ⟨_,hd,xs,_,dd⟩:=dt_rd I.hok e
    refine ⟨dd.typeIs,fun b q=>?_,hd⟩
    cases q
    obtain ⟨ob,_,_,h1,h2,_⟩:=dd
    exact ⟨ob,h1,h2.2.1⟩
section
variable {X : Cx} {pins : List (Addr × Obj)} {σ : St} {H : Hp} {s : Shared} {a : Addr} {y d : V} {u r : Value} {o : Option V} {A : Around} {E : Value → Shared → Prop}
theorem d_get2 {Q : Value → Shared → Prop} (hu : A.units + 1 < cLine) (I : Inv X pins σ H s) (g : DGet H a y o) (ry : RelV y u) (rd : RelV d r) (h : ∀ w' s',Inv X pins σ H s' → RelV (o.getD d) w' → Q w' s') :
    wpAny (model X.prog X.w) A (call (.builtin "dict.get") [.ref a,u,r]) Q E s:=by
  rcases g with ⟨kvs,k,e,ey,l⟩ | ⟨kvs,k,b,e,ey,eb,l⟩
  · subst ey
    obtain ⟨z,hd,vs,rel,dd⟩:=dk_rd I.hok e
    refine call_meetsIn PySem.F.slot_dict_get dd.typeIs PySem.F.entry_dict_get (PySem.F.args_dict_get_3 _ _ _) (meets_dict_get_default (mixKind X.prog X.w) a (kV_is ry) hd r) ⟨_,dd.mapOf,h _ _ (I.tok _) ?_⟩
    rw [l]
    exact (rel.val k).getD rd
  · subst ey
    cases (show u = Value.ref b from ry)
    obtain ⟨z,hd,xs,rel,dd⟩:=dt_rd I.hok e
    refine call_meetsIn PySem.F.slot_dict_get dd.typeIs PySem.F.entry_dict_get (PySem.F.args_dict_get_3 _ _ _) (meetsH_dict_get_default (tupleKind (mixKind X.prog X.w)) a b hd r) ⟨tupleKind_room_in1 hu,k,xs,key_of I.hok eb,dd,h _ _ (I.tok _) ?_⟩
    rw [l]
    exact (rel.val k).getD rd
end
def tDGet2 (td ty tx : TE) : TE:=fun σ H Q=>td σ H fun x H1=>∃ a,x = .ref a ∧ IsD H1 a ∧ ty σ H1 fun y H2=>tx σ H2 fun z H3=>∃ o,DGet H3 a y o ∧ Q (o.getD z) H3
section
variable {X : Cx} {o e f : Expr} {apos cpos : Pos} {td ty tx : TE}
theorem pe_dget2 (hu : X.A.units + 1 < cLine) (ho : PE X o td) (he : PE X e ty) (hf : PE X f tx) (m : M2 X o "get" apos e f cpos) : PE X (.Call (.Attribute o "get" apos) [e,f] [] cpos) (tDGet2 td ty tx):=by
  intro pins s σ H Q I h
  refine wpAny_Call_method m.base m.few m.line PySem.F.plainAttrs_dict PySem.F.slot_dict_get PySem.F.type_dict_get (thn (ho pins s σ H _ I h) fun u s1 ⟨x,H1,I1,rx,a,ex,d,q1⟩=>?_)
  subst ex
  obtain rfl : u = Value.ref a:=rx
  obtain ⟨t1,t2,_⟩:=isD_at I1 d
  refine ⟨t1,t2,?_⟩
  rw [m.trees]
  refine Calls.callWith_builtin rfl (Calls.evalArgs_plain (Calls.spliced_cons (thn (he pins s1 σ H1 _ I1 q1) fun iv s2 ⟨y,H2,I2,ry,q2⟩=>
    Calls.spliced_cons (thn (hf pins s2 σ H2 _ I2 q2) fun fv s3 ⟨z,H3,I3,rz,ov,g,q3⟩=>Calls.spliced_nil ?_))))
  exact d_get2 hu I3 g ry rz fun w' s4 I4 rw'=>⟨_,H3,I4,rw',q3⟩
end
section
variable {X : Cx} {pins : List (Addr × Obj)} {σ : St} {H : Hp} {s : Shared} {a : Addr} {kvs : List (Key × V)} {A : Around} {E : Value → Shared → Prop}
end
section
variable {X : Cx} {pins : List (Addr × Obj)} {σ : St} {H : Hp} {s : Shared} {a : Addr} {y : V} {u : Value} {A : Around} {E : Value → Shared → Prop}
end
end L2
namespace HT
open PySem PyProof.Rows
theorem eqAt_int (A : Around) (s : Shared) (a : Int) (t : Tok) (c : Int) (u : Tok) : ∃ e,SeqAt.EqAt A s (.int a t) (.int c u) e ∧ (e = true ↔ a = c):=
  ⟨(a == c),SeqAt.EqAt.int_int a t c u,by simp⟩
section
open PySem.SeqAt
open PySem.AutoSeq1 (wpAny_loadPart')
open PySem.MeetsSeq PySem.MeetsSeq2 PySem.MeetsSeq3
end
section
variable {prog : Program} {w : World} {A : Around} {E : Value → Shared → Prop} {s : Shared}
def sIx (n d : Nat) : Option Int → Nat
  | none=>d
  | some v=>if v < 0 then (v + (n : Int)).toNat else min v.toNat n
theorem sIx_none (n d : Nat) : sIx n d none = d:=rfl
theorem sIx_nat (n d k : Nat) : sIx n d (some (k : Int)) = min k n:=by
  show (if (k : Int) < 0 then ((k : Int) + (n : Int)).toNat else min (k : Int).toNat n) = min k n
  rw [if_neg (by omega),Int.toNat_natCast]
end
end HT
namespace L2
open PySem PySem.Spec PyProof.Rows
abbrev TO:=St → Hp → (Option Int → Hp → Prop) → Prop
def PO (X : Cx) (e : Option Expr) (t : TO) : Prop:=
  ∀ (pins : List (Addr × Obj)) (s : Shared) (σ : St) (H : Hp) (Q : Option Int → Hp → Prop),Inv X pins σ H s → t σ H Q →
    wpAny (model X.prog X.w) X.A (evalPart e X.env) (fun u s'=>∃ o H',Inv X pins σ H' s' ∧ IsPart u o ∧ Q o H') X.xe s
def tNoPart : TO:=fun _ H Q=>Q none H
def tPart (t : TE) : TO:=fun σ H Q=>t σ H fun x H1=>∃ i,x = .int i ∧ Q (some i) H1
theorem intsAre_of {ns : List Int} : ∀ {us : List Value},Vals (ns.map V.int) us → IntsAre us ns:=by
  induction ns with
  | nil=>intro us r; rw [List.map_nil] at r; cases r; exact .nil
  | cons n ns ih=>
    intro us r
    rw [List.map_cons] at r
    cases r with
    | cons r1 r2=>
      obtain ⟨t,e⟩:=r1
      subst e
      exact .cons n t (ih r2)
section
variable {X : Cx} {e : Expr} {te : TE} {lo hi : Option Expr} {tl th : TO} {pos p2 : Pos}
theorem po_none : PO X none tNoPart:=by
  intro pins s σ H Q I h
  rw [evalPart_none]
  exact wpAny_pure ⟨none,H,I,.none,h⟩
theorem po_some (h : PE X e te) : PO X (some e) (tPart te):=by
  intro pins s σ H Q I hw
  rw [evalPart_some]
  refine thn (h pins s σ H _ I hw) fun u s1 ⟨x,H1,I1,r1,q1⟩=>?_
  obtain ⟨i,rfl,q⟩:=q1
  obtain ⟨t,rfl⟩:=r1
  exact ⟨some i,H1,I1,.int i t,q⟩
def SlR (X : Cx) (r : V → Option Int → Option Int → Hp → VK → Prop) : Prop:=
  ∀ (pins : List (Addr × Obj)) (s : Shared) (σ : St) (H : Hp) (x : V) (v vl vu : Value) (lo hi : Option Int) (sl : Addr) (Q : VK),Inv X pins σ H s → RelV x v → s.heap.IsSliceOf sl vl vu .none → IsPart vl lo → IsPart vu hi → r x lo hi H Q →
    ∃ T id,typeLookup (.type T) "__getitem__" = pure (some (.builtin id)) ∧ s.TypeIs v T ∧ wpAny (model X.prog X.w) X.A (getItem v (.ref sl)) (EP X pins σ Q) X.xe s
def tSl (r : V → Option Int → Option Int → Hp → VK → Prop) (te : TE) (tl th : TO) : TE:=fun σ H Q=>te σ H fun x H1=>tl σ H1 fun l H2=>th σ H2 fun u H3=>r x l u H3 Q
theorem pe_slice {r : V → Option Int → Option Int → Hp → VK → Prop} (hr : SlR X r) (he : PE X e te) (hl : PO X lo tl) (hu : PO X hi th) : PE X (.Subscript e (.Slice lo hi none p2) pos) (tSl r te tl th):=by
  intro pins s σ H Q I h
  refine Subscript_ (thn (he pins s σ H _ I h) fun v s1 ⟨x,H1,I1,r1,q1⟩=>?_)
  refine wpAny_Slice (thn (hl pins s1 σ H1 _ I1 q1) fun vl s2 ⟨l,H2,I2,pl,q2⟩=>thn (hu pins s2 σ H2 _ I2 q2) fun vu s3 ⟨u,H3,I3,pu,q3⟩=>?_)
  rw [evalPart_none]
  refine wpAny_pure ?_
  have I4 : Inv X pins σ H3 { s3 with heap:=s3.heap.push { cls:=.type "slice",data:=.fields #[vl,vu,.none] } }:=I3.kept (t':=s3.toks) fun b ob q=>Heap.get?_push_of_some _ q
  obtain ⟨T,id,hT,ht,hg⟩:=hr pins { s3 with heap:=s3.heap.push { cls:=.type "slice",data:=.fields #[vl,vu,.none] } } σ H3 x v vl vu l u s3.heap.objs.size Q I4 r1 (Heap.IsSliceOf.new ..) pl pu q3
  show wpAny (model X.prog X.w) X.A (subscriptTail e (.Slice lo hi none p2) v (.ref s3.heap.objs.size)) (EP X pins σ Q) X.xe { s3 with heap:=s3.heap.push { cls:=.type "slice",data:=.fields #[vl,vu,.none] } }
  exact tail_any (ops:=[.ref s3.heap.objs.size,v]) ht hT hg (by with_unfolding_all rfl)
def cutV (xs : List V) (lo hi : Option Int) : List V:=(xs.drop (HT.sIx xs.length 0 lo)).take (HT.sIx xs.length xs.length hi - HT.sIx xs.length 0 lo)
theorem cutV_length (xs : List V) (lo hi : Option Int) : (cutV xs lo hi).length ≤ xs.length:=by
  unfold cutV
  rw [List.length_take,List.length_drop]
  omega
def rSlT (K : PySem.W.Frag) : V → Option Int → Option Int → Hp → VK → Prop:=fun x lo hi H Q=>∃ a xs,x = .ref a ∧ SqT K H a xs ∧
  ¬ (HT.sIx xs.length 0 lo = 0 ∧ HT.sIx xs.length xs.length hi = xs.length) ∧ ∀ p,H p = none → Q (.ref p) (upd H p (.tup (cutV xs lo hi)))
end
end L2
namespace L2
open PySem PySem.Spec PyProof.Rows
def ixN (n : Nat) (i : Int) : Option Nat:=if 0 ≤ i then (if i < n then some i.toNat else none) else if -(n : Int) ≤ i then some (i + n).toNat else none
def atI {α : Type} (xs : List α) (i : Int) : Option α:=(ixN xs.length i).bind fun j=>xs[j]?
theorem ixN_seq {n : Nat} {i : Int} {j : Nat} (h : ixN n i = some j) : seqIndex? i n = some j ∧ j < n ∧ -(n : Int) ≤ i ∧ i < n:=by
  unfold ixN at h
  by_cases h0 : 0 ≤ i
  · rw [if_pos h0] at h
    by_cases h1 : i < n
    · rw [if_pos h1] at h
      have e : i.toNat = j:=Option.some.inj h
      exact ⟨by rw [seqIndex_of h0 h1,e],by omega,by omega,h1⟩
    · rw [if_neg h1] at h; cases h
  · rw [if_neg h0] at h
    by_cases h1 : -(n : Int) ≤ i
    · rw [if_pos h1] at h
      have e : (i + n).toNat = j:=Option.some.inj h
      exact ⟨by rw [seqIndex_neg (by omega) h1,e],by omega,h1,by omega⟩
    · rw [if_neg h1] at h; cases h
theorem atI_get {α : Type} {xs : List α} {i : Int} {v : α} (h : atI xs i = some v) : ∃ j,seqIndex? i xs.length = some j ∧ xs[j]? = some v ∧ j < xs.length ∧ -(xs.length : Int) ≤ i ∧ i < xs.length:=by
  unfold atI at h
  cases e : ixN xs.length i with
  | none=>rw [e] at h; cases h
  | some j=>
    rw [e] at h
    obtain ⟨h1,h2,h3,h4⟩:=ixN_seq e
    exact ⟨j,h1,h,h2,h3,h4⟩
theorem atI_nat {α : Type} {xs : List α} {j : Nat} {v : α} (h : xs[j]? = some v) : atI xs (j : Int) = some v:=by
  have hj : j < xs.length:=(List.getElem?_eq_some_iff.mp h).1
  have e : ixN xs.length (j : Int) = some j:=by
    unfold ixN
    rw [if_pos (by omega),if_pos (by omega)]; simp
  unfold atI; rw [e]; exact h
def PlainIx (b : Expr) : Prop:=∀ o i,subscripted b false o i = operate [o,i] (getItem o i)
def IxR (X : Cx) (r : R2) : Prop:=
  ∀ (value slice : Expr) (pins : List (Addr × Obj)) (s : Shared) (σ : St) (H : Hp) (x y : V) (v u : Value) (Q : VK),Inv X pins σ H s → RelV x v → RelV y u → r x y H Q →
    subscripted slice false v u = operate [v,u] (getItem v u) → wpAny (model X.prog X.w) X.A (subscriptTail value slice v u) (EP X pins σ Q) X.xe s
def MtR (X : Cx) (id : String) (r : V → List V → Hp → VK → Prop) : Prop:=
  ∀ (pins : List (Addr × Obj)) (s : Shared) (σ : St) (H : Hp) (x : V) (xs : List V) (v : Value) (us : List Value) (Q : VK),Inv X pins σ H s → RelV x v → Vals xs us → r x xs H Q →
    wpAny (model X.prog X.w) X.A (call (.builtin id) (v :: us)) (EP X pins σ Q) X.xe s
section
variable {X : Cx} {a b : Expr} {ta tb : TE} {pos : Pos}
theorem pe_ix {r : R2} (hr : IxR X r) (ha : PE X a ta) (hb : PE X b tb) (hs : PlainIx b) : PE X (.Subscript a b pos) (tOp r ta tb):=by
  intro pins s σ H Q I h
  exact Subscript_ (binT ha hb I h fun v u s2 x y H2 I2 rx ry q=>hr a b pins s2 σ H2 x y v u Q I2 rx ry q (hs _ _))
def rIxL (K : PySem.W.Frag) : R2:=fun x y H Q=>∃ p xs i v,x = .ref p ∧ y = .int i ∧ SqL K H p xs ∧ atI xs i = some v ∧ Q v H
def rIxT (K : PySem.W.Frag) : R2:=fun x y H Q=>∃ p xs i v,x = .ref p ∧ y = .int i ∧ SqT K H p xs ∧ atI xs i = some v ∧ Q v H
theorem ix_list : IxR X (rIxL X.K):=by
  intro value slice pins s σ H x y v u Q I rx ry h hs
  obtain ⟨p,xs,i,z,rfl,rfl,hq,he,q⟩:=h
  cases rx
  obtain ⟨t,rfl⟩:=ry
  obtain ⟨its,r,pl,hz⟩:=I.list hq
  obtain ⟨j,h1,h2,h3,h4,h5⟩:=atI_get he
  obtain ⟨w,ew,rw'⟩:=r.get h2
  have hl:=r.length
  have hn:=line63
  have fin : EP X pins σ Q w s:=⟨z,H,I,rw',q⟩
  by_cases h0 : 0 ≤ i
  · have hj : i.toNat = j:=by
      rw [seqIndex_of h0 h5] at h1
      exact Option.some.inj h1
    exact item_listR pl.isList h0 (by omega) (by rw [hj]; simpa using ew) fin hs
  · have hj : (i + (its.toArray.size : Int)).toNat = j:=by
      rw [seqIndex_neg (by omega) h4] at h1
      rw [List.size_toArray,← hl]
      exact Option.some.inj h1
    exact subscriptTail_builtinR (x:=w) pl.isList.typeIs slot_list_getitem.lookup
      (wpAny_getItem_list_neg (Q:=fun r s'=>r = w ∧ EP X pins σ Q r s') pl.isList (by omega) (by rw [List.size_toArray] <;> omega) (by omega) (by rw [hj]; simpa using ew) ⟨rfl,fin⟩) hs
theorem ix_tup : IxR X (rIxT X.K):=by
  intro value slice pins s σ H x y v u Q I rx ry h hs
  obtain ⟨p,xs,i,z,rfl,rfl,hq,he,q⟩:=h
  cases rx
  obtain ⟨t,rfl⟩:=ry
  obtain ⟨its,r,pl,hz⟩:=I.tuple hq
  obtain ⟨j,h1,h2,h3,h4,h5⟩:=atI_get he
  obtain ⟨w,ew,rw'⟩:=r.get h2
  have hl:=r.length
  have hn:=line63
  have fin : EP X pins σ Q w s:=⟨z,H,I,rw',q⟩
  exact subscriptTail_builtinR (x:=w) pl.typeIs slot_tuple_getitem.lookup
    (getItem_tuple (j:=j) (Q:=fun r s'=>r = w ∧ EP X pins σ Q r s') pl (by omega) (by omega) (by rw [List.size_toArray,← hl]; exact h1) (by simpa using ew) ⟨rfl,fin⟩) hs
theorem mapSeq_set (its : List Value) (n j : Nat) (u : Value) : Obj.mapSeq (·.setIfInBounds j u) { cls:=.type "list",data:=.seq its.toArray n } = { cls:=.type "list",data:=.seq (its.set j u).toArray n }:=by
  simp [Obj.mapSeq]
theorem Inv.lst {pins : List (Addr × Obj)} {σ : St} {H : Hp} {s : Shared} {p : Addr} {xs : List V} (I : Inv X pins σ H s) (h : H p = some (.lst xs)) :
    ∃ (its : List Value) (n : Nat),Vals xs its ∧ s.heap.get? p = some { cls:=.type "list",data:=.seq its.toArray n } ∧ xs.length ≤ sizeLine:=by
  obtain ⟨z,its,n,r,e⟩:=I.hok p _ h
  exact ⟨its,n,r,e,z⟩
theorem Inv.lstUpd {pins : List (Addr × Obj)} {σ : St} {H : Hp} {s : Shared} {p : Addr} {xs ys : List V} {its its' : List Value} {n n' : Nat} {f : Obj → Obj} (I : Inv X pins σ H s) (h : H p = some (.lst xs))
    (ho : s.heap.get? p = some { cls:=.type "list",data:=.seq its.toArray n }) (hf : f { cls:=.type "list",data:=.seq its.toArray n } = { cls:=.type "list",data:=.seq its'.toArray n' }) (r : Vals ys its') (hz : ys.length ≤ sizeLine) (t : Nat) :
    Inv X pins σ (upd H p (.lst ys)) { s with heap:=s.heap.update p f,toks:=t }:=by
  have e : (s.heap.update p f).get? p = some { cls:=.type "list",data:=.seq its'.toArray n' }:=by
    rw [Heap.get?_update_self f ho (by rw [hf] <;> rfl),hf]
  refine I.write (x:=p) (e:=p) (by rw [h]; trivial) (.inl rfl) (fun b u hb q=>(Heap.get?_update_other _ _ (Ne.symm hb)).trans q) ⟨_,e⟩ ?_
  exact ⟨hz,its',n',r,e⟩
def rSetL : V → V → V → Hp → (Hp → Prop) → Prop:=fun o i v H Q=>∃ p xs k j,o = .ref p ∧ i = .int k ∧ H p = some (.lst xs) ∧ ixN xs.length k = some j ∧ Q (upd H p (.lst (xs.set j v)))
theorem set_list : PSet X rSetL:=by
  intro pins s σ H o i v ov iv u Q I ro ri rv h
  obtain ⟨p,xs,k,j,rfl,rfl,hp,hj,q⟩:=h
  cases ro
  obtain ⟨t,rfl⟩:=ri
  obtain ⟨its,n,r,ho,hz⟩:=I.lst hp
  obtain ⟨h1,h2,h3,h4⟩:=ixN_seq hj
  have hl:=r.length
  have hn:=line63
  have I' : Inv X pins σ (upd H p (.lst (xs.set j v))) { s with heap:=s.heap.update p (Obj.mapSeq (·.setIfInBounds j u)) }:=
    I.lstUpd hp ho (mapSeq_set its n j u) (r.set rv j) (by rw [List.length_set]; exact hz) s.toks
  by_cases h0 : 0 ≤ k
  · have hk : k.toNat = j:=by
      rw [seqIndex_of h0 h4] at h1
      exact Option.some.inj h1
    exact PySem.W.ki_setAt ho h0 (by omega) (by rw [List.size_toArray,← hl]; exact h4) (by rw [hk]; exact ⟨_,I',q⟩)
  · have hk : (k + (its.toArray.size : Int)).toNat = j:=by
      rw [seqIndex_neg (by omega) h3] at h1
      rw [List.size_toArray,← hl]
      exact Option.some.inj h1
    exact PySem.W.ki_setBack ho (by omega) (by rw [List.size_toArray,← hl]; exact h3) (by omega) (by rw [hk]; exact ⟨_,I',q⟩)
theorem slice_bounds (lo hi : Option Int) (n : Nat) : (sliceBounds lo hi none n).1 = ((HT.sIx n 0 lo : Nat) : Int) ∧ (sliceBounds lo hi none n).2.1 = ((HT.sIx n n hi : Nat) : Int) ∧ (sliceBounds lo hi none n).2.2 = 1:=by
  refine ⟨?_,?_,rfl⟩
  · cases lo with
    | none=>simp [sliceBounds,HT.sIx]
    | some i=>
      simp only [sliceBounds,HT.sIx,Option.getD_none,show (1 : Int) > 0 by decide,if_true]
      by_cases h : i < 0
      · simp only [h,if_true] <;> omega
      · simp only [h,if_false] <;> omega
  · cases hi with
    | none=>simp [sliceBounds,HT.sIx]
    | some i=>
      simp only [sliceBounds,HT.sIx,Option.getD_none,show (1 : Int) > 0 by decide,if_true]
      by_cases h : i < 0
      · simp only [h,if_true] <;> omega
      · simp only [h,if_false] <;> omega
theorem slicePick_cut (its : List Value) (lo hi : Option Int) : slicePick its.toArray lo hi none = ((its.drop (HT.sIx its.length 0 lo)).take (HT.sIx its.length its.length hi - HT.sIx its.length 0 lo)).toArray:=by
  obtain ⟨h1,h2,h3⟩:=slice_bounds lo hi its.toArray.size
  unfold slicePick
  rw [h1,h2,h3]
  simp only [sliceRange_one,pick_run,List.size_toArray] <;> rfl
def rSlL (K : PySem.W.Frag) : V → Option Int → Option Int → Hp → VK → Prop:=fun x lo hi H Q=>∃ a xs,x = .ref a ∧ SqL K H a xs ∧ ∀ p,H p = none → Q (.ref p) (upd H p (.lst (cutV xs lo hi)))
theorem sl_list : SlR X (rSlL X.K):=by
  intro pins s σ H x v vl vu lo hi sl Q I rx hs pl pu h
  obtain ⟨a,xs,rfl,hx,q⟩:=h
  cases rx
  obtain ⟨its,r,ht,hz⟩:=I.list hx
  have hlen:=r.length
  refine ⟨"list",_,slot_list_getitem.lookup,ht.isList.typeIs,?_⟩
  refine wpAny_getItem_list_slice ht.isList hs pl pu .none (by simp) ?_ (by rw [List.size_toArray] <;> omega)
  rw [slicePick_cut,← hlen]
  refine ⟨.ref s.heap.objs.size,_,I.laid (t':=s.toks) (o:=.lst (cutV xs lo hi)) (fun b ob q=>Heap.get?_push_of_some _ q) (Nat.le_refl _) ?_,rfl,q _ (I.hok.fresh (Nat.le_refl _))⟩
  exact ⟨Nat.le_trans (cutV_length xs lo hi) hz,_,0,(r.drop (HT.sIx xs.length 0 lo)).take (HT.sIx xs.length xs.length hi - HT.sIx xs.length 0 lo),Heap.get?_push_size _ rfl⟩
def flatV : V → Bool
  | .non=>true
  | .bl _=>true
  | .int _=>true
  | .str _=>true
  | _=>false
def eqV : V → V → Bool
  | .non,.non=>true
  | .bl a,.bl b=>a == b
  | .bl a,.int b=>(if a then 1 else 0) == b
  | .int a,.bl b=>a == (if b then 1 else 0)
  | .int a,.int b=>a == b
  | .str a,.str b=>a == b
  | _,_=>false
def inV (x : V) (xs : List V) : Bool:=xs.any fun y=>eqV y x
def rIn (K : PySem.W.Frag) (neg : Bool) : R2:=fun x y H Q=>∃ p xs,y = .ref p ∧ (SqL K H p xs ∨ SqT K H p xs) ∧ flatV x = true ∧ xs.all flatV = true ∧ Q (.bl (if neg then !inV x xs else inV x xs)) H
theorem op_notIn_str : OpR X (compareOp .NotIn) (fun x y H Q=>∃ i j,x = .str i ∧ y = .str j ∧ Q (.bl (!(!(Builtin.Str.occurrences j i 0 j.length 1).isEmpty))) H):=by
  intro pins s σ H x y v u Q I rx ry h
  obtain ⟨i,j,rfl,rfl,q⟩:=h
  obtain ⟨t,rfl⟩:=rx
  obtain ⟨t',rfl⟩:=ry
  exact notIn_str ⟨.bl _,H,I,rfl,q⟩
theorem call_len_seq : CallR X (.builtin "len") (fun xs H Q=>∃ p ys,xs = [.ref p] ∧ (SqL X.K H p ys ∨ SqT X.K H p ys) ∧ Q (.int ys.length) H):=by
  intro pins s σ H xs us Q I r h
  obtain ⟨p,ys,rfl,hq,q⟩:=h
  obtain ⟨u,rfl,rx⟩:=vals1 r
  cases rx
  have hn:=line63
  rcases hq with hq | hq
  · obtain ⟨its,r',pl,hz⟩:=I.list hq
    have hlen:=r'.length
    exact Calls.call_len_list pl.isList (by simp only [List.size_toArray] <;> omega) ⟨.int ys.length,H,I.tok _,⟨s.toks + 1,by rw [List.size_toArray,hlen]⟩,q⟩
  · obtain ⟨its,r',pl,hz⟩:=I.tuple hq
    have hlen:=r'.length
    exact len_tuple pl (by simp only [List.size_toArray] <;> omega) ⟨.int ys.length,H,I.tok _,⟨s.toks + 1,by rw [List.size_toArray,hlen]⟩,q⟩
theorem call_len_str : CallR X (.builtin "len") (fun xs H Q=>∃ z,xs = [.str z] ∧ z.length ≤ sizeLine ∧ Q (.int z.length) H):=by
  intro pins s σ H xs us Q I r h
  obtain ⟨z,rfl,hz,q⟩:=h
  obtain ⟨u,rfl,t,rfl⟩:=vals1 r
  have hn:=line63
  exact len_str (by omega) ⟨.int z.length,H,I.tok _,⟨_,rfl⟩,q⟩
def tyV (K : PySem.W.Frag) (T : String) (x : V) (H : Hp) : Prop:=match x with
  | .str _=>T = "str"
  | .int _=>T = "int"
  | .ref p=>(T = "list" ∧ ∃ xs,SqL K H p xs) ∨ (T = "tuple" ∧ ∃ o,K.lookup p = some o ∧ o.cls = .type "tuple" ∧ o.dict = none) ∨
      (T = "dict" ∧ ((∃ kvs,H p = some (.dK kvs)) ∨ ∃ kvs,H p = some (.dT kvs))) ∨ (T = "set" ∧ ∃ S n,H p = some (.set S n))
  | _=>False
theorem tyV_is {pins : List (Addr × Obj)} {σ : St} {H : Hp} {s : Shared} {T : String} {x : V} {v : Value} (I : Inv X pins σ H s) (r : RelV x v) (ty : tyV X.K T x H) :
    s.TypeIs v T ∧ ∀ a,v = .ref a → ∃ ob,s.heap.get? a = some ob ∧ ob.dict = none:=by
  cases x with
  | str z=>
    obtain ⟨t,rfl⟩:=r
    cases (show T = "str" from ty)
    exact ⟨typeIs_str s z t,fun _ e=>nomatch e⟩
  | int i=>
    obtain ⟨t,rfl⟩:=r
    cases (show T = "int" from ty)
    exact ⟨typeIs_int s i t,fun _ e=>nomatch e⟩
  | ref p=>
    cases r
    rcases ty with ⟨rfl,xs,hq⟩ | ⟨rfl,o,hk,hc,hd⟩ | ⟨rfl,hk⟩ | ⟨rfl,S,n,hk⟩
    · obtain ⟨its,_,pl,_⟩:=I.list hq
      refine ⟨pl.isList.typeIs,fun a e=>?_⟩
      cases e
      obtain ⟨o,n,e,c,hd,_⟩:=pl
      exact ⟨o,e,hd⟩
    · refine ⟨⟨o,I.kIn p o hk,hc⟩,fun a e=>?_⟩
      cases e
      exact ⟨o,I.kIn _ o hk,hd⟩
    · have z : ∃ o,s.heap.get? p = some o ∧ o.ExactDict:=by
        rcases hk with ⟨kvs,hk⟩ | ⟨kvs,hk⟩
        · obtain ⟨_,_,_,_,o,_,_,e,ex,_⟩:=I.hok p _ hk
          exact ⟨o,e,ex⟩
        · obtain ⟨_,_,_,_,o,_,_,e,ex,_⟩:=I.hok p _ hk
          exact ⟨o,e,ex⟩
      obtain ⟨o,e,ex⟩:=z
      refine ⟨⟨o,e,ex.1⟩,fun a e2=>?_⟩
      cases e2
      exact ⟨o,e,ex.2.1⟩
    · obtain ⟨o,_,_,_,e,ex,_⟩:=I.hok p _ hk
      refine ⟨⟨o,e,ex.1⟩,fun a e2=>?_⟩
      cases e2
      exact ⟨o,e,ex.2.1⟩
  | _=>exact False.elim ty
def tBM0 (K : PySem.W.Frag) (T : String) (r : V → List V → Hp → VK → Prop) (to : TE) : TE:=fun σ H Q=>to σ H fun x H1=>tyV K T x H1 ∧ r x [] H1 Q
def tBM (K : PySem.W.Frag) (T : String) (r : V → List V → Hp → VK → Prop) (to : TE) (t : TA) : TE:=fun σ H Q=>to σ H fun x H1=>tyV K T x H1 ∧ t σ H1 fun xs H2=>r x xs H2 Q
variable {o e : Expr} {es : List Expr} {to : TE} {t : TA} {name : Str} {apos cpos : Pos} {T id : String} {r : V → List V → Hp → VK → Prop}
theorem pe_bm (pa : PlainAttrs T) (slot : Slot T name id) (hty : typeOf (.builtin id) = pure (.type "method_descriptor")) (hm : MtR X id r) (ho : PE X o to) (ha : PA X (e :: es) t)
    (hbase : attributeBase o name X.env (eval o X.env) = eval o X.env:=by rfl)
    (hfew : ((backTo cpos (starEach (e :: es) X.env)).all (fun x=>!x.1) && (backToKw cpos (keywordEach [] X.env)).all (fun x=>x.1.isSome)
      && decide ((e :: es).length + ([] : List Keyword).length + (if ([] : List Keyword).isEmpty then 0 else 1) < 30)) = true:=by rfl)
    (hline : (apos.endLine == cpos.line) = true:=by rfl) (hs : starEach (e :: es) X.env = (false,eval e X.env) :: starEach es X.env:=by rfl) (hplain : (backTo cpos (starEach es X.env)).any (·.1) = false:=by rfl) :
    PE X (.Call (.Attribute o name apos) (e :: es) [] cpos) (tBM X.K T r to t):=by
  intro pins s σ H Q I h
  refine wpAny_Call_method_late hbase hfew hline rfl (thn (ho pins s σ H _ I h) fun v s1 ⟨x,H1,I1,r1,ty,q1⟩=>?_)
  obtain ⟨h1,h2⟩:=tyV_is I1 r1 ty
  refine ⟨T,id,pa,slot,hty,h1,h2,?_⟩
  have hA:=ha cpos pins s1 σ H1 _ I1 q1
  rw [hs] at hA ⊢
  refine Calls.callWith_builtin (by show (false || (backTo cpos (starEach es X.env)).any (·.1)) = false; rw [hplain] <;> rfl) (Calls.evalArgs_plain ?_)
  exact thn hA fun us s2 ⟨vs,H2,I2,r2,q2⟩=>hm pins s2 σ H2 x vs v us Q I2 r1 r2 q2
/- xs.append(e),list.index on a module's tuple .. are MtR facts of 06m -/
end
end L2
namespace L2
open PySem PySem.Spec PyProof.Rows
def MtM (X : Cx) (id : String) (r : V → List V → Hp → VK → Prop) : Prop:=
  ∀ (pins : List (Addr × Obj)) (s : Shared) (σ : St) (H : Hp) (x : V) (xs : List V) (v : Value) (us : List Value) (Q : VK),Inv X pins σ H s → RelV x v → Vals xs us → r x xs H Q →
    wpAny (model X.prog X.w) X.A (call (.builtin id) (v :: us)) (EP X pins σ Q) X.xe s
theorem Vals.one : ∀ {x : V} {us : List Value},Vals [x] us → ∃ u,us = [u] ∧ RelV x u
  | _,_,.cons r .nil=>⟨_,rfl,r⟩
theorem Vals.reverse {xs : List V} {us : List Value} (h : Vals xs us) : Vals xs.reverse us.reverse:=by
  induction h with
  | nil=>exact .nil
  | cons r t ih=>rw [List.reverse_cons,List.reverse_cons]; exact Vals.append ih (.cons r .nil)
theorem Vals.rep {xs : List V} {us : List Value} (h : Vals xs us) : ∀ k : Nat,Vals (List.replicate k xs).flatten (List.replicate k us).flatten
  | 0=>.nil
  | k + 1=>by
    rw [List.replicate_succ,List.replicate_succ,List.flatten_cons,List.flatten_cons]
    exact Vals.append h (Vals.rep h k)
theorem foldl_rep (its : List Value) : ∀ (k : Nat) (acc : List Value),
    List.foldl (fun x1 x2=>x1 ++ x2) acc.toArray (List.replicate k its.toArray) = (acc ++ (List.replicate k its).flatten).toArray
  | 0,acc=>by simp
  | k + 1,acc=>by
    have e : acc.toArray ++ its.toArray = (acc ++ its).toArray:=by simp
    have e2 : (acc ++ its) ++ (List.replicate k its).flatten = acc ++ (List.replicate (k + 1) its).flatten:=by
      rw [List.replicate_succ,List.flatten_cons,List.append_assoc]
    rw [← e2,← foldl_rep its k (acc ++ its),← e,List.replicate_succ,List.foldl_cons]
section
variable {X : Cx} {pins : List (Addr × Obj)} {σ : St} {H : Hp} {s : Shared} {l b : Addr} {xs ys zs : List V}
theorem Inv.lset {its its' : List Value} {n : Nat} {f : Array Value → Array Value} {t' : Nat} (I : Inv X pins σ H s) (hH : H l = some (.lst xs))
    (e : s.heap.get? l = some { cls:=.type "list",data:=.seq its.toArray n }) (hf : f its.toArray = its'.toArray) (hv : Vals ys its') (hz : ys.length ≤ sizeLine) :
    Inv X pins σ (upd H l (.lst ys)) { s with heap:=s.heap.update l (Obj.mapSeq f),toks:=t' }:=by
  have q:=PySem.IsL.update e f
  rw [hf] at q
  refine I.write (x:=l) (e:=l) (by rw [hH]; exact trivial) (.inl rfl) (fun b' u hb hu=>(Heap.get?_update_other s.heap (Obj.mapSeq f) (Ne.symm hb)).trans hu) ⟨_,q⟩ ?_
  exact ⟨hz,its',_,hv,q⟩
theorem Inv.lnew {its : List Value} {t' : Nat} (I : Inv X pins σ H s) (hv : Vals ys its) (hz : ys.length ≤ sizeLine) :
    Inv X pins σ (upd H s.heap.objs.size (.lst ys)) { s with heap:=s.heap.push { cls:=.type "list",data:=.seq its.toArray },toks:=t' }:=
  I.laid (fun _ _ q=>Heap.get?_push_of_some _ q) (Nat.le_refl _) ⟨hz,its,0,hv,Heap.get?_push_size _ rfl⟩
theorem Inv.fresh (I : Inv X pins σ H s) : H s.heap.objs.size = none:=I.hok.fresh (Nat.le_refl _)
theorem Inv.lstM (I : Inv X pins σ H s) (hH : H l = some (.lst xs)) : xs.length ≤ sizeLine ∧ ∃ (its : List Value) (n : Nat),Vals xs its ∧ xs.length = its.length ∧ s.heap.get? l = some { cls:=.type "list",data:=.seq its.toArray n }:=by
  obtain ⟨z,its,n,r,e⟩:=I.hok l _ hH
  exact ⟨z,its,n,r,r.length,e⟩
theorem notLongL {n : Nat} (h : n ≤ sizeLine) : Builtin.List.listTooLong n = false:=by
  unfold Builtin.List.listTooLong
  exact decide_eq_false (by omega)
end
section
variable {X : Cx}
def rAppend : V → List V → Hp → VK → Prop:=fun x vs H Q=>∃ l xs y,x = .ref l ∧ vs = [y] ∧ H l = some (.lst xs) ∧ xs.length < sizeLine ∧ Q .non (upd H l (.lst (xs ++ [y])))
theorem mt_append : MtM X "list.append" rAppend:=by
  intro pins s σ H x vs v us Q I rx rv h
  obtain ⟨l,xs,y,rfl,rfl,hH,hz,q⟩:=h
  cases rx
  obtain ⟨u,rfl,ru⟩:=rv.one
  obtain ⟨z,its,n,r,hl,e⟩:=I.lstM hH
  refine call_meets F.slot_list_append ⟨_,e,rfl⟩ F.entry_list_append (F.args_list_append_2 _ _) (PySem.list_append l its.toArray n u (by rw [List.size_toArray]; omega)) ⟨e,?_⟩
  refine ⟨.non,_,I.lset (its':=its ++ [u]) hH e (by simp) (r.append (.cons ru .nil)) ?_,rfl,q⟩
  rw [List.length_append,List.length_singleton]
  omega
def rExtend : V → List V → Hp → VK → Prop:=fun x vs H Q=>∃ l b xs zs,x = .ref l ∧ vs = [.ref b] ∧ H l = some (.lst xs) ∧ H b = some (.lst zs) ∧ xs.length + zs.length ≤ sizeLine ∧ Q .non (upd H l (.lst (xs ++ zs)))
theorem mt_extend : MtM X "list.extend" rExtend:=by
  intro pins s σ H x vs v us Q I rx rv h
  obtain ⟨l,b,xs,zs,rfl,rfl,hH,hB,hz,q⟩:=h
  cases rx
  obtain ⟨u,rfl,ru⟩:=rv.one
  cases ru
  obtain ⟨z,its,n,r,hl,e⟩:=I.lstM hH
  obtain ⟨z2,its2,n2,r2,hl2,e2⟩:=I.lstM hB
  have hsz : its.toArray.size + its2.toArray.size ≤ sizeLine:=by rw [List.size_toArray,List.size_toArray]; omega
  have hlong : ¬ (!its.toArray.isEmpty && Builtin.List.listTooLong (its.toArray.size + its2.toArray.size)) = true:=by
    rw [notLongL hsz,Bool.and_false]
    exact Bool.false_ne_true
  refine call_meets F.slot_list_extend ⟨_,e,rfl⟩ F.entry_list_extend (F.args_list_extend_2 _ _)
    (AutoSeq1.list_extend_list_list_0 l its.toArray n b its2.toArray n2 hlong (by rw [List.size_toArray]; omega) (by omega)) ⟨e,e2,?_⟩
  refine ⟨.non,_,I.lset (its':=its ++ its2) hH e (by simp) (r.append r2) ?_,rfl,q⟩
  rw [List.length_append]
  omega
def rClear : V → List V → Hp → VK → Prop:=fun x vs H Q=>∃ l xs,x = .ref l ∧ vs = [] ∧ H l = some (.lst xs) ∧ Q .non (upd H l (.lst []))
def rCat : R2:=fun x y H Q=>∃ l b xs zs,x = .ref l ∧ y = .ref b ∧ H l = some (.lst xs) ∧ H b = some (.lst zs) ∧ xs.length + zs.length ≤ sizeLine ∧ ∀ p,H p = none → Q (.ref p) (upd H p (.lst (xs ++ zs)))
theorem op_cat : OpR X (binaryOp .Add) rCat:=by
  intro pins s σ H x y v u Q I rx ry h
  obtain ⟨l,b,xs,zs,rfl,rfl,hH,hB,hz,q⟩:=h
  cases rx
  cases ry
  obtain ⟨z,its,n,r,hl,e⟩:=I.lstM hH
  obtain ⟨z2,its2,n2,r2,hl2,e2⟩:=I.lstM hB
  refine PySem.P.add_list e e2 ?_ (by rw [List.size_toArray,List.size_toArray]; omega)
  have ea : its.toArray ++ its2.toArray = (its ++ its2).toArray:=by simp
  rw [ea]
  exact ⟨.ref _,_,I.lnew (t':=s.toks) (r.append r2) (by rw [List.length_append]; omega),rfl,q _ I.fresh⟩
def rRep : R2:=fun x y H Q=>∃ l k xs,x = .ref l ∧ y = .int k ∧ H l = some (.lst xs) ∧ -(2 ^ 63) ≤ k ∧ k < 2 ^ 63 ∧ xs.length * k.toNat ≤ sizeLine ∧
  ∀ p,H p = none → Q (.ref p) (upd H p (.lst (List.replicate k.toNat xs).flatten))
theorem len_rep {α : Type} (xs : List α) (k : Nat) : (List.replicate k xs).flatten.length = k * xs.length:=by
  induction k with
  | zero=>simp
  | succ k ih=>rw [List.replicate_succ,List.flatten_cons,List.length_append,ih,Nat.succ_mul,Nat.add_comm]
theorem op_rep : OpR X (binaryOp .Mult) rRep:=by
  intro pins s σ H x y v u Q I rx ry h
  obtain ⟨l,k,xs,rfl,rfl,hH,h1,h2,hz,q⟩:=h
  cases rx
  obtain ⟨t,rfl⟩:=ry
  obtain ⟨z,its,n,r,hl,e⟩:=I.lstM hH
  have hlen : its.toArray.size * k.toNat ≤ sizeLine:=by rw [List.size_toArray,← hl]; exact hz
  have hcap : ¬ its.toArray.size * k.toNat > (2 ^ 63 - 1) / 8:=by
    have : (sizeLine : Nat) ≤ (2 ^ 63 - 1) / 8:=by decide
    omega
  have hfit : ¬ (!Builtin.List.listFitsIndex k) = true:=by
    rw [fitsIndex_both h1 h2]
    exact Bool.false_ne_true
  have hlong : ¬ Builtin.List.listTooLong (its.toArray.size * k.toNat) = true:=by
    rw [notLongL hlen]
    exact Bool.false_ne_true
  have hnew : List.foldl (fun x1 x2=>x1 ++ x2) #[] (List.replicate (if its.toArray.isEmpty = true then 0 else k.toNat) its.toArray) = (List.replicate k.toNat its).flatten.toArray:=by
    have f0 : ∀ m : Nat,List.foldl (fun x1 x2=>x1 ++ x2) #[] (List.replicate m its.toArray) = (List.replicate m its).flatten.toArray:=fun m=>by
      have:=foldl_rep its m []
      rw [List.nil_append] at this
      exact this
    rw [f0]
    cases its with
    | nil=>simp
    | cons a r'=>rw [if_neg (by simp)]
  refine wpAny_binaryOp_repeat_ref (T:="list") (U:="int") (by decide) ⟨_,e,rfl⟩ (fun s'=>typeIs_int s' k t) noFill_list_mul F.fills_int_mul F.slot_int_rmul repeat_list F.slot_int_index.lookup
    (call_meets F.slot_int_rmul (typeIs_int s k t) F.entry_int_rmul (F.args_int_rmul_2 _ _) (int___rmul___int_list k t l its.toArray n)
      ⟨e,rfl,⟨_,e,rfl⟩,call_meets F.slot_list_mul ⟨_,e,rfl⟩ F.entry_list_mul (F.args_list_mul_2 _ _) (AutoListH.list___mul___list_int_3 l its.toArray n k t hfit hcap hlong) ⟨e,?_⟩⟩)
  rw [hnew]
  exact ⟨.ref _,_,I.lnew (t':=s.toks) (r.rep k.toNat) (by rw [len_rep,Nat.mul_comm]; exact hz),rfl,q _ I.fresh⟩
end
section
variable {prog : Program} {w : World} {A : Around} {E : Value → Shared → Prop} {s : Shared}
set_option maxRecDepth 100000 in
end
section
variable {X : Cx}
end
end L2
namespace Att
open PySem PySem.W PySem.Calls PyProof.Rows
theorem ints_of_wellAll {P : Params} {h : Heap} : ∀ (ns : List Int) (vs : List Value),WellAll P h vs (ns.map WData.int) → IntsAre vs ns:=by
  intro ns
  induction ns with
  | nil=>
    intro vs w
    rw [List.map_nil] at w
    cases w
    exact .nil
  | cons n ns ih=>
    intro vs w
    rw [List.map_cons] at w
    cases w with
    | cons a b=>
      cases a
      exact .cons _ _ (ih _ b)
theorem script_of {l : OpenLaw} {n : Nat} (hn : l.most = some n) {P : Params} {h : Heap} {args : List WData} {vals : List Value}
    (hpre : l.row.toRowW.claim.pre args = true) (hwl : WellAll P h vals args) :
    ∃ a vs ns,vals = [Value.ref a] ∧ args = [WData.list (ns.map WData.int)] ∧ h.get? a = some { cls:=.type "list",data:=.seq vs.toArray } ∧ IntsAre vs ns ∧ ns.length ≤ n:=by
  have hsh : WShape.hasAll [] args [.list .int] = true:=(pre_splitW hpre).1
  have hc : l.pre.holds [] { args:=args } = true:=(pre_splitW hpre).2
  obtain ⟨d,r,rfl,h1,h2⟩:=hasAllW_cons hsh
  obtain rfl:=hasAllW_nil h2
  obtain ⟨xs,rfl,h3⟩:=hasW_list h1
  obtain ⟨ns,rfl⟩:=items_int h3
  have hlen : ns.length ≤ n:=by
    unfold OpenLaw.pre at hc
    have h4 : (WTm.not (.lt (.lit (.int (n : Int))) (.len (.arg 0)))).holds [] { args:=[.list (ns.map .int)] } = true:=by
      have h4:=(holds_andW hc).1
      rw [hn] at h4
      exact h4
    have h5:=condW_of h4 (w_not (w_lt w_lit (w_len_list (w_arg rfl))))
    rw [List.length_map] at h5
    refine Nat.le_of_not_lt fun q=>?_
    have q' : (n : Int) < ((ns.length : Nat) : Int):=by omega
    first
      | (rw [decide_eq_true q'] at h5; exact absurd h5 (by decide))
      | (simp at h5; omega)
  cases hwl with
  | cons w1 w2=>
    cases w2
    cases w1 with
    | list ho hall=>exact ⟨_,_,ns,rfl,rfl,ho,ints_of_wellAll ns _ hall,hlen⟩
theorem post_true (l : OpenLaw) (args : List WData) : l.row.toRowW.claim.post args (.bool true) args = true:=
  postW_of (r:=l.row.toRowW) (X:=(true == true))
    (show WShape.has [] (.bool true) .bool = true by first | rfl | decide | simp [WShape.has,WShape.arms,WShape.armsAll])
    (show (WTm.eq .res (.lit (.bool true))).value [] { args:=args,res:=some (.bool true),after:=args } = some (.bool (true == true)) from w_eq_bool (w_res rfl) w_lit) rfl
theorem attach_call {l : OpenLaw} {n : Nat} {q : Program} {loose : List Str} {XP : (Str → Option Value) → Heap → Prop} {YP : World → Heap → Prop} {d : DefRec}
    (hn : l.most = some n) (hdf : d.params.defaults = [])
    (call : ∀ (w : World) (s₀ s₁ : Shared) (mg mb : Str → Option Value) (fa : Addr) (o : Obj) (pm cd doc : Value) (a : Addr) (vs : List Value) (ns : List Int),
      Ground q loose [] XP w s₀ mg mb s₁.heap → YP w s₁.heap →
      s₁.heap.get? fa = some o → o.data = .func (docDef d.name d.params d.body d.scope pm cd doc) → s₁.heap.CodeRec cd d.name → mg d.name = some (.ref fa) →
      s₁.heap.get? a = some { cls:=.type "list",data:=.seq vs.toArray } → IntsAre vs ns → ns.length ≤ n → s₁.gens = #[] →
      codeAny (model l.prog w) callerA (.call (.ref fa) ⟨[.ref a],[]⟩) (fun r s'=>r = .ok (.ret (.bool true)) ∧ OldK s₁.heap s'.heap ∧ s'.os = s₁.os ∧ AllBare s'.gens) s₁) :
    WalkO q loose XP YP l.row.toRowW d [] (fun f vs=>PySem.call f vs):=by
  intro w s₀ s₁ mg mb G Y fa o pm cd doc dV kV ho hd hcd hD hmg hg args vals as hpre hlay hrd hwl hlo
  obtain rfl : dV = .none:=Dflts.none hD hdf
  obtain rfl : kV = .none:=Dflts.noKw hD
  obtain ⟨a,vs,ns,rfl,rfl,hobj,hints,hlen⟩:=script_of hn hpre hwl
  refine enter_call (codeAny_mono (call w s₀ s₁ mg mb fa o pm cd doc a vs ns G Y ho (fd_plain hd) hcd hmg hobj hints hlen hg) fun r s' hq=>?_)
  obtain ⟨rfl,h2,h3,h4⟩:=hq
  exact ⟨.inl ⟨.bool true,.bool true,[],rfl,fun _=>rfl,.bool true,post_true l _,fun _=>⟨List.Pairwise.nil,fun _ hm=>(nomatch hm)⟩⟩,h2,h3,h4⟩
section
variable {prog : Program} {w : World} {A : Around} {E : Value → Shared → Prop} {s : Shared} {K : Frag}
end
end Att
namespace L2
open PySem PySem.Spec PyProof.Rows
theorem vals_ints : ∀ {vs : List Value} {ns : List Int},IntsAre vs ns → Vals (ns.map V.int) vs
  | _,_,.nil=>.nil
  | _,_,.cons n t h=>.cons ⟨t,rfl⟩ (vals_ints h)
def Only (H : Hp) : Prop:=∀ b,H b = none ∨ ∃ o xs,H b = some (.frz o (.lst xs))
theorem law_call {P : Program} {w : World} {K : PySem.W.Frag} {mg mb : Str → Option Value} {CX : CXT} {k : Nat} {fa a : Addr} {fd : FuncData} {x : Str} {sp : Sp} {s₁ : Shared} {vs : List Value} {ns : List Int}
    (KX : K.In s₁.heap) (hns : s₁.heap.Ns mainGlobals mg) (hb : s₁.heap.Ns builtinsNs mb) (hbb : ∀ x : Str,x ≠ "__name__" → mb x = bootBuiltins x) (hlim : s₁.heap.NoLimit) (hg : s₁.gens = #[])
    (ha : s₁.heap.get? a = some { cls:=.type "list",data:=.seq vs.toArray }) (hi : IntsAre vs ns) (hl : ns.length ≤ sizeLine) (hr : Room k callerA)
    (F : ∀ base : Heap,K.In base → base.Ns mainGlobals mg → FnOk P w K mg base CX k fa fd [x] sp) (hbind : ∀ (s : Shared) (u : Value),BindsTo s fd ⟨[u],[]⟩ [(x,u)])
    (hsp : ∀ H : Hp,Only H → SqL K H a (ns.map V.int) → sp [.ref a] H (fun v _=>v = .bl true) fun _ _ _=>False)
    (hCX : ∀ H e s',CX [] H s₁ (fun _ _ _=>False) e s' → False) :
    codeAny (model P w) callerA (.call (.ref fa) ⟨[.ref a],[]⟩) (fun r s'=>r = .ok (.ret (.bool true)) ∧ OldK s₁.heap s'.heap ∧ s'.os = s₁.os ∧ AllBare s'.gens) s₁:=by
  have rv:=vals_ints hi
  have lenV:=hi.length
  have core : ∀ H : Hp,Only H → SqL K H a (ns.map V.int) → HOk P w H s₁.heap → (∀ b,H b ≠ none → b = a) → (H a ≠ none → K.lookup a = none) →
      codeAny (model P w) callerA (.call (.ref fa) ⟨[.ref a],[]⟩) (fun r s'=>r = .ok (.ret (.bool true)) ∧ OldK s₁.heap s'.heap ∧ s'.os = s₁.os ∧ AllBare s'.gens) s₁:=by
    intro H hO hS hok hA hK
    have base_of : ∀ {b : Addr} {o : Obj},s₁.heap.get? b = some o → H b = none → (hidT s₁.heap H).get? b = some o:=fun e n=>hidT_get e n
    have noA : ∀ {b : Addr} {o : Obj} {es : Array DictEntry} {ep : Nat},s₁.heap.get? b = some o → o.data = .dict es ep → H b = none:=fun {b o es ep} e d=>by
      cases q : H b with
      | none=>rfl
      | some u=>
        have e' : b = a:=hA b (by rw [q]; simp)
        subst e'
        rw [ha] at e; cases e
        have d' : Data.seq vs.toArray _ = Data.dict es ep:=d
        cases d'
    have nsK : ∀ {b : Addr} {m : Str → Option Value},s₁.heap.Ns b m → (hidT s₁.heap H).Ns b m:=fun {b m} ⟨o,es,ep,e,d,r⟩=>⟨o,es,ep,base_of e (noA e d),d,r⟩
    have hKb : K.In (hidT s₁.heap H):=fun b o e=>base_of (KX b o e) (by
      cases q : H b with
      | none=>rfl
      | some u=>
        have e' : b = a:=hA b (by rw [q]; simp)
        subst e'
        rw [hK (by rw [q]; simp)] at e; cases e)
    have hM : Mod K mg (hidT s₁.heap H):=⟨hKb,nsK hns,⟨mb,nsK hb,hbb⟩,let ⟨mc,h1,h2⟩:=hlim; ⟨mc,nsK h1,h2⟩⟩
    have e0 : Env0 P w K mg (hidT s₁.heap H) callerA [] s₁ H:=⟨rfl,hM,fun b o e=>of_hidT e,Nat.le_of_eq (hidT_size _ _),trivial,fun b hb=>absurd (show b ∈ ([] : List Addr) from hb) (by simp),hok,.of_eq hg⟩
    refine codeAny_mono ((F _ hKb (nsK hns)).run callerA [] s₁ H ⟨[.ref a],[]⟩ [.ref a] [.ref a] _ _ hr e0 (hbind s₁ (.ref a)) (.cons rfl .nil) (hsp H hO hS)) fun r s' h=>?_
    cases r with
    | error e=>exact (hCX H e s' h).elim
    | ok fl=>
      cases fl with
      | next=>exact False.elim h
      | brk=>exact False.elim h
      | cont=>exact False.elim h
      | ret u=>
        obtain ⟨v,H',os,bare,un,hok',r',q⟩:=h
        have q' : v = .bl true:=q
        subst q'
        obtain rfl : u = Value.bool true:=r'
        refine ⟨rfl,OldK.of_keep fun b o e=>?_,os,bare⟩
        cases q : H b with
        | none=>exact un.keep b o e q (by intro z; exact absurd (show b ∈ ([] : List Addr) from z) (by simp)) (by simp)
        | some u=>
          rcases hO b with z | ⟨ob,xs,z⟩
          · rw [q] at z; cases z
          · have z2:=un.frzs b ob _ z
            obtain ⟨e1,_⟩:=hok b _ z
            obtain ⟨e2,_⟩:=hok' b _ z2
            rw [e] at e1; cases e1
            exact e2
  cases hk : K.lookup a with
  | some o=>
    have e:=KX a o hk
    rw [ha] at e
    cases e
    refine core (fun _=>none) (fun _=>.inl rfl) (.inr ⟨_,vs.toArray,_,hk,rfl,rfl,rfl,by rw [List.size_toArray,lenV]; exact hl,by simpa using rv⟩) (fun b u z=>by have z' : (none : Option HO) = some u:=z; cases z') (fun b z=>absurd rfl z) fun z=>absurd rfl z
  | none=>
    refine core (fun b=>if b = a then some (.frz { cls:=.type "list",data:=.seq vs.toArray } (.lst (ns.map V.int))) else none) (fun b=>?_) (.inl (.inr ⟨{ cls:=.type "list",data:=.seq vs.toArray },if_pos rfl⟩)) (fun b u z=>?_) (fun b z=>?_) fun _=>hk
    · by_cases hb : b = a
      · exact .inr ⟨_,_,if_pos hb⟩
      · exact .inl (if_neg hb)
    · by_cases hb : b = a
      · have z':=(if_pos hb).symm.trans z
        cases z'
        subst hb
        exact ⟨ha,by rw [List.length_map]; exact hl,vs,_,rv,ha⟩
      · have z':=(if_neg hb).symm.trans z
        cases z'
    · by_cases hb : b = a
      · exact hb
      · exact absurd (if_neg hb) z
end L2
namespace L2
open PySem PySem.Spec PyProof.Rows
abbrev KOf {K : PySem.W.Frag} {h : Heap} (_ : K.In h) : PySem.W.Frag:=K
theorem walk_of {l : PySem.W.OpenLaw} {n k : Nat} {q : Program} {loose : List Str} {XP : (Str → Option Value) → Heap → Prop} {YP : World → Heap → Prop} {d : DefRec} {K : Params → PySem.W.Frag} {CX : World → CXT} {sp : World → Sp} {x : Str}
    (hn : l.most = some n) (hn2 : n ≤ sizeLine) (hdf : d.params.defaults = []) (hr : Room k callerA)
    (hY : ∀ (w : World) (h : Heap),YP w h → (K w.params).In h)
    (F : ∀ (w : World) (mg : Str → Option Value) (fa : Addr) (h : Heap),(K w.params).In h → h.Ns mainGlobals mg → mg d.name = some (.ref fa) →
      ∃ fd : FuncData,(∀ (s : Shared) (u : Value),BindsTo s fd ⟨[u],[]⟩ [(x,u)]) ∧
        ∀ base : Heap,(K w.params).In base → base.Ns mainGlobals mg → FnOk l.prog w (K w.params) mg base (CX w) k fa fd [x] (sp w))
    (hsp : ∀ (w : World) (H : Hp) (a : Addr) (ns : List Int),ns.length ≤ n → Only H → SqL (K w.params) H a (ns.map V.int) → sp w [.ref a] H (fun v _=>v = .bl true) fun _ _ _=>False)
    (hCX : ∀ (w : World) (H : Hp) (s : Shared) (e : Value) (s' : Shared),CX w [] H s (fun _ _ _=>False) e s' → False) :
    PySem.W.WalkO q loose XP YP l.row.toRowW d [] (fun f vs=>PySem.call f vs):=by
  refine Att.attach_call hn hdf fun w s₀ s₁ mg mb fa o pm cd doc a vs ns G Y ho hd hcd hmg hobj hints hlen hg=>?_
  have KX:=hY w _ Y
  obtain ⟨fd,hb,hF⟩:=F w mg fa _ KX G.T.g hmg
  exact law_call KX G.T.g G.T.b G.T.builtins G.T.nolimit hg hobj hints (Nat.le_trans hlen hn2) hr hF hb (fun H hO hS=>hsp w H a ns hlen hO hS) fun H e s'=>hCX w H s₁ e s'
end L2
/- THE LAST THEOREM (shape; LID,My.* are yours):
   My.Adr: a structure of the addresses that your layer names (classes,functions); My.Txt K t: a structure (Prop) of the equations over K;
   My.txt_mk : {K} {implicit addresses ..} (e1 : nsIn K mainGlobals "law" = some (some (.ref f))) (e2 : K.lookup f = some ⟨oc,od,.func (fnOf "law" "law" params body scope dV kV doc pm an cdv ct),sl⟩) (e3 : codeIn K cdv "law" = true) .. : ∃ t,My.Txt K t
set_option maxRecDepth 100000 in
set_option maxHeartbeats 0 in
theorem PySem.Challenge.cw_LID_holds : PySem.Challenge.rw_LID.Holds:=by
  w_on; o_law; k_head; (case hw=>w_witness2)
  k_fill
  refine L2.walk_of (l:=PySem.Challenge.rw_LID) (n:=63) (k:=40) (x:="script") (CX:=fun w=>..) (sp:=fun _=>My.sp_law) rfl (by decide) rfl ⟨rfl,by decide,by decide⟩ (fun w h Y=>PySem.W.kIn_of Y) ?F ?S ?C
  case F=>
    intro w mg fa h KX G hmg
    have T : ∃ t,My.Txt (L2.KOf KX) t:=by
      dsimp only [L2.KOf]                          -- K must stand as «<heap const> w.params» for k_is
      refine' My.txt_mk ?e1 ?e2 ?e3 ..
      (case e1=>PySem.W.k_is)                    -- in the order: a name -> its address -> its object -> its parts
      (case e2=>PySem.W.k_is)
      ..
    obtain ⟨t,T⟩:=T
    have e0:=hmg.symm.trans (PySem.W.mg_of KX G T.law)
    cases e0                                       -- fa is the law's own address
    exact ⟨_,fun s u=>.of_eq rfl,fun base kb nb=>My.law_fn T kb nb⟩     -- if «.of_eq rfl» comes too early: refine' ⟨_,?b,fun base kb nb=>My.law_fn T kb nb⟩; exact fun s u=>.of_eq rfl
  case S=>exact fun w H a ns hl hO hS=>..
  case C=>exact ..
(the tactic k_is has no namespace: write k_is) -/
namespace L2
open PySem PySem.Spec PyProof.Rows
def defArgs (s : Stmt) : Arguments:=match s with
  | .FunctionDef _ a _ _ _ _ _ _ _ _=>a
  | _=>{ posonlyargs:=[],args:=[],vararg:=none,kwonlyargs:=[],kw_defaults:=[],kwarg:=none,defaults:=[] }
def defBody (s : Stmt) : List Stmt:=match s with
  | .FunctionDef _ _ b _ _ _ _ _ _ _=>b
  | _=>[]
def defScope (s : Stmt) : Scope:=match s with
  | .FunctionDef _ _ _ _ _ _ sc _ _ _=>sc
  | _=>{ kind:=.function,names:=[],isGenerator:=false,isCoroutine:=false }
abbrev CX0 : CXT:=fun _ _ _ _ _ _=>False
abbrev E0 : XK:=fun _ _ _=>False
theorem pass0 {X : Cx} : Passes CX0 X E0:=fun _ _ _ _ _ _ _ h=>h.elim
structure Fun (K : PySem.W.Frag) (x qual : Str) (st : Stmt) (f : Addr) (fd : FuncData) : Prop where
  ex : ∃ (oc : Value) (od : Option Addr) (kV doc pm : Value) (an : Option Addr) (cdv ct : Value) (osl : Array (Option Value)),
    fd = PySem.W.fnOf x qual (defArgs st) (defBody st) (defScope st) .none kV doc pm an cdv ct ∧ K.lookup f = some ⟨oc,od,.func fd,osl⟩ ∧ PySem.W.codeIn K cdv qual = true
  kp : PySem.W.keepIn K (.ref f) = true
section
variable {P : Program} {w : World} {K : PySem.W.Frag} {mg : Str → Option Value} {base : Heap}
theorem Fun.ok {x qual : Str} {st : Stmt} {f : Addr} {fd : FuncData} {N ps : List Str} {k : Nat} {sp : Sp} (F : Fun K x qual st f fd) (S : FnScope N ps (defScope st)) (len : ∀ vs H Q E,sp vs H Q E → vs.length = ps.length)
    (hbody : ∀ (cdv : Value) (A : Around) (outer : List Env) (s : Shared) (H : Hp) (vs : List V) (Q : VK) (E : XK),Room k (A.deeper (envOfC qual (defScope st) s.heap.objs.size f cdv)) → sp vs H Q E →
      ∃ t,PSs (cxOf CX0 P w K mg base N qual (defScope st) f cdv A outer s H E).nox (defBody st) t ∧ t { nx:=fun _ H'=>Q .non H',rt:=Q } (start N vs) H) : FnOk P w K mg base CX0 (k + 1) f fd ps sp:=by
  obtain ⟨oc,od,kV,doc,pm,an,cdv,ct,osl,rfl,lk,hcd⟩:=F.ex
  refine fn_of lk hcd S len fun A outer s H vs Q E hr hsp=>?_
  obtain ⟨t,h,q⟩:=hbody cdv A outer s H vs Q E hr hsp
  exact ⟨t,h.nox,q⟩
theorem Fun.binds {x qual : Str} {st : Stmt} {f : Addr} {fd : FuncData} {ps : List Str} (F : Fun K x qual st f fd)
    (h : ∀ (kV doc pm : Value) (an : Option Addr) (cdv ct : Value) (us : List Value),us.length = ps.length → bindArgs (PySem.W.fnOf x qual (defArgs st) (defBody st) (defScope st) .none kV doc pm an cdv ct) ⟨us,[]⟩ = pure (ps.zip us)) : Binds K fd ps []:=by
  obtain ⟨oc,od,kV,doc,pm,an,cdv,ct,osl,rfl,lk,hcd⟩:=F.ex
  exact .all (h kV doc pm an cdv ct)
theorem fun_mk {x qual : Str} {st : Stmt} {f : Addr} {oc : Value} {od an : Option Addr} {osl : Array (Option Value)} {kV doc pm cdv ct : Value} (l : K.lookup f = some ⟨oc,od,.func (PySem.W.fnOf x qual (defArgs st) (defBody st) (defScope st) .none kV doc pm an cdv ct),osl⟩)
    (c : PySem.W.codeIn K cdv qual = true) (k : PySem.W.keepIn K (.ref f) = true) : Fun K x qual st f (PySem.W.fnOf x qual (defArgs st) (defBody st) (defScope st) .none kV doc pm an cdv ct):=⟨⟨oc,od,kV,doc,pm,an,cdv,ct,osl,rfl,l,c⟩,k⟩
end
section
variable {X : Cx}
theorem pv (i : Nat) {x : Str} {pos : Pos} (hN : X.N[i]? = some x:=by rfl) (hv : Vis X.env.scope x:=by first | exact Or.inl rfl | exact Or.inr (Or.inl rfl) | exact Or.inr (Or.inr rfl)) (hd : (x == ("__debug__" : Str)) = false:=by decide)
    (hcd : (x == ("__classdict__" : Str)) = false:=by decide) : PE X (.Name x pos) (tVar i):=pe_var hN hv hd hcd
end
theorem ite2 {c A B : Prop} [Decidable c] (h1 : c → A) (h2 : ¬ c → B) : if c then A else B:=by
  by_cases h : c
  · rw [if_pos h]
    exact h1 h
  · rw [if_neg h]
    exact h2 h
def Same (H H' : Hp) : Prop:=∀ b o,H b = some o → H' b = some o
theorem Same.refl (H : Hp) : Same H H:=fun _ _ h=>h
theorem Same.trans {H H1 H2 : Hp} (a : Same H H1) (b : Same H1 H2) : Same H H2:=fun c o h=>b c o (a c o h)
theorem Same.free {H H' : Hp} (e : Same H H') {l : Addr} (h : H' l = Option.none) : H l = Option.none:=by
  cases q : H l with
  | none=>rfl
  | some o=>
    rw [e l o q] at h
    cases h
theorem Same.seq {K : PySem.W.Frag} {H H' : Hp} {a : Addr} {xs : List V} (e : Same H H') (h : SqL K H a xs) : SqL K H' a xs:=by
  rcases h with (h | ⟨o,h⟩) | h
  · exact .inl (.inl (e _ _ h))
  · exact .inl (.inr ⟨o,e _ _ h⟩)
  · exact .inr h
end L2
namespace L2
open PySem PySem.Spec PyProof.Rows
section
variable {κ : Type} [DecidableEq κ]
end
end L2
set_option autoImplicit false
namespace Dr
theorem pow_pos {p : Int} (h : 2 ≤ p) : ∀ n : Nat,0 < p ^ n
  | 0=>by simp
  | n + 1=>by
    rw [Int.pow_succ]
    exact Int.mul_pos (pow_pos h n) (by omega)
theorem pow_add' (p : Int) (m : Nat) : ∀ n : Nat,p ^ (m + n) = p ^ m * p ^ n
  | 0=>by simp
  | n + 1=>by rw [← Nat.add_assoc,Int.pow_succ,pow_add' p m n,Int.pow_succ,Int.mul_assoc]
structure Fac (p x : Int) (d : Nat) (u : Int) : Prop where
  eq : x = u * p ^ d
  un : u % p ≠ 0
theorem fac_ex {p : Int} (hp : 2 ≤ p) : ∀ (n : Nat) (x : Int),x.natAbs ≤ n → x ≠ 0 → ∃ d u,Fac p x d u
  | 0,x,h,h0=>by omega
  | n + 1,x,h,h0=>by
    by_cases c : x % p = 0
    · have e : x = p * (x / p):=by have:=Int.mul_ediv_add_emod x p; omega
      have q0 : x / p ≠ 0:=by intro z; rw [z] at e; simp at e; exact h0 e
      have q1 : (x / p).natAbs ≤ n:=by
        have e2 : x.natAbs = p.natAbs * (x / p).natAbs:=by rw [← Int.natAbs_mul,← e]
        have p2 : 2 ≤ p.natAbs:=by omega
        have l : 2 * (x / p).natAbs ≤ p.natAbs * (x / p).natAbs:=Nat.mul_le_mul_right _ p2
        have l0 : (x / p).natAbs ≠ 0:=by omega
        omega
      obtain ⟨d,u,f⟩:=fac_ex hp n (x / p) q1 q0
      refine ⟨d + 1,u,?_,f.un⟩
      have e3:=f.eq
      calc x = p * (x / p):=e
        _ = p * (u * p ^ d):=by rw [← e3]
        _ = u * p ^ (d + 1):=by rw [Int.pow_succ,Int.mul_comm p,Int.mul_assoc]
    · exact ⟨0,x,by simp,c⟩
theorem fac {p x : Int} (hp : 2 ≤ p) (h : x ≠ 0) : ∃ d u,Fac p x d u:=fac_ex hp _ x (Nat.le_refl _) h
theorem fac_le {p u v : Int} {d e : Nat} (hp : 2 ≤ p) (h : u * p ^ d = v * p ^ e) (hu : u % p ≠ 0) : e ≤ d:=by
  refine Nat.le_of_not_lt fun c=>?_
  obtain ⟨k,rfl⟩ : ∃ k,e = d + (k + 1):=⟨e - d - 1,by omega⟩
  have h0:=pow_pos hp d
  have e1 : u = v * p ^ (k + 1):=by
    refine Int.eq_of_mul_eq_mul_right (Int.ne_of_gt h0) ?_
    rw [h,pow_add',Int.mul_assoc,Int.mul_comm (p ^ d)]
  rw [e1,Int.pow_succ,← Int.mul_assoc,Int.mul_emod_left] at hu
  exact hu rfl
theorem dvd_of_le {p x : Int} {j k : Nat} (h : x % p ^ k = 0) (hj : j ≤ k) : x % p ^ j = 0:=by
  obtain ⟨i,rfl⟩ : ∃ i,k = j + i:=⟨k - j,by omega⟩
  rw [pow_add'] at h
  exact Int.emod_eq_zero_of_dvd (Int.dvd_trans (Int.dvd_mul_right _ _) (Int.dvd_of_emod_eq_zero h))
def primes : List Int:=[2,3,5,7,11,13,17,19,23,29,31,37,41,43,47,53,59,61,67,71,73,79,83,89,97]
theorem primes_ge {p : Int} (h : p ∈ primes) : 2 ≤ p ∧ p ≤ 97:=
  of_decide_eq_true (List.all_eq_true.mp (show (primes.all fun q=>decide (2 ≤ q ∧ q ≤ 97)) = true by decide +kernel) p h)
def invs (p : Nat) : Bool:=(List.range p).all fun r=>r == 0 || (List.range p).any fun y=>r * y % p == 1
theorem invs_all : (primes.map Int.toNat).all invs = true:=by decide +kernel
theorem inv_ex {p x : Int} (hp : p ∈ primes) (hx : x % p ≠ 0) : ∃ y : Int,1 ≤ y ∧ y < p ∧ x * y % p = 1:=by
  have g:=primes_ge hp
  have h:=List.all_eq_true.mp invs_all p.toNat (List.mem_map.mpr ⟨p,hp,rfl⟩)
  have r0:=Int.emod_nonneg x (show p ≠ 0 by omega)
  have r1:=Int.emod_lt_of_pos x (show 0 < p by omega)
  have h2:=List.all_eq_true.mp h (x % p).toNat (List.mem_range.mpr (by omega))
  have z : ((x % p).toNat == 0) = false:=by
    rw [beq_eq_false_iff_ne]; omega
  rw [z,Bool.false_or] at h2
  obtain ⟨y,hy,e⟩:=List.any_eq_true.mp h2
  have e' : (x % p).toNat * y % p.toNat = 1:=by simpa using e
  have hy':=List.mem_range.mp hy
  refine ⟨(y : Int),?_,by omega,?_⟩
  · rcases Nat.eq_zero_or_pos y with q | q
    · subst q; simp at e'
    · omega
  · rw [Int.mul_emod,Int.emod_eq_of_lt (Int.natCast_nonneg y) (show (y : Int) < p by omega)]
    have e3:=congrArg (fun n : Nat=>(n : Int)) e'
    simp only [Int.natCast_emod,Int.natCast_mul] at e3
    rw [Int.toNat_of_nonneg r0,Int.toNat_of_nonneg (by omega)] at e3
    exact e3
theorem euclid {p a b : Int} (hp : p ∈ primes) (h : a * b % p = 0) (ha : a % p ≠ 0) : b % p = 0:=by
  obtain ⟨y,_,_,e⟩:=inv_ex hp ha
  have g:=primes_ge hp
  have h1 : (y * (a * b)) % p = 0:=by rw [Int.mul_emod,h]; simp
  have h2 : (y * (a * b)) % p = (a * y) * b % p:=by
    congr 1
    rw [← Int.mul_assoc,Int.mul_comm y a]
  rw [h2,Int.mul_emod,e,Int.one_mul,Int.emod_emod] at h1
  exact h1
end Dr
namespace Dr
theorem pow_dv {p : Int} {m n : Nat} (h : m ≤ n) : p ^ n % p ^ m = 0:=by
  obtain ⟨k,rfl⟩ : ∃ k,n = k + m:=⟨n - m,by omega⟩
  rw [pow_add',Int.mul_emod_left]
end Dr
namespace Dr
theorem dvd_sub_of {m a b : Int} (h : a % m = 0) (h' : b % m = 0) : (a - b) % m = 0:=by rw [Int.sub_emod,h,h']; simp
theorem dvd_add_of {m a b : Int} (h : a % m = 0) (h' : b % m = 0) : (a + b) % m = 0:=by rw [Int.add_emod,h,h']; simp
theorem dvd_mul_l {m a : Int} (b : Int) (h : a % m = 0) : (b * a) % m = 0:=by rw [Int.mul_emod,h]; simp
theorem dvd_mul_r {m a : Int} (b : Int) (h : a % m = 0) : (a * b) % m = 0:=by rw [Int.mul_emod,h]; simp
theorem of_rest {m a b : Int} (h : (a - b) % m = 0) : a % m = b % m:=Int.emod_eq_emod_iff_emod_sub_eq_zero.mpr h
theorem rest_sub (m a : Int) : (a % m - a) % m = 0:=by
  rw [Int.sub_emod,Int.emod_emod]
  simp
end Dr
namespace Dr
end Dr
namespace Dr
def IsP (n : Int) : Prop:=2 ≤ n ∧ ∀ d : Int,2 ≤ d → d * d ≤ n → n % d ≠ 0
def vpF : Nat → Nat → Nat → Nat
  | 0,_,_=>0
  | f + 1,q,n=>if n % q = 0 then vpF f q (n / q) + 1 else 0
def nprimes : List Nat:=[2,3,5,7,11,13,17,19,23,29,31,37,41,43,47,53,59,61,67,71,73,79,83,89,97]
def outOf (n r q : Nat) : Nat:=if n % q = 0 then r / q ^ vpF 10 q n else r
def left (n : Nat) : Nat:=nprimes.foldl (outOf n) n
theorem two_pow_le {p : Int} (hp : 2 ≤ p) : ∀ d : Nat,2 ^ d ≤ (p ^ d).natAbs
  | 0=>by simp
  | d + 1=>by
    rw [Int.pow_succ,Int.natAbs_mul,Nat.pow_succ]
    exact Nat.mul_le_mul (two_pow_le hp d) (by omega)
theorem Fac.div {p x u : Int} {d : Nat} (hp : 2 ≤ p) (f : Fac p x d u) : x / p ^ d = u:=by
  have h0:=pow_pos hp d
  conv=>lhs; rw [f.eq]
  exact Int.mul_ediv_cancel _ (by omega)
end Dr
namespace Dr
def pev : List Int → Int → Int
  | [],_=>0
  | a :: f,x=>a + x * pev f x
def dm : Int → List Int → List Int
  | _,[]=>[]
  | k,a :: f=>k * a :: dm (k + 1) f
def pslope : List Int → List Int
  | []=>[]
  | [_]=>[0]
  | _ :: f=>dm 1 f
theorem pev_append (f g : List Int) (x : Int) : pev (f ++ g) x = pev f x + x ^ f.length * pev g x:=by
  induction f with
  | nil=>simp [pev]
  | cons a f ih=>
    simp only [List.cons_append,pev,ih,List.length_cons]
    grind
theorem pev_zeros (n : Nat) (x : Int) : pev (List.replicate n 0) x = 0:=by
  induction n with
  | zero=>rfl
  | succ n ih=>simp [List.replicate_succ,pev,ih]
theorem pev_set (x d : Int) : ∀ (f : List Int) (k : Nat) (c : Int),f[k]? = some c → pev (f.set k (c + d)) x = pev f x + d * x ^ k
  | a :: f,0,c,h=>by
    have : a = c:=by simpa using h
    subst this
    simp only [List.set_cons_zero,pev,Int.pow_zero]
    omega
  | a :: f,k + 1,c,h=>by
    simp only [List.set_cons_succ,pev,pev_set x d f k c (by simpa using h)]
    grind
theorem pev_take_succ {f : List Int} {i : Nat} {c : Int} (h : f[i]? = some c) (x : Int) : pev (f.take (i + 1)) x = pev (f.take i) x + c * x ^ i:=by
  have hi:=(List.getElem?_eq_some_iff.mp h).1
  rw [List.take_add_one,h,pev_append,List.length_take,Nat.min_eq_left (Nat.le_of_lt hi)]
  simp only [Option.toList,pev]
  grind
theorem drop_rev {f : List Int} {i : Nat} {c : Int} (h : f.reverse[i]? = some c) : f.drop (f.length - (i + 1)) = c :: f.drop (f.length - i):=by
  have hi : i < f.length:=by
    have:=(List.getElem?_eq_some_iff.mp h).1
    simpa using this
  rw [List.getElem?_reverse hi] at h
  have h2 : f.length - (i + 1) < f.length:=by omega
  rw [List.drop_eq_getElem_cons h2]
  have e1 : f.length - (i + 1) + 1 = f.length - i:=by omega
  have e2 : f[f.length - (i + 1)] = c:=by
    have h3 : f.length - 1 - i = f.length - (i + 1):=by omega
    rw [h3,List.getElem?_eq_getElem h2] at h
    exact Option.some.inj h
  rw [e1,e2]
theorem pev_rev {f : List Int} {i : Nat} {c : Int} (h : f.reverse[i]? = some c) (x : Int) : pev (f.drop (f.length - (i + 1))) x = pev (f.drop (f.length - i)) x * x + c:=by
  rw [drop_rev h]
  simp only [pev]
  grind
def Sm (n : Int) (k : Nat) : Prop:=n.natAbs < 2 ^ k
theorem Sm.mono {n : Int} {k l : Nat} (h : Sm n k) (hl : k ≤ l) : Sm n l:=Nat.lt_of_lt_of_le h (Nat.pow_le_pow_right (by decide) hl)
theorem Sm.zero (k : Nat) : Sm 0 k:=Nat.pow_pos (by decide)
theorem Sm.add {a b : Int} {k l : Nat} (ha : Sm a k) (hb : Sm b l) : Sm (a + b) (max k l + 1):=by
  have h1:=ha.mono (Nat.le_max_left k l)
  have h2:=hb.mono (Nat.le_max_right k l)
  unfold Sm at *
  rw [Nat.pow_succ]
  omega
theorem Sm.neg {a : Int} {k : Nat} (ha : Sm a k) : Sm (-a) k:=by
  unfold Sm at *
  rw [Int.natAbs_neg]
  exact ha
theorem Sm.sub {a b : Int} {k l : Nat} (ha : Sm a k) (hb : Sm b l) : Sm (a - b) (max k l + 1):=by
  rw [Int.sub_eq_add_neg]
  exact ha.add hb.neg
theorem Sm.mul {a b : Int} {k l : Nat} (ha : Sm a k) (hb : Sm b l) : Sm (a * b) (k + l):=by
  unfold Sm at *
  rw [Int.natAbs_mul,Nat.pow_add]
  exact Nat.mul_lt_mul_of_lt_of_lt ha hb
def PolyB (f : List Int) (m : Nat) : Prop:=∀ c,c ∈ f → Sm c m
theorem Sm.pev {m n : Nat} {x : Int} (hx : Sm x n) : ∀ {f : List Int},PolyB f m → Sm (pev f x) (m + f.length * (n + 1))
  | [],_=>Sm.zero _
  | a :: f,hf=>by
    have h1:=Sm.pev hx (f:=f) fun c hc=>hf c (List.mem_cons_of_mem _ hc)
    have h2:=(hf a (List.mem_cons_self ..)).add (hx.mul h1)
    refine h2.mono ?_
    rw [List.length_cons,Nat.succ_mul]
    omega
theorem PolyB.drop {f : List Int} {m : Nat} (h : PolyB f m) (k : Nat) : PolyB (f.drop k) m:=fun c hc=>h c (List.mem_of_mem_drop hc)
theorem pev_inj_from : ∀ (f g : List Int) (N : Int),f.length = g.length → (∀ x,N ≤ x → pev f x = pev g x) → f = g
  | [],[],_,_,_=>rfl
  | a :: f,b :: g,N,hl,h=>by
    have hab : a = b:=by
      let D : Int:=((a - b).natAbs : Int) + 1 + (N.natAbs : Int)
      have hD : N ≤ D:=by omega
      have e:=h D hD
      simp only [pev] at e
      have e2 : a - b = D * (pev g D - pev f D):=by grind
      refine Decidable.byContradiction fun hne=>?_
      have hz : pev g D - pev f D ≠ 0:=fun z=>by
        rw [z] at e2
        simp at e2
        omega
      have h3 : (a - b).natAbs = D.natAbs * (pev g D - pev f D).natAbs:=by rw [← Int.natAbs_mul,← e2]
      have h4 : D.natAbs * 1 ≤ D.natAbs * (pev g D - pev f D).natAbs:=Nat.mul_le_mul_left _ (by omega)
      omega
    subst hab
    congr 1
    refine pev_inj_from f g (max N 1) (by simpa using hl) fun x hx=>?_
    have e:=h x (by omega)
    simp only [pev] at e
    have e2 : x * pev f x = x * pev g x:=by omega
    exact Int.eq_of_mul_eq_mul_left (by omega) e2
  | [],_ :: _,_,hl,_=>by simp at hl
  | _ :: _,[],_,hl,_=>by simp at hl
theorem pev_inj {f g : List Int} (hl : f.length = g.length) (h : ∀ x,pev f x = pev g x) : f = g:=pev_inj_from f g 0 hl fun x _=>h x
def IsDeg (f : List Int) (d : Int) : Prop:=(d = -1 ∧ ∀ c,c ∈ f → c = 0) ∨ ∃ (k : Nat) (c : Int),d = (k : Int) ∧ f[k]? = some c ∧ c ≠ 0 ∧ ∀ (j : Nat) (b : Int),k < j → f[j]? = some b → b = 0
theorem IsDeg.nil : IsDeg [] (-1):=.inl ⟨rfl,fun _ h=>nomatch h⟩
theorem IsDeg.snoc {f : List Int} {d x : Int} (h : IsDeg f d) : IsDeg (f ++ [x]) (if x ≠ 0 then (f.length : Int) else d):=by
  by_cases hx : x = 0
  · rw [if_neg (by simp [hx])]
    rcases h with ⟨rfl,h⟩ | ⟨k,c,rfl,e,hc,h⟩
    · exact .inl ⟨rfl,fun c hc=>by rcases List.mem_append.mp hc with z | z; exact h c z; rw [List.mem_singleton.mp z,hx]⟩
    · have hk:=(List.getElem?_eq_some_iff.mp e).1
      refine .inr ⟨k,c,rfl,by rw [List.getElem?_append_left hk]; exact e,hc,fun j b hj e'=>?_⟩
      by_cases hl : j < f.length
      · rw [List.getElem?_append_left hl] at e'
        exact h j b hj e'
      · rw [List.getElem?_append_right (by omega)] at e'
        by_cases hz : j - f.length = 0
        · rw [hz] at e'
          simp at e'
          rw [← e',hx]
        · rw [List.getElem?_eq_none (by simp; omega)] at e'
          cases e'
  · rw [if_pos hx]
    refine .inr ⟨f.length,x,rfl,by rw [List.getElem?_append_right (Nat.le_refl _)]; simp,hx,fun j b hj e'=>?_⟩
    rw [List.getElem?_eq_none (by simp; omega)] at e'
    cases e'
theorem IsDeg.take_succ {f : List Int} {i : Nat} {x d : Int} (hx : f[i]? = some x) (h : IsDeg (f.take i) d) : IsDeg (f.take (i + 1)) (if x ≠ 0 then (i : Int) else d):=by
  have hi:=(List.getElem?_eq_some_iff.mp hx).1
  have:=h.snoc (x:=x)
  rw [List.length_take,Nat.min_eq_left (Nat.le_of_lt hi)] at this
  rw [List.take_add_one,hx]
  exact this
end Dr
namespace Dr
structure IsProd (f g r : List Int) : Prop where
  len : r.length + 1 = f.length + g.length
  ev : ∀ x,pev r x = pev f x * pev g x
theorem IsProd.uniq {f g r r' : List Int} (h : IsProd f g r) (h' : IsProd f g r') : r = r':=pev_inj (by have:=h.len; have:=h'.len; omega) fun x=>by rw [h.ev,h'.ev]
def padd : List Int → List Int → List Int
  | [],g=>g
  | f,[]=>f
  | a :: f,b :: g=>(a + b) :: padd f g
theorem padd_ev (x : Int) : ∀ f g : List Int,pev (padd f g) x = pev f x + pev g x
  | [],g=>by simp [padd,pev]
  | a :: f,[]=>by simp [padd,pev]
  | a :: f,b :: g=>by
    simp only [padd,pev,padd_ev x f g]
    grind
theorem padd_len : ∀ f g : List Int,(padd f g).length = max f.length g.length
  | [],g=>by simp [padd]
  | a :: f,[]=>by simp [padd]
  | a :: f,b :: g=>by
    simp only [padd,List.length_cons,padd_len f g]
    omega
theorem pev_map (k x : Int) : ∀ f : List Int,pev (f.map (k * ·)) x = k * pev f x
  | []=>by simp [pev]
  | a :: f=>by
    simp only [List.map_cons,pev,pev_map k x f]
    grind
def pmul : List Int → List Int → List Int
  | [],_=>[]
  | a :: f,g=>padd (g.map (a * ·)) (match f with | []=>[] | _=>0 :: pmul f g)
theorem pmul_ev (x : Int) (g : List Int) : ∀ f : List Int,pev (pmul f g) x = pev f x * pev g x
  | []=>by simp [pmul,pev]
  | [a]=>by
    simp only [pmul,padd_ev,pev_map,pev]
    grind
  | a :: b :: f=>by
    simp only [pmul,padd_ev,pev_map]
    have:=pmul_ev x g (b :: f)
    simp only [pmul,padd_ev,pev_map] at this
    simp only [pev,padd_ev,pev_map] at this ⊢
    grind
theorem pmul_len (g : List Int) (hg : 0 < g.length) : ∀ f : List Int,0 < f.length → (pmul f g).length + 1 = f.length + g.length
  | [a],_=>by
    simp only [pmul,padd_len,List.length_map,List.length_nil,List.length_cons]
    omega
  | a :: b :: f,_=>by
    have:=pmul_len g hg (b :: f) (by simp)
    simp only [pmul,padd_len,List.length_map,List.length_cons] at this ⊢
    omega
theorem pmul_prod {f g : List Int} (hf : 0 < f.length) (hg : 0 < g.length) : IsProd f g (pmul f g):=⟨pmul_len g hg f hf,fun x=>pmul_ev x g f⟩
structure IsCont (p : Int) (f : List Int) (c : Nat) : Prop where
  all : ∀ x,x ∈ f → x % p ^ c = 0
  one : ∃ x,x ∈ f ∧ x / p ^ c % p ≠ 0
theorem IsCont.le {p : Int} {f : List Int} {c c' : Nat} (hp : 2 ≤ p) (h : IsCont p f c) (h' : ∀ x,x ∈ f → x % p ^ c' = 0) : c' ≤ c:=by
  refine Decidable.byContradiction fun hlt=>?_
  obtain ⟨x,hx,n⟩:=h.one
  have h1 : x % p ^ (c + 1) = 0:=dvd_of_le (h' x hx) (by omega)
  obtain ⟨y,e⟩:=Int.dvd_of_emod_eq_zero h1
  apply n
  have hp0:=pow_pos hp c
  rw [e,Int.pow_succ,Int.mul_assoc,Int.mul_ediv_cancel_left _ (by omega)]
  simp
theorem IsCont.uniq {p : Int} {f : List Int} {c c' : Nat} (hp : 2 ≤ p) (h : IsCont p f c) (h' : IsCont p f c') : c = c':=by
  have h1:=h.le hp h'.all
  have h2:=h'.le hp h.all
  omega
def pdiv (q : Int) (f : List Int) : List Int:=f.map (· / q)
theorem pdiv_back {q : Int} : ∀ {f : List Int},(∀ x,x ∈ f → x % q = 0) → f = (pdiv q f).map (q * ·)
  | [],_=>rfl
  | a :: l,hl=>by
    have ih:=pdiv_back (f:=l) fun x hx=>hl x (List.mem_cons_of_mem _ hx)
    unfold pdiv at ih ⊢
    rw [List.map_cons,List.map_cons,← ih]
    congr 1
    have e:=Int.mul_ediv_add_emod a q
    rw [hl a (List.mem_cons_self ..)] at e
    omega
theorem pdiv_ev {q : Int} {f : List Int} (h : ∀ x,x ∈ f → x % q = 0) (x : Int) : pev f x = q * pev (pdiv q f) x:=by
  conv=>lhs; rw [pdiv_back h]
  rw [pev_map]
theorem pdiv_len (q : Int) (f : List Int) : (pdiv q f).length = f.length:=by simp [pdiv]
structure IsSeen (f : List Int) (a q : Int) (s : List Int) : Prop where
  len : s.length = f.length
  ev : ∀ y,pev s y = pev f (a + q * y)
end Dr
namespace Dr
theorem pev_sub (x y : Int) : ∀ f : List Int,∃ R,pev f x - pev f y = (x - y) * R
  | []=>⟨0,by simp [pev]⟩
  | a :: f=>by
    obtain ⟨R,e⟩:=pev_sub x y f
    refine ⟨pev f x + y * R,?_⟩
    simp only [pev]
    grind
theorem pev_cong {x y m : Int} (f : List Int) (h : (x - y) % m = 0) : (pev f x - pev f y) % m = 0:=by
  obtain ⟨R,e⟩:=pev_sub x y f
  rw [e]
  exact dvd_mul_r R h
end Dr
namespace Dr
structure Rows (M a R S r t s : Int) : Prop where
  sg : s = 1 ∨ s = -1
  r0 : 0 ≤ r
  rR : r < R
  st : 1 ≤ s * t
  sS : s * S ≤ 0
  det : R * t - r * S = s * M
  h1 : (R - a * S) % M = 0
  h2 : (r - a * t) % M = 0
end Dr
namespace Dr
def pdl : List Int → List Int
  | []=>[]
  | _ :: f=>match f with
    | []=>[]
    | _=>padd f (padd (pdl f) (0 :: pdl f))
theorem pdl_ev (x : Int) : ∀ f : List Int,pev (pdl f) x = pev f (x + 1) - pev f x
  | []=>by simp [pdl,pev]
  | [a]=>by simp [pdl,pev]
  | a :: b :: f=>by
    have ih:=pdl_ev x (b :: f)
    rw [pdl]
    · rw [padd_ev,padd_ev]
      simp only [pev] at ih ⊢
      grind
    · simp
theorem pdl_len : ∀ f : List Int,(pdl f).length = f.length - 1
  | []=>rfl
  | [a]=>by simp [pdl]
  | a :: b :: f=>by
    have ih:=pdl_len (b :: f)
    rw [pdl]
    · rw [padd_len,padd_len]
      simp only [List.length_cons] at ih ⊢
      omega
    · simp
theorem from_zero {M : Int} {g : Int → Int} (h0 : g 0 % M = 0) (hd : ∀ y,(g (y + 1) - g y) % M = 0) (y : Int) : g y % M = 0:=by
  have up : ∀ n : Nat,g (n : Int) % M = 0:=fun n=>by
    induction n with
    | zero=>exact h0
    | succ n ih=>
      have:=dvd_add_of (hd (n : Int)) ih
      rwa [show g ((n : Int) + 1) - g (n : Int) + g (n : Int) = g ((n : Int) + 1) by omega,show ((n : Int) + 1) = ((n + 1 : Nat) : Int) by omega] at this
  have dn : ∀ n : Nat,g (-(n : Int)) % M = 0:=fun n=>by
    induction n with
    | zero=>exact h0
    | succ n ih=>
      have:=dvd_sub_of ih (hd (-((n + 1 : Nat) : Int)))
      rwa [show g (-(n : Int)) - (g (-((n + 1 : Nat) : Int) + 1) - g (-((n + 1 : Nat) : Int))) = g (-((n + 1 : Nat) : Int)) by rw [show -((n + 1 : Nat) : Int) + 1 = -(n : Int) by omega]; omega] at this
  rcases Int.le_total 0 y with h | h
  · have:=up y.toNat
    rwa [Int.toNat_of_nonneg h] at this
  · have:=dn (-y).toNat
    rwa [Int.toNat_of_nonneg (show 0 ≤ -y by omega),Int.neg_neg] at this
theorem all_worths {M : Int} : ∀ (n : Nat) (f : List Int),f.length = n → (∀ y : Int,0 ≤ y → y < (n : Int) → pev f y % M = 0) → ∀ y,pev f y % M = 0
  | 0,f,hl,_,y=>by
    have : f = []:=List.eq_nil_of_length_eq_zero hl
    rw [this]
    simp [pev]
  | n + 1,f,hl,h,y=>by
    refine from_zero (g:=pev f) (h 0 (by omega) (by omega)) (fun y=>?_) y
    rw [← pdl_ev]
    refine all_worths n (pdl f) (by rw [pdl_len]; omega) (fun z h0 h1=>?_) y
    rw [pdl_ev]
    exact dvd_sub_of (h (z + 1) (by omega) (by omega)) (h z h0 (by omega))
def pq (r : Int) : List Int → List Int
  | []=>[]
  | _ :: f=>padd f ((pq r f).map (r * ·))
theorem pq_ev (r x : Int) : ∀ f : List Int,pev f x = pev f r + (x - r) * pev (pq r f) x
  | []=>by simp [pev,pq]
  | a :: f=>by
    have ih:=pq_ev r x f
    simp only [pev,pq,padd_ev,pev_map]
    grind
theorem pq_len (r : Int) : ∀ f : List Int,(pq r f).length = f.length - 1
  | []=>rfl
  | a :: f=>by
    have:=pq_len r f
    simp only [pq,padd_len,List.length_map,List.length_cons]
    omega
theorem pq_swap (r s : Int) (hrs : r ≠ s) (f : List Int) : pq s (pq r f) = pq r (pq s f):=by
  refine pev_inj_from _ _ ((r.natAbs : Int) + (s.natAbs : Int) + 1) (by simp only [pq_len]) fun x hx=>?_
  have e1:=pq_ev r x f
  have e2:=pq_ev s x (pq r f)
  have e3:=pq_ev s x f
  have e4:=pq_ev r x (pq s f)
  have e5:=pq_ev r s f
  have e6:=pq_ev s r f
  have d : pev (pq r f) s = pev (pq s f) r:=by
    refine Int.eq_of_mul_eq_mul_left (show s - r ≠ 0 by omega) ?_
    grind
  have x1 : x - r ≠ 0:=by omega
  have x2 : x - s ≠ 0:=by omega
  refine Int.eq_of_mul_eq_mul_left x1 (Int.eq_of_mul_eq_mul_left x2 ?_)
  grind
def Van (p : Int) : List Int → Int → Nat → Prop
  | _,_,0=>True
  | f,r,k + 1=>pev f r % p = 0 ∧ Van p (pq r f) r k
def DegP (p : Int) (f : List Int) (m : Nat) : Prop:=f.getD m 0 % p ≠ 0 ∧ ∀ j,m < j → f.getD j 0 % p = 0
theorem padd_getD : ∀ (f g : List Int) (j : Nat),(padd f g).getD j 0 = f.getD j 0 + g.getD j 0
  | [],g,j=>by simp [padd]
  | a :: f,[],j=>by simp [padd]
  | a :: f,b :: g,0=>by simp [padd]
  | a :: f,b :: g,j + 1=>by
    have:=padd_getD f g j
    simpa [padd] using this
theorem map_getD (k : Int) (f : List Int) (j : Nat) : (f.map (k * ·)).getD j 0 = k * f.getD j 0:=by
  rw [List.getD_eq_getElem?_getD,List.getD_eq_getElem?_getD,List.getElem?_map]
  cases f[j]? <;> simp
theorem pq_get (r : Int) : ∀ (f : List Int) (j : Nat),(pq r f).getD j 0 = f.getD (j + 1) 0 + r * (pq r f).getD (j + 1) 0
  | [],j=>by simp [pq]
  | [a],j=>by simp [pq,padd]
  | a :: b :: f,j=>by
    have ih:=pq_get r (b :: f) j
    have h1 : ∀ i,(pq r (a :: b :: f)).getD i 0 = (b :: f).getD i 0 + r * (pq r (b :: f)).getD i 0:=fun i=>by
      rw [pq,padd_getD,map_getD]
    rw [h1 j,h1 (j + 1)]
    have e : (a :: b :: f).getD (j + 1) 0 = (b :: f).getD j 0:=by simp
    rw [e,ih]
theorem DegP.pq {p r : Int} {f : List Int} {m : Nat} (h : DegP p f (m + 1)) : DegP p (pq r f) m:=by
  have dn : ∀ (k j : Nat),f.length ≤ j + k → m < j → (Dr.pq r f).getD j 0 % p = 0:=by
    intro k
    induction k with
    | zero=>
      intro j hj hm
      rw [List.getD_eq_getElem?_getD,List.getElem?_eq_none (by rw [pq_len]; omega)]
      simp
    | succ k ih=>
      intro j hj hm
      rw [pq_get]
      exact dvd_add_of (h.2 (j + 1) (by omega)) (dvd_mul_l r (ih (j + 1) (by omega) (by omega)))
  refine ⟨fun z=>h.1 ?_,fun j hj=>dn f.length j (by omega) hj⟩
  rw [pq_get] at z
  have:=dvd_sub_of z (dvd_mul_l r (dn f.length (m + 1) (by omega) (by omega)))
  rwa [Int.add_sub_cancel] at this
theorem DegP.zero {p r : Int} {f : List Int} (h : DegP p f 0) : pev f r % p ≠ 0:=by
  intro z
  apply h.1
  have : ∀ (g : List Int),(∀ j,0 < j → g.getD j 0 % p = 0) → (pev g r - g.getD 0 0) % p = 0:=by
    intro g
    induction g with
    | nil=>intro _; simp [pev]
    | cons a g ih=>
      intro hg
      have hg' : ∀ j,g.getD j 0 % p = 0:=fun j=>by
        have:=hg (j + 1) (by omega)
        simpa using this
      have h1:=ih fun j _=>hg' j
      have h2 : pev g r % p = 0:=by
        have:=dvd_add_of h1 (hg' 0)
        rwa [Int.sub_add_cancel] at this
      have e : pev (a :: g) r - (a :: g).getD 0 0 = r * pev g r:=by
        simp only [pev]
        simp
        omega
      rw [e]
      exact dvd_mul_l r h2
  have h1:=this f h.2
  have h2:=dvd_sub_of z h1
  rwa [show pev f r - (pev f r - f.getD 0 0) = f.getD 0 0 by omega] at h2
theorem Van.other {p r s : Int} (hp : p ∈ primes) (hrs : (s - r) % p ≠ 0) : ∀ (k : Nat) (f : List Int),pev f r % p = 0 → Van p f s k → Van p (pq r f) s k
  | 0,_,_,_=>trivial
  | k + 1,f,hr,hv=>by
    obtain ⟨h1,h2⟩:=hv
    have ne : r ≠ s:=fun z=>hrs (by rw [z]; simp)
    have e:=pq_ev r s f
    have h3 : (s - r) * pev (pq r f) s % p = 0:=by
      have:=dvd_sub_of h1 hr
      rwa [show pev f s - pev f r = (s - r) * pev (pq r f) s by omega] at this
    have h4:=euclid hp h3 hrs
    refine ⟨h4,?_⟩
    rw [pq_swap r s ne]
    refine Van.other hp hrs k (pq s f) ?_ h2
    have e2:=pq_ev s r f
    have d : pev (pq r f) s = pev (pq s f) r:=by
      refine Int.eq_of_mul_eq_mul_left (show s - r ≠ 0 by omega) ?_
      grind
    rw [← d]
    exact h4
def total (L : List (Int × Nat)) : Nat:=(L.map (·.2)).sum
theorem noughts {p : Int} (hp : p ∈ primes) : ∀ (m : Nat) (f : List Int) (L : List (Int × Nat)),DegP p f m → (L.map (·.1)).Pairwise (fun r s=>(s - r) % p ≠ 0) → (∀ rk,rk ∈ L → Van p f rk.1 rk.2) → total L ≤ m
  | m,f,[],_,_,_=>by simp [total]
  | m,f,(r,0) :: L,hd,hpw,hv=>by
    have:=noughts hp m f L hd (List.Pairwise.of_cons (by simpa using hpw)) fun rk h=>hv rk (List.mem_cons_of_mem _ h)
    simpa [total] using this
  | 0,f,(r,k + 1) :: L,hd,_,hv=>absurd (hv _ (List.mem_cons_self ..)).1 hd.zero
  | m + 1,f,(r,k + 1) :: L,hd,hpw,hv=>by
    have v0:=hv _ (List.mem_cons_self ..)
    have hpw' : (∀ s,s ∈ L.map (·.1) → (s - r) % p ≠ 0) ∧ (L.map (·.1)).Pairwise (fun r s=>(s - r) % p ≠ 0):=by
      have:=List.pairwise_cons.mp (show (r :: L.map (·.1)).Pairwise (fun r s=>(s - r) % p ≠ 0) by simpa using hpw)
      exact this
    have:=noughts hp m (pq r f) ((r,k) :: L) hd.pq (by simpa using hpw) fun rk h=>by
      rcases List.mem_cons.mp h with z | z
      · rw [z]
        exact v0.2
      · exact Van.other hp (hpw'.1 _ (List.mem_map_of_mem z)) _ _ v0.1 (hv rk (List.mem_cons_of_mem _ z))
    simp only [total,List.map_cons,List.sum_cons] at this ⊢
    omega
termination_by m _ L=>(m,L.length)
end Dr
namespace Dr
def InB (p x : Int) (b : Int × Nat) : Prop:=(x - b.1) % p ^ b.2 = 0
def Disj (p : Int) (b c : Int × Nat) : Prop:=∀ x,InB p x b → ¬ InB p x c
structure Tree (p a : Int) (e : Nat) (Sol : Int → Prop) (bs : List (Int × Nat)) : Prop where
  ok : ∀ b,b ∈ bs → e ≤ b.2 ∧ 0 ≤ b.1 ∧ b.1 < p ^ b.2 ∧ (b.1 - a) % p ^ e = 0
  sound : ∀ b,b ∈ bs → ∀ x,InB p x b → Sol x
  full : ∀ x,(x - a) % p ^ e = 0 → Sol x → ∃ b,b ∈ bs ∧ InB p x b
  disj : bs.Pairwise (Disj p)
  max : ∀ b,b ∈ bs → b.2 = e ∨ ∃ x,(x - b.1) % p ^ (b.2 - 1) = 0 ∧ ¬ Sol x
theorem InB.self (p a : Int) (e : Nat) : InB p a (a,e):=by
  show (a - a) % p ^ e = 0
  rw [Int.sub_self]
  simp
theorem Tree.leaf {p a : Int} {e : Nat} {Sol : Int → Prop} (ha : 0 ≤ a ∧ a < p ^ e) (h : ∀ x,(x - a) % p ^ e = 0 → Sol x) : Tree p a e Sol [(a,e)]:=by
  refine ⟨fun b hb=>?_,fun b hb x hx=>?_,fun x hx _=>⟨(a,e),by simp,hx⟩,by simp,fun b hb=>?_⟩
  · rw [List.mem_singleton.mp hb]
    exact ⟨Nat.le_refl _,ha.1,ha.2,by simp⟩
  · rw [List.mem_singleton.mp hb] at hx
    exact h x hx
  · rw [List.mem_singleton.mp hb]
    exact .inl rfl
structure Part (p a : Int) (e : Nat) (Sol : Int → Prop) (rs : List Int) (bs : List (Int × Nat)) : Prop where
  ok : ∀ b,b ∈ bs → e + 1 ≤ b.2 ∧ 0 ≤ b.1 ∧ b.1 < p ^ b.2 ∧ ∃ r,r ∈ rs ∧ (b.1 - (a + r * p ^ e)) % p ^ (e + 1) = 0
  sound : ∀ b,b ∈ bs → ∀ x,InB p x b → Sol x
  full : ∀ x r,r ∈ rs → (x - (a + r * p ^ e)) % p ^ (e + 1) = 0 → Sol x → ∃ b,b ∈ bs ∧ InB p x b
  disj : bs.Pairwise (Disj p)
  max : ∀ b,b ∈ bs → ∃ x,(x - b.1) % p ^ (b.2 - 1) = 0 ∧ ¬ Sol x
theorem Part.nil {p a : Int} {e : Nat} {Sol : Int → Prop} : Part p a e Sol [] []:=⟨(fun _ h=>nomatch h),(fun _ h=>nomatch h),(fun _ _ h=>nomatch h),.nil,(fun _ h=>nomatch h)⟩
theorem rest_one {p r s : Int} (hr : 0 ≤ r ∧ r < p) (hs : 0 ≤ s ∧ s < p) (h : (r - s) % p = 0) : r = s:=by
  obtain ⟨k,e⟩:=Int.dvd_of_emod_eq_zero h
  have : k = 0:=by
    refine Decidable.byContradiction fun z=>?_
    rcases Int.lt_or_gt_of_ne z with z | z
    · have : p * k ≤ p * -1:=Int.mul_le_mul_of_nonneg_left (by omega) (by omega)
      omega
    · have : p * 1 ≤ p * k:=Int.mul_le_mul_of_nonneg_left (by omega) (by omega)
      omega
  rw [this] at e
  omega
theorem rest_by {p a x r s : Int} {e : Nat} (hp : 2 ≤ p) (h : (x - (a + r * p ^ e)) % p ^ (e + 1) = 0) (h' : (x - (a + s * p ^ e)) % p ^ (e + 1) = 0) : (r - s) % p = 0:=by
  have h1:=dvd_sub_of h' h
  rw [show x - (a + s * p ^ e) - (x - (a + r * p ^ e)) = r * p ^ e - s * p ^ e by omega,← Int.sub_mul,Int.pow_succ] at h1
  obtain ⟨k,ek⟩:=Int.dvd_of_emod_eq_zero h1
  have q0:=pow_pos hp e
  have : r - s = p * k:=by
    refine Int.eq_of_mul_eq_mul_left (show p ^ e ≠ 0 by omega) ?_
    generalize p ^ e = A at *
    grind
  rw [this]
  simp
theorem Part.more {p a : Int} {e : Nat} {Sol : Int → Prop} {rs : List Int} {r : Int} {bs cs : List (Int × Nat)} (hp : 2 ≤ p) (h : Part p a e Sol rs bs) (hrs : ∀ s,s ∈ rs → 0 ≤ s ∧ s < p ∧ s ≠ r) (hr : 0 ≤ r ∧ r < p)
    (t : Tree p (a + r * p ^ e) (e + 1) Sol cs) (hn : ∃ x,(x - a) % p ^ e = 0 ∧ ¬ Sol x) : Part p a e Sol (rs ++ [r]) (bs ++ cs):=by
  refine ⟨fun b hb=>?_,fun b hb=>?_,fun x s hs hx sol=>?_,?_,fun b hb=>?_⟩
  · rcases List.mem_append.mp hb with z | z
    · obtain ⟨h1,h2,h3,s,hs,h4⟩:=h.ok b z
      exact ⟨h1,h2,h3,s,List.mem_append_left _ hs,h4⟩
    · obtain ⟨h1,h2,h3,h4⟩:=t.ok b z
      exact ⟨h1,h2,h3,r,by simp,h4⟩
  · rcases List.mem_append.mp hb with z | z
    · exact h.sound b z
    · exact t.sound b z
  · rcases List.mem_append.mp hs with z | z
    · obtain ⟨b,hb,hi⟩:=h.full x s z hx sol
      exact ⟨b,List.mem_append_left _ hb,hi⟩
    · rw [List.mem_singleton.mp z] at hx
      obtain ⟨b,hb,hi⟩:=t.full x hx sol
      exact ⟨b,List.mem_append_right _ hb,hi⟩
  · refine List.pairwise_append.mpr ⟨h.disj,t.disj,fun b hb c hc x hx hx'=>?_⟩
    obtain ⟨h1,_,_,s,hs,h4⟩:=h.ok b hb
    obtain ⟨g1,_,_,g4⟩:=t.ok c hc
    have e1 : (x - (a + s * p ^ e)) % p ^ (e + 1) = 0:=by
      have:=dvd_add_of (dvd_of_le (show (x - b.1) % p ^ b.2 = 0 from hx) h1) h4
      rwa [show x - b.1 + (b.1 - (a + s * p ^ e)) = x - (a + s * p ^ e) by omega] at this
    have e2 : (x - (a + r * p ^ e)) % p ^ (e + 1) = 0:=by
      have:=dvd_add_of (dvd_of_le (show (x - c.1) % p ^ c.2 = 0 from hx') g1) g4
      rwa [show x - c.1 + (c.1 - (a + r * p ^ e)) = x - (a + r * p ^ e) by omega] at this
    obtain ⟨k1,k2,k3⟩:=hrs s hs
    exact k3 (rest_one ⟨k1,k2⟩ hr (rest_by hp e1 e2))
  · rcases List.mem_append.mp hb with z | z
    · exact h.max b z
    · rcases t.max b z with w | w
      · obtain ⟨x,hx,ns⟩:=hn
        refine ⟨x,?_,ns⟩
        rw [w,Nat.add_sub_cancel]
        have h4:=(t.ok b z).2.2.2
        have h5:=dvd_of_le (p:=p) h4 (Nat.le_succ e)
        have h6:=dvd_mul_l r (pow_dv (p:=p) (Nat.le_refl e))
        have:=dvd_sub_of hx (dvd_add_of h5 h6)
        rwa [show x - a - (b.1 - (a + r * p ^ e) + r * p ^ e) = x - b.1 by omega] at this
      · exact w
theorem Part.tree {p a : Int} {e : Nat} {Sol : Int → Prop} {rs : List Int} {bs : List (Int × Nat)} (h : Part p a e Sol rs bs) (all : ∀ x,(x - a) % p ^ e = 0 → Sol x → ∃ r,r ∈ rs ∧ (x - (a + r * p ^ e)) % p ^ (e + 1) = 0) : Tree p a e Sol bs:=by
  refine ⟨fun b hb=>?_,h.sound,fun x hx sol=>?_,h.disj,fun b hb=>.inr (h.max b hb)⟩
  · obtain ⟨h1,h2,h3,r,_,h4⟩:=h.ok b hb
    refine ⟨by omega,h2,h3,?_⟩
    have h5:=dvd_of_le (p:=p) h4 (Nat.le_succ e)
    have h6:=dvd_mul_l r (pow_dv (p:=p) (Nat.le_refl e))
    have:=dvd_add_of h5 h6
    rwa [show b.1 - (a + r * p ^ e) + r * p ^ e = b.1 - a by omega] at this
  · obtain ⟨r,hr,hx'⟩:=all x hx sol
    exact h.full x r hr hx' sol
end Dr
namespace Dr
def tay (r : Int) : Nat → List Int → List Int
  | 0,_=>[]
  | n + 1,f=>pev f r :: tay r n (pq r f)
theorem tay_ev (r y : Int) : ∀ (n : Nat) (f : List Int),f.length ≤ n → pev (tay r n f) y = pev f (r + y)
  | 0,f,h=>by
    have : f = []:=List.eq_nil_of_length_eq_zero (by omega)
    rw [this]
    simp [tay,pev]
  | n + 1,f,h=>by
    have ih:=tay_ev r y n (pq r f) (by rw [pq_len]; omega)
    have e:=pq_ev r (r + y) f
    simp only [tay,pev,ih]
    rw [e]
    grind
theorem tay_len (r : Int) : ∀ (n : Nat) (f : List Int),(tay r n f).length = n
  | 0,_=>rfl
  | n + 1,f=>by simp [tay,tay_len r n]
theorem tay_van {p r : Int} : ∀ (k n : Nat) (f : List Int),k ≤ n → (∀ j,j < k → (tay r n f).getD j 0 % p = 0) → Van p f r k
  | 0,_,_,_,_=>trivial
  | k + 1,0,_,h,_=>absurd h (by omega)
  | k + 1,n + 1,f,h,hj=>by
    refine ⟨?_,tay_van k n (pq r f) (by omega) fun j hj'=>?_⟩
    · have:=hj 0 (by omega)
      simpa [tay] using this
    · have:=hj (j + 1) (by omega)
      simpa [tay] using this
def scl (q : Int) : Int → List Int → List Int
  | _,[]=>[]
  | k,a :: f=>k * a :: scl q (k * q) f
theorem scl_len (q : Int) : ∀ (f : List Int) (k : Int),(scl q k f).length = f.length
  | [],_=>rfl
  | a :: f,k=>by simp [scl,scl_len q f]
theorem scl_ev (q y : Int) : ∀ (f : List Int) (k : Int),pev (scl q k f) y = k * pev f (q * y)
  | [],_=>by simp [scl,pev]
  | a :: f,k=>by
    have ih:=scl_ev q y f (k * q)
    simp only [scl,pev,ih]
    grind
theorem scl_get (q : Int) : ∀ (f : List Int) (k : Int) (j : Nat),(scl q k f).getD j 0 = k * q ^ j * f.getD j 0
  | [],_,j=>by simp [scl]
  | a :: f,k,0=>by simp [scl]
  | a :: f,k,j + 1=>by
    have ih:=scl_get q f (k * q) j
    simp only [scl,List.getD_cons_succ,ih,Int.pow_succ]
    generalize q ^ j = A
    generalize f.getD j 0 = B
    grind
theorem seen_get {f s : List Int} {r q : Int} (h : IsSeen f r q s) (j : Nat) : s.getD j 0 = q ^ j * (tay r f.length f).getD j 0:=by
  have e : s = scl q 1 (tay r f.length f):=by
    refine pev_inj (by rw [scl_len,tay_len]; exact h.len) fun y=>?_
    rw [h.ev,scl_ev,tay_ev r _ _ _ (Nat.le_refl _),Int.one_mul]
  rw [e,scl_get,Int.one_mul]
theorem pdiv_get {p : Int} {g : List Int} {c : Nat} (h : ∀ x,x ∈ g → x % p ^ c = 0) (j : Nat) : g.getD j 0 = p ^ c * (pdiv (p ^ c) g).getD j 0:=by
  have e:=pdiv_back h
  conv=>lhs; rw [e]
  rw [map_getD]
theorem seen_van {p r : Int} {f s : List Int} {c m : Nat} (hp : 2 ≤ p) (h : IsSeen f r p s) (hc : IsCont p s c) (hm : DegP p (pdiv (p ^ c) s) m) : Van p f r m:=by
  have hml : m < f.length:=by
    refine Nat.lt_of_not_le fun z=>hm.1 ?_
    rw [List.getD_eq_getElem?_getD,List.getElem?_eq_none (by rw [pdiv_len]; rw [h.len]; exact z)]
    simp
  have g : ∀ j,p ^ c * (pdiv (p ^ c) s).getD j 0 = p ^ j * (tay r f.length f).getD j 0:=fun j=>by
    rw [← pdiv_get hc.1,seen_get h]
  have hcm : m ≤ c:=by
    refine fac_le (p:=p) (u:=(pdiv (p ^ c) s).getD m 0) (v:=(tay r f.length f).getD m 0) hp ?_ hm.1
    have:=g m
    rw [Int.mul_comm,this,Int.mul_comm]
  refine tay_van m f.length f (by omega) fun j hj=>?_
  have e:=g j
  obtain ⟨d,rfl⟩ : ∃ d,c = j + (d + 1):=⟨c - j - 1,by omega⟩
  rw [pow_add',Int.mul_assoc] at e
  have q0:=pow_pos hp j
  have e2:=Int.eq_of_mul_eq_mul_left (show p ^ j ≠ 0 by omega) e
  rw [← e2,Int.pow_succ,Int.mul_assoc]
  exact dvd_mul_l _ (by simp)
theorem degP_ex {p : Int} : ∀ (g : List Int),(∃ x,x ∈ g ∧ x % p ≠ 0) → ∃ m,m < g.length ∧ DegP p g m
  | [],h=>by obtain ⟨x,hx,_⟩:=h; cases hx
  | a :: g,h=>by
    by_cases w : ∃ x,x ∈ g ∧ x % p ≠ 0
    · obtain ⟨m,hm,h1,h2⟩:=degP_ex g w
      refine ⟨m + 1,by simp; omega,by simpa using h1,fun j hj=>?_⟩
      cases j with
      | zero=>omega
      | succ j=>simpa using h2 j (by omega)
    · obtain ⟨x,hx,hn⟩:=h
      have hx' : x = a:=by
        rcases List.mem_cons.mp hx with z | z
        · exact z
        · exact absurd ⟨x,z,hn⟩ w
      subst hx'
      refine ⟨0,by simp,by simpa using hn,fun j hj=>?_⟩
      cases j with
      | zero=>omega
      | succ j=>
        simp only [List.getD_cons_succ]
        rw [List.getD_eq_getElem?_getD]
        cases e : g[j]? with
        | none=>simp
        | some y=>exact Decidable.byContradiction fun z=>w ⟨y,List.mem_of_getElem? e,z⟩
theorem cont_free {p : Int} {g : List Int} {c : Nat} (hc : IsCont p g c) : ∃ x,x ∈ pdiv (p ^ c) g ∧ x % p ≠ 0:=by
  obtain ⟨x,hx,hn⟩:=hc.2
  exact ⟨x / p ^ c,List.mem_map_of_mem hx,hn⟩
def Cnt (p : Int) (g : List Int) (k : Nat) : Prop:=(∀ c m,IsCont p g c → DegP p (pdiv (p ^ c) g) m → k ≤ max 1 m) ∧ k ≤ max 1 g.length
theorem Cnt.one (p : Int) (g : List Int) : Cnt p g 1:=⟨fun _ _ _ _=>by omega,by omega⟩
def Got (p : Int) (f : List Int) (rs : List Int) (k : Nat) : Prop:=∃ L : List (Int × Nat),L.map (·.1) = rs ∧ k ≤ total L ∧ ∀ rk,rk ∈ L → Van p f rk.1 rk.2
theorem Got.nil (p : Int) (f : List Int) : Got p f [] 0:=⟨[],rfl,by simp,fun _ h=>nomatch h⟩
theorem Got.more {p r : Int} {f s rs : List Int} {k l : Nat} (hp : 2 ≤ p) (h : Got p f rs k) (hr : pev f r % p = 0) (hs : IsSeen f r p s) (hl : Cnt p s l) (hz : (∀ x,x ∈ s → x = 0) → l ≤ 1) (hcex : (∃ x,x ∈ s ∧ x ≠ 0) → ∃ c,IsCont p s c) : Got p f (rs ++ [r]) (k + l):=by
  obtain ⟨L,e1,e2,e3⟩:=h
  obtain ⟨n,hn,hv⟩ : ∃ n,l ≤ n ∧ Van p f r n:=by
    by_cases w : ∃ x,x ∈ s ∧ x ≠ 0
    · obtain ⟨c,hc⟩:=hcex w
      obtain ⟨m,_,hm⟩:=degP_ex _ (cont_free hc)
      have v:=seen_van hp hs hc hm
      cases m with
      | zero=>exact ⟨1,hl.1 c 0 hc hm,hr,trivial⟩
      | succ m=>exact ⟨m + 1,by have:=hl.1 c (m + 1) hc hm; omega,v⟩
    · refine ⟨1,hz fun x hx=>Decidable.byContradiction fun z=>w ⟨x,hx,z⟩,hr,trivial⟩
  refine ⟨L ++ [(r,n)],by simp [e1],?_,fun rk h=>?_⟩
  · simp only [total,List.map_append,List.map_cons,List.map_nil,List.sum_append,List.sum_cons,List.sum_nil] at e2 ⊢
    omega
  · rcases List.mem_append.mp h with z | z
    · exact e3 rk z
    · rw [List.mem_singleton.mp z]
      exact hv
theorem Got.cnt {p : Int} {g : List Int} {rs : List Int} {c k : Nat} (hp : p ∈ primes) (hc : IsCont p g c) (h : Got p (pdiv (p ^ c) g) rs k) (hrs : rs.Pairwise (fun r s=>(s - r) % p ≠ 0)) : Cnt p g k:=by
  obtain ⟨L,e1,e2,e3⟩:=h
  have p2:=(primes_ge hp).1
  refine ⟨fun c' m hc' hm=>?_,?_⟩
  · cases hc.uniq p2 hc'
    have:=noughts hp m _ L hm (by rw [e1]; exact hrs) e3
    omega
  · obtain ⟨m,hml,hm⟩:=degP_ex _ (cont_free hc)
    have:=noughts hp m _ L hm (by rw [e1]; exact hrs) e3
    rw [pdiv_len] at hml
    omega
theorem Tree.depth {p a : Int} {e N : Nat} {f : List Int} {bs : List (Int × Nat)} (h : Tree p a e (fun x=>pev f x % p ^ N = 0) bs) (he : e ≤ N) : ∀ b,b ∈ bs → b.2 ≤ N:=by
  intro b hb
  rcases h.max b hb with z | ⟨x,hx,hn⟩
  · omega
  · refine Nat.le_of_not_lt fun z=>hn ?_
    have h1:=h.sound b hb b.1 (InB.self ..)
    have h2:=pev_cong f (dvd_of_le hx (show N ≤ b.2 - 1 by omega))
    have:=dvd_add_of h2 h1
    rwa [Int.sub_add_cancel] at this
theorem Tree.sub {p : Int} {Sol : Int → Prop} {bs cs : List (Int × Nat)} (hp : 2 ≤ p) (h : Tree p 0 0 Sol bs) (h' : Tree p 0 0 Sol cs) : ∀ b,b ∈ bs → b ∈ cs:=by
  intro b hb
  obtain ⟨c,hc,hi⟩:=h'.full b.1 (by simp [Int.emod_one]) (h.sound b hb b.1 (InB.self ..))
  have hi : (b.1 - c.1) % p ^ c.2 = 0:=hi
  have e : b.2 = c.2:=by
    refine Nat.le_antisymm (Nat.le_of_not_lt fun z=>?_) (Nat.le_of_not_lt fun z=>?_)
    · rcases h.max b hb with w | ⟨x,hx,hn⟩
      · omega
      · refine hn (h'.sound c hc x ?_)
        have:=dvd_add_of (dvd_of_le hx (show c.2 ≤ b.2 - 1 by omega)) hi
        rwa [show x - b.1 + (b.1 - c.1) = x - c.1 by omega] at this
    · rcases h'.max c hc with w | ⟨x,hx,hn⟩
      · omega
      · refine hn (h.sound b hb x ?_)
        have h1:=dvd_of_le hx (show b.2 ≤ c.2 - 1 by omega)
        have h2:=dvd_of_le hi (show b.2 ≤ c.2 by omega)
        have:=dvd_sub_of h1 h2
        rwa [show x - c.1 - (b.1 - c.1) = x - b.1 by omega] at this
  obtain ⟨_,b0,b1,_⟩:=h.ok b hb
  obtain ⟨_,c0,c1,_⟩:=h'.ok c hc
  rw [← e] at hi c1
  have e1 : b.1 = c.1:=by
    have:=of_rest hi
    rwa [Int.emod_eq_of_lt b0 b1,Int.emod_eq_of_lt c0 c1] at this
  have : b = c:=by
    cases b; cases c
    simp only at e e1
    rw [e,e1]
  rw [this]
  exact hc
def Lt2 (b c : Int × Nat) : Prop:=b.1 < c.1 ∨ (b.1 = c.1 ∧ b.2 < c.2)
theorem lt2_uniq : ∀ (bs cs : List (Int × Nat)),bs.Pairwise Lt2 → cs.Pairwise Lt2 → (∀ b,b ∈ bs ↔ b ∈ cs) → bs = cs
  | [],[],_,_,_=>rfl
  | [],c :: cs,_,_,h=>absurd ((h c).mpr (List.mem_cons_self ..)) (by simp)
  | b :: bs,[],_,_,h=>absurd ((h b).mp (List.mem_cons_self ..)) (by simp)
  | b :: bs,c :: cs,hb,hc,h=>by
    obtain ⟨hb1,hb2⟩:=List.pairwise_cons.mp hb
    obtain ⟨hc1,hc2⟩:=List.pairwise_cons.mp hc
    have irr : ∀ x : Int × Nat,¬ Lt2 x x:=fun x z=>by unfold Lt2 at z; omega
    have asym : ∀ x y : Int × Nat,Lt2 x y → ¬ Lt2 y x:=fun x y z w=>by unfold Lt2 at z w; omega
    have e : b = c:=by
      rcases List.mem_cons.mp ((h b).mp (List.mem_cons_self ..)) with z | z
      · exact z
      rcases List.mem_cons.mp ((h c).mpr (List.mem_cons_self ..)) with w | w
      · exact w.symm
      exact absurd (hc1 b z) (asym _ _ (hb1 c w))
    subst e
    congr 1
    refine lt2_uniq bs cs hb2 hc2 fun x=>⟨fun hx=>?_,fun hx=>?_⟩
    · rcases List.mem_cons.mp ((h x).mp (List.mem_cons_of_mem _ hx)) with z | z
      · subst z; exact absurd (hb1 _ hx) (irr _)
      · exact z
    · rcases List.mem_cons.mp ((h x).mpr (List.mem_cons_of_mem _ hx)) with z | z
      · subst z; exact absurd (hc1 _ hx) (irr _)
      · exact z
structure Solve (p : Int) (Sol : Int → Prop) (bs : List (Int × Nat)) : Prop where
  tree : Tree p 0 0 Sol bs
  inc : bs.Pairwise Lt2
theorem Solve.uniq {p : Int} {Sol Sol' : Int → Prop} {bs cs : List (Int × Nat)} (hp : 2 ≤ p) (h : Solve p Sol bs) (h' : Solve p Sol' cs) (e : ∀ x,Sol x ↔ Sol' x) : bs = cs:=by
  have : Sol = Sol':=funext fun x=>propext (e x)
  subst this
  exact lt2_uniq bs cs h.inc h'.inc fun b=>⟨h.tree.sub hp h'.tree b,h'.tree.sub hp h.tree b⟩
theorem Tree.perm {p a : Int} {e : Nat} {Sol : Int → Prop} {bs cs : List (Int × Nat)} (h : Tree p a e Sol bs) (hp : bs.Perm cs) : Tree p a e Sol cs:=by
  refine ⟨fun b hb=>h.ok b (hp.mem_iff.mpr hb),fun b hb=>h.sound b (hp.mem_iff.mpr hb),fun x hx sol=>?_,?_,fun b hb=>h.max b (hp.mem_iff.mpr hb)⟩
  · obtain ⟨b,hb,hi⟩:=h.full x hx sol
    exact ⟨b,hp.mem_iff.mp hb,hi⟩
  · exact hp.pairwise h.disj fun z x hx hx'=>z x hx' hx
theorem Tree.ne {p a : Int} {e : Nat} {Sol : Int → Prop} {bs : List (Int × Nat)} (h : Tree p a e Sol bs) : bs.Pairwise (· ≠ ·):=h.disj.imp fun {b c} z w=>by
  subst w
  exact z b.1 (InB.self ..) (InB.self ..)
end Dr
namespace Dr
def l1 : List Int → Nat
  | []=>0
  | a :: f=>a.natAbs + l1 f
theorem l1_padd : ∀ f g : List Int,l1 (padd f g) ≤ l1 f + l1 g
  | [],g=>by simp [padd,l1]
  | a :: f,[]=>by simp [padd,l1]
  | a :: f,b :: g=>by
    have:=l1_padd f g
    simp only [padd,l1]
    omega
theorem l1_map (k : Int) : ∀ f : List Int,l1 (f.map (k * ·)) = k.natAbs * l1 f
  | []=>by simp [l1]
  | a :: f=>by
    have:=l1_map k f
    simp only [List.map_cons,l1,this,Int.natAbs_mul]
    rw [Nat.mul_add]
theorem l1_mem : ∀ {f : List Int} {c : Int},c ∈ f → c.natAbs ≤ l1 f
  | a :: f,c,h=>by
    rcases List.mem_cons.mp h with z | z
    · rw [z]; simp only [l1]; omega
    · have:=l1_mem z
      simp only [l1]
      omega
def sn (r q : Int) : List Int → List Int
  | []=>[]
  | a :: f=>padd [a] (padd ((sn r q f).map (r * ·)) (0 :: (sn r q f).map (q * ·)))
theorem sn_len (r q : Int) : ∀ f : List Int,(sn r q f).length = f.length
  | []=>rfl
  | a :: f=>by
    have:=sn_len r q f
    simp only [sn,padd_len,List.length_map,List.length_cons,List.length_nil,this]
    omega
theorem sn_ev (r q y : Int) : ∀ f : List Int,pev (sn r q f) y = pev f (r + q * y)
  | []=>by simp [sn,pev]
  | a :: f=>by
    have:=sn_ev r q y f
    simp only [sn,padd_ev,pev,pev_map,this]
    grind
theorem sn_l1 {r q : Int} {m : Nat} : ∀ {f : List Int},PolyB f m → l1 (sn r q f) < 2 ^ m * (r.natAbs + q.natAbs + 1) ^ f.length
  | [],_=>by
    simp only [sn,l1,List.length_nil,Nat.pow_zero,Nat.mul_one]
    exact Nat.pow_pos (by decide)
  | a :: f,h=>by
    have ih:=sn_l1 (r:=r) (q:=q) (f:=f) fun c hc=>h c (List.mem_cons_of_mem _ hc)
    have ha : a.natAbs < 2 ^ m:=h a (List.mem_cons_self ..)
    have h1:=l1_padd [a] (padd ((sn r q f).map (r * ·)) (0 :: (sn r q f).map (q * ·)))
    have h2:=l1_padd ((sn r q f).map (r * ·)) (0 :: (sn r q f).map (q * ·))
    simp only [l1,l1_map,Int.natAbs_zero,Nat.zero_add,Nat.add_zero] at h1 h2
    have h3 : 0 < (r.natAbs + q.natAbs + 1) ^ f.length:=Nat.pow_pos (by omega)
    simp only [sn,List.length_cons,Nat.pow_succ]
    generalize (r.natAbs + q.natAbs + 1) ^ f.length = B at ih h3 ⊢
    generalize l1 (sn r q f) = L at ih h1 h2 ⊢
    have e : 2 ^ m * (B * (r.natAbs + q.natAbs + 1)) = (r.natAbs + q.natAbs) * (2 ^ m * B) + 2 ^ m * B:=by
      rw [← Nat.mul_assoc,Nat.mul_add,Nat.mul_one,Nat.mul_comm (2 ^ m * B)]
    rw [e]
    have h4 : (r.natAbs + q.natAbs) * L ≤ (r.natAbs + q.natAbs) * (2 ^ m * B):=Nat.mul_le_mul_left _ (Nat.le_of_lt ih)
    have h5 : 2 ^ m ≤ 2 ^ m * B:=Nat.le_mul_of_pos_right _ h3
    rw [Nat.add_mul] at h4
    omega
theorem seen_bits {f s : List Int} {r q : Int} {m : Nat} (h : IsSeen f r q s) (hr : 0 ≤ r ∧ r < 100) (hq : 0 ≤ q ∧ q < 100) (hb : PolyB f m) : PolyB s (m + 8 * f.length):=by
  have e : s = sn r q f:=pev_inj (by rw [sn_len]; exact h.len) fun y=>by rw [h.ev,sn_ev]
  intro c hc
  rw [e] at hc
  have h1:=l1_mem hc
  have h2:=sn_l1 (r:=r) (q:=q) hb
  unfold Sm
  rw [Nat.pow_add,Nat.pow_mul]
  refine Nat.lt_of_le_of_lt h1 (Nat.lt_of_lt_of_le h2 (Nat.mul_le_mul_left _ (Nat.pow_le_pow_left (by omega) _)))
theorem pdiv_bits {f : List Int} {q : Int} {m : Nat} (hq : 0 < q) (hf : ∀ x,x ∈ f → x % q = 0) (hb : PolyB f m) : PolyB (pdiv q f) m:=by
  intro c hc
  obtain ⟨x,hx,rfl⟩:=List.mem_map.mp hc
  have e:=Int.mul_ediv_add_emod x q
  rw [hf x hx,Int.add_zero] at e
  have h1:=hb x hx
  unfold Sm at *
  have h2 : x.natAbs = q.natAbs * (x / q).natAbs:=by rw [← Int.natAbs_mul,e]
  have h3 : 1 * (x / q).natAbs ≤ q.natAbs * (x / q).natAbs:=Nat.mul_le_mul_right _ (by omega)
  omega
theorem mul_pow_dv {p x : Int} {c N : Nat} (hp : 2 ≤ p) (hcN : c ≤ N) : (p ^ c * x) % p ^ N = 0 ↔ x % p ^ (N - c) = 0:=by
  obtain ⟨d,rfl⟩ : ∃ d,N = c + d:=⟨N - c,by omega⟩
  rw [Nat.add_sub_cancel_left,pow_add']
  have q0:=pow_pos hp c
  constructor
  · intro h
    obtain ⟨k,e⟩:=Int.dvd_of_emod_eq_zero h
    rw [Int.mul_assoc] at e
    rw [Int.eq_of_mul_eq_mul_left (by omega) e]
    simp
  · intro h
    obtain ⟨k,e⟩:=Int.dvd_of_emod_eq_zero h
    rw [e,← Int.mul_assoc]
    simp
structure Step (p a : Int) (e N c : Nat) (Sol : Int → Prop) (g : List Int) : Prop where
  cN : c < N
  non : ∃ x,(x - a) % p ^ e = 0 ∧ ¬ Sol x
  link : ∀ y,Sol (a + p ^ e * y) ↔ pev (pdiv (p ^ c) g) y % p ^ (N - c) = 0
theorem not_all {p a : Int} {e N : Nat} {Sol : Int → Prop} {g : List Int} (hl : ∀ y,Sol (a + p ^ e * y) ↔ pev g y % p ^ N = 0) (hn : ¬ ∀ y : Int,0 ≤ y → y < (g.length : Int) → pev g y % p ^ N = 0) : (∃ y,pev g y % p ^ N ≠ 0) ∧ (∃ x,x ∈ g ∧ x ≠ 0) ∧ 0 < N:=by
  have h1 : ∃ y,pev g y % p ^ N ≠ 0:=Classical.byContradiction fun z=>hn fun y _ _=>Decidable.byContradiction fun w=>z ⟨y,w⟩
  obtain ⟨y,hy⟩:=h1
  refine ⟨⟨y,hy⟩,Decidable.byContradiction fun z=>hy ?_,Nat.pos_of_ne_zero fun z=>hy ?_⟩
  · have : g = List.replicate g.length 0:=List.eq_replicate_iff.mpr ⟨rfl,fun b hb=>Decidable.byContradiction fun w=>z ⟨b,hb,w⟩⟩
    rw [this,pev_zeros]
    simp
  · rw [z,Int.pow_zero,Int.emod_one]
theorem pev_dv {M x : Int} : ∀ {g : List Int},(∀ c,c ∈ g → c % M = 0) → pev g x % M = 0
  | [],_=>by simp [pev]
  | a :: g,h=>by
    simp only [pev]
    exact dvd_add_of (h a (List.mem_cons_self ..)) (dvd_mul_l _ (pev_dv fun c hc=>h c (List.mem_cons_of_mem _ hc)))
theorem Step.mk' {p a : Int} {e N c : Nat} {Sol : Int → Prop} {g : List Int} (hp : 2 ≤ p) (hc : IsCont p g c) (hl : ∀ y,Sol (a + p ^ e * y) ↔ pev g y % p ^ N = 0) (hn : ∃ y,pev g y % p ^ N ≠ 0) : Step p a e N c Sol g:=by
  obtain ⟨y,hy⟩:=hn
  have cN : c < N:=Nat.lt_of_not_le fun z=>hy (pev_dv fun x hx=>dvd_of_le (hc.1 x hx) z)
  refine ⟨cN,⟨a + p ^ e * y,?_,fun z=>hy ((hl y).mp z)⟩,fun y=>?_⟩
  · rw [show a + p ^ e * y - a = p ^ e * y by omega]
    simp
  · rw [hl,pdiv_ev hc.1,mul_pow_dv hp (by omega)]
theorem Step.seen {p a r : Int} {e N c : Nat} {Sol : Int → Prop} {g s : List Int} (h : Step p a e N c Sol g) (hs : IsSeen (pdiv (p ^ c) g) r p s) : ∀ y,Sol (a + r * p ^ e + p ^ (e + 1) * y) ↔ pev s y % p ^ (N - c) = 0:=by
  intro y
  rw [hs.ev,← h.link]
  have : a + r * p ^ e + p ^ (e + 1) * y = a + p ^ e * (r + p * y):=by
    rw [Int.pow_succ]
    generalize p ^ e = A
    grind
  rw [this]
theorem Step.all {p a : Int} {e N c : Nat} {Sol : Int → Prop} {g : List Int} (hp : 2 ≤ p) (h : Step p a e N c Sol g) {x : Int} (hx : (x - a) % p ^ e = 0) (sol : Sol x) : ∃ r,(0 ≤ r ∧ r < p ∧ pev (pdiv (p ^ c) g) r % p = 0) ∧ (x - (a + r * p ^ e)) % p ^ (e + 1) = 0:=by
  obtain ⟨y,ey⟩:=Int.dvd_of_emod_eq_zero hx
  have e1 : x = a + p ^ e * y:=by omega
  rw [e1,h.link] at sol
  have s1 : pev (pdiv (p ^ c) g) y % p = 0:=by
    have:=dvd_of_le (p:=p) sol (show 1 ≤ N - c by have:=h.cN; omega)
    rwa [show p ^ 1 = p by rw [Int.pow_succ,Int.pow_zero,Int.one_mul]] at this
  refine ⟨y % p,⟨Int.emod_nonneg _ (by omega),Int.emod_lt_of_pos _ (by omega),?_⟩,?_⟩
  · have:=pev_cong (pdiv (p ^ c) g) (rest_sub p y)
    have:=dvd_add_of this s1
    rwa [Int.sub_add_cancel] at this
  · obtain ⟨k,ek⟩:=Int.dvd_of_emod_eq_zero (rest_sub p y)
    have : x - (a + y % p * p ^ e) = p ^ (e + 1) * -k:=by
      rw [e1,show y % p = y + p * k by omega,Int.pow_succ]
      generalize p ^ e = A
      grind
    rw [this]
    simp
theorem seen_dv {p r : Int} {f s : List Int} (h : IsSeen f r p s) (hr : pev f r % p = 0) : ∀ x,x ∈ s → x % p = 0:=by
  intro x hx
  obtain ⟨j,hj,e⟩:=List.getElem_of_mem hx
  have e1 : s.getD j 0 = x:=by rw [List.getD_eq_getElem?_getD,List.getElem?_eq_getElem hj,e]; rfl
  have g:=seen_get h j
  rw [e1] at g
  rw [g]
  cases j with
  | zero=>
    have hl : 0 < f.length:=by rw [← h.len]; omega
    cases hf : f.length with
    | zero=>omega
    | succ n=>
      simp only [tay,List.getD_cons_zero,Int.pow_zero,Int.one_mul]
      exact hr
  | succ j=>
    rw [Int.pow_succ,Int.mul_assoc]
    exact dvd_mul_l _ (by simp)
theorem ball_next {p a r : Int} {e : Nat} (hp : 2 ≤ p) (ha : 0 ≤ a ∧ a < p ^ e) (hr : 0 ≤ r ∧ r < p) : 0 ≤ a + r * p ^ e ∧ a + r * p ^ e < p ^ (e + 1):=by
  have q0:=pow_pos hp e
  rw [Int.pow_succ]
  generalize p ^ e = A at *
  have h1 : 0 ≤ r * A:=Int.mul_nonneg hr.1 (by omega)
  have h2 : (r + 1) * A ≤ p * A:=Int.mul_le_mul_of_nonneg_right (by omega) (by omega)
  rw [Int.add_mul,Int.one_mul] at h2
  rw [Int.mul_comm A p]
  omega
theorem rests_apart {p : Int} {n : Nat} (q : Int → Bool) (hn : (n : Int) ≤ p) : (((List.range n).map fun k : Nat=>(k : Int)).filter q).Pairwise (fun r s=>(s - r) % p ≠ 0):=by
  refine List.Pairwise.filter q ?_
  rw [List.pairwise_map]
  refine (List.pairwise_lt_range (n:=n)).imp_of_mem fun {i j} hi hj hij=>?_
  have h1:=List.mem_range.mp hi
  have h2:=List.mem_range.mp hj
  rw [Int.emod_eq_of_lt (by omega) (by omega)]
  omega
end Dr
namespace Dr
instance (p x : Int) (b : Int × Nat) : Decidable (InB p x b):=inferInstanceAs (Decidable ((x - b.1) % p ^ b.2 = 0))
def cntP (P : Int → Bool) : Nat → Nat
  | 0=>0
  | n + 1=>cntP P n + (if P (n : Int) = true then 1 else 0)
theorem cntP_congr {P Q : Int → Bool} : ∀ n : Nat,(∀ x : Int,0 ≤ x → x < (n : Int) → P x = Q x) → cntP P n = cntP Q n
  | 0,_=>rfl
  | n + 1,h=>by
    have e:=h (n : Int) (by omega) (by omega)
    simp only [cntP,cntP_congr n (fun x h0 h1=>h x h0 (by omega)),e]
theorem cntP_le {P Q : Int → Bool} (h : ∀ x,P x = true → Q x = true) : ∀ n : Nat,cntP P n ≤ cntP Q n
  | 0=>Nat.le_refl _
  | n + 1=>by
    have ih:=cntP_le h n
    simp only [cntP]
    by_cases z : P (n : Int) = true
    · rw [if_pos z,if_pos (h _ z)]
      omega
    · rw [if_neg z]
      omega
theorem cntP_all (n : Nat) : cntP (fun _=>true) n = n:=by
  induction n with
  | zero=>rfl
  | succ n ih=>simp only [cntP,ih,if_pos]
theorem cntP_or {P Q : Int → Bool} (h : ∀ x,P x = true → Q x = false) : ∀ n : Nat,cntP (fun x=>P x || Q x) n = cntP P n + cntP Q n
  | 0=>rfl
  | n + 1=>by
    have ih:=cntP_or h n
    simp only [cntP,ih]
    by_cases z : P (n : Int) = true
    · have z2:=h _ z
      rw [if_pos (by rw [z]; rfl),if_pos z,if_neg (by rw [z2]; decide)]
      omega
    · have z1 : P (n : Int) = false:=by simpa using z
      rw [if_neg z]
      by_cases y : Q (n : Int) = true
      · rw [if_pos (by rw [z1,y]; rfl),if_pos y]
        omega
      · rw [if_neg (by rw [z1,Bool.false_or]; exact y),if_neg y]
        omega
theorem cntP_add (P : Int → Bool) (m : Nat) : ∀ n : Nat,cntP P (m + n) = cntP P m + cntP (fun x=>P ((m : Int) + x)) n
  | 0=>rfl
  | n + 1=>by
    have ih:=cntP_add P m n
    rw [show m + (n + 1) = (m + n) + 1 by omega]
    simp only [cntP,ih]
    rw [show (((m + n : Nat)) : Int) = (m : Int) + (n : Int) by omega]
    omega
theorem cntP_one {a : Int} (ha : 0 ≤ a) : ∀ n : Nat,cntP (fun x=>decide (x = a)) n = if a < (n : Int) then 1 else 0
  | 0=>by simp [cntP]; omega
  | n + 1=>by
    have ih:=cntP_one ha n
    simp only [cntP,ih,decide_eq_true_eq]
    split <;> split <;> split <;> omega
theorem cntP_rest {q : Nat} {a : Int} (hq : 0 < q) (ha : 0 ≤ a ∧ a < (q : Int)) : ∀ k : Nat,cntP (fun x=>decide ((x - a) % (q : Int) = 0)) (q * k) = k
  | 0=>rfl
  | k + 1=>by
    have ih:=cntP_rest hq ha k
    rw [Nat.mul_succ,cntP_add,ih]
    congr 1
    have e : cntP (fun x=>decide ((((q * k : Nat) : Int) + x - a) % (q : Int) = 0)) q = cntP (fun x=>decide (x = a)) q:=cntP_congr q fun x h0 h1=>by
      refine decide_eq_decide.mpr ?_
      have e1 : (((q * k : Nat) : Int) + x - a) % (q : Int) = (x - a) % (q : Int):=by
        rw [Int.natCast_mul,show (q : Int) * (k : Int) + x - a = (x - a) + (q : Int) * (k : Int) by omega,Int.add_mul_emod_self_left]
      rw [e1]
      constructor
      · intro z
        obtain ⟨j,ej⟩:=Int.dvd_of_emod_eq_zero z
        have : j = 0:=by
          refine Decidable.byContradiction fun w=>?_
          rcases Int.lt_or_gt_of_ne w with w | w
          · have : (q : Int) * j ≤ (q : Int) * -1:=Int.mul_le_mul_of_nonneg_left (by omega) (by omega)
            omega
          · have : (q : Int) * 1 ≤ (q : Int) * j:=Int.mul_le_mul_of_nonneg_left (by omega) (by omega)
            omega
        rw [this] at ej
        omega
      · intro z
        rw [z]
        simp
    rw [e,cntP_one ha.1,if_pos ha.2]
theorem pow_nat {p : Int} (hp : 2 ≤ p) (n : Nat) : p ^ n = ((p.toNat ^ n : Nat) : Int):=by
  rw [Int.natCast_pow,Int.toNat_of_nonneg (by omega)]
theorem cnt_ball {p : Int} (hp : 2 ≤ p) {b : Int × Nat} {M : Nat} (hb : 0 ≤ b.1 ∧ b.1 < p ^ b.2) (hM : b.2 ≤ M) : cntP (fun x=>decide (InB p x b)) (p.toNat ^ M) = p.toNat ^ (M - b.2):=by
  obtain ⟨d,rfl⟩ : ∃ d,M = b.2 + d:=⟨M - b.2,by omega⟩
  rw [Nat.pow_add,Nat.add_sub_cancel_left]
  have hp0 : 0 < p.toNat ^ b.2:=Nat.pow_pos (by omega)
  rw [pow_nat hp] at hb
  refine Eq.trans (cntP_congr _ fun x _ _=>decide_eq_decide.mpr ?_) (cntP_rest hp0 hb (p.toNat ^ d))
  unfold InB
  rw [pow_nat hp]
def massOf (p : Int) (M : Nat) (bs : List (Int × Nat)) : Nat:=(bs.map fun b=>p.toNat ^ (M - b.2)).sum
def inAny (p : Int) (bs : List (Int × Nat)) (x : Int) : Bool:=bs.any fun b=>decide (InB p x b)
theorem inAny_iff {p : Int} {bs : List (Int × Nat)} {x : Int} : inAny p bs x = true ↔ ∃ b,b ∈ bs ∧ InB p x b:=by
  unfold inAny
  simp only [List.any_eq_true,decide_eq_true_eq]
theorem mass_cnt {p : Int} (hp : 2 ≤ p) {M : Nat} : ∀ {bs : List (Int × Nat)},bs.Pairwise (Disj p) → (∀ b,b ∈ bs → 0 ≤ b.1 ∧ b.1 < p ^ b.2 ∧ b.2 ≤ M) → cntP (inAny p bs) (p.toNat ^ M) = massOf p M bs
  | [],_,_=>by
    have : ∀ n,cntP (inAny p []) n = 0:=fun n=>by
      induction n with
      | zero=>rfl
      | succ n ih=>simp [cntP,ih,inAny]
    rw [this]
    rfl
  | b :: bs,hd,hb=>by
    obtain ⟨h1,h2⟩:=List.pairwise_cons.mp hd
    have ih:=mass_cnt hp h2 fun c hc=>hb c (List.mem_cons_of_mem _ hc)
    obtain ⟨b0,b1,b2⟩:=hb b (List.mem_cons_self ..)
    have e : cntP (inAny p (b :: bs)) (p.toNat ^ M) = cntP (fun x=>decide (InB p x b) || inAny p bs x) (p.toNat ^ M):=cntP_congr _ fun x _ _=>by simp [inAny]
    rw [e,cntP_or,ih,cnt_ball hp ⟨b0,b1⟩ b2]
    · rfl
    · intro x hx
      cases z : inAny p bs x with
      | false=>rfl
      | true=>
        obtain ⟨c,hc,hi⟩:=inAny_iff.mp z
        exact absurd hi (h1 c hc x (by simpa using hx))
theorem mass_cast {p : Int} (hp : 2 ≤ p) (M : Nat) (bs : List (Int × Nat)) : (bs.map fun b=>p ^ (M - b.2)).sum = ((massOf p M bs : Nat) : Int):=by
  induction bs with
  | nil=>rfl
  | cons b bs ih=>
    simp only [massOf,List.map_cons,List.sum_cons] at ih ⊢
    rw [ih,pow_nat hp]
    omega
theorem Tree.any {p : Int} {Sol : Int → Prop} {bs : List (Int × Nat)} (h : Tree p 0 0 Sol bs) (x : Int) : inAny p bs x = true ↔ Sol x:=by
  rw [inAny_iff]
  constructor
  · rintro ⟨b,hb,hi⟩
    exact h.sound b hb x hi
  · intro hs
    exact h.full x (by simp [Int.emod_one]) hs
theorem Tree.mass_le {p : Int} {Sol : Int → Prop} {bs : List (Int × Nat)} {M : Nat} (hp : 2 ≤ p) (h : Tree p 0 0 Sol bs) (hM : ∀ b,b ∈ bs → b.2 ≤ M) : massOf p M bs ≤ p.toNat ^ M:=by
  rw [← mass_cnt hp h.disj fun b hb=>⟨(h.ok b hb).2.1,(h.ok b hb).2.2.1,hM b hb⟩]
  exact Nat.le_trans (cntP_le (fun x _=>rfl) _) (Nat.le_of_eq (cntP_all _))
theorem disj_one {p x : Int} : ∀ {bs : List (Int × Nat)},bs.Pairwise (Disj p) → (bs.filter fun b=>decide (InB p x b)).length = if inAny p bs x = true then 1 else 0
  | [],_=>rfl
  | b :: bs,hd=>by
    obtain ⟨h1,h2⟩:=List.pairwise_cons.mp hd
    have ih:=disj_one (x:=x) h2
    by_cases z : InB p x b
    · have : inAny p bs x = false:=by
        cases w : inAny p bs x with
        | false=>rfl
        | true=>
          obtain ⟨c,hc,hi⟩:=inAny_iff.mp w
          exact absurd hi (h1 c hc x z)
      rw [this,if_neg (by simp)] at ih
      rw [List.filter_cons_of_pos (by simpa using z),List.length_cons,ih]
      have e : inAny p (b :: bs) x = true:=inAny_iff.mpr ⟨b,List.mem_cons_self ..,z⟩
      rw [e,if_pos rfl]
    · rw [List.filter_cons_of_neg (by simpa using z),ih]
      have e : inAny p (b :: bs) x = inAny p bs x:=by simp [inAny,z]
      rw [e]
theorem Tree.holders {p : Int} {Sol : Int → Prop} {bs : List (Int × Nat)} (h : Tree p 0 0 Sol bs) (x : Int) : (Sol x → (bs.filter fun b=>decide (InB p x b)).length = 1) ∧ (¬ Sol x → (bs.filter fun b=>decide (InB p x b)).length = 0):=by
  have e:=disj_one (x:=x) h.disj
  refine ⟨fun s=>?_,fun s=>?_⟩
  · rw [e,if_pos ((h.any x).mpr s)]
  · rw [e,if_neg fun z=>s ((h.any x).mp z)]
def Within (p : Int) (d b : Int × Nat) : Prop:=b.2 ≤ d.2 ∧ (d.1 - b.1) % p ^ b.2 = 0
instance (p : Int) (d b : Int × Nat) : Decidable (Within p d b):=inferInstanceAs (Decidable (_ ∧ _))
theorem Within.inb {p x : Int} {d b : Int × Nat} (h : Within p d b) (hx : InB p x d) : InB p x b:=by
  have:=dvd_add_of (dvd_of_le (show (x - d.1) % p ^ d.2 = 0 from hx) h.1) h.2
  rwa [show x - d.1 + (d.1 - b.1) = x - b.1 by omega] at this
theorem Tree.within {p : Int} {Sol Sol' : Int → Prop} {bs ds : List (Int × Nat)} (h : Tree p 0 0 Sol bs) (h' : Tree p 0 0 Sol' ds) (imp : ∀ x,Sol' x → Sol x) {d : Int × Nat} (hd : d ∈ ds) : ∀ b,b ∈ bs → (Within p d b ↔ InB p d.1 b):=by
  intro b hb
  constructor
  · intro w
    exact w.inb (InB.self ..)
  · intro hi
    refine ⟨Nat.le_of_not_lt fun z=>?_,hi⟩
    rcases h.max b hb with w | ⟨x,hx,hn⟩
    · omega
    · refine hn (imp x (h'.sound d hd x ?_))
      have h1:=dvd_of_le hx (show d.2 ≤ b.2 - 1 by omega)
      have h2:=dvd_of_le (show (d.1 - b.1) % p ^ b.2 = 0 from hi) (show d.2 ≤ b.2 by omega)
      have:=dvd_sub_of h1 h2
      rwa [show x - b.1 - (d.1 - b.1) = x - d.1 by omega] at this
end Dr
namespace Dr
def Stp (a b : Int × Int) : Prop:=a.2 * b.1 < b.2 * a.1
def Par (a b : Int × Int) : Prop:=a.2 * b.1 = b.2 * a.1
instance (a b : Int × Int) : Decidable (Stp a b):=inferInstanceAs (Decidable (_ < _))
instance (a b : Int × Int) : Decidable (Par a b):=inferInstanceAs (Decidable (_ = _))
end Dr
namespace Dr
end Dr
namespace Dr
end Dr
namespace Dr
theorem Tree.centre {p : Int} {Sol : Int → Prop} {bs : List (Int × Nat)} (h : Tree p 0 0 Sol bs) {b : Int × Nat} (hb : b ∈ bs) : Sol b.1:=h.sound b hb b.1 (InB.self ..)
end Dr
namespace Dr
end Dr
namespace Dr
end Dr
namespace Dr
def fath (p : Int) (b : Int × Nat) : Int × Nat:=(b.1 % p ^ (b.2 - 1),b.2 - 1)
theorem Tree.fathers {p : Int} {Sol : Int → Prop} {bs : List (Int × Nat)} (hp : 2 ≤ p) (h : Tree p 0 0 Sol bs) (F : Int × Nat) : (((bs.filter fun b=>decide (0 < b.2 ∧ fath p b = F)).length : Nat) : Int) < p:=by
  generalize ec : bs.filter (fun b=>decide (0 < b.2 ∧ fath p b = F)) = cs
  have mem : ∀ b,b ∈ cs → b ∈ bs ∧ b.2 = F.2 + 1 ∧ F.1 = b.1 % p ^ F.2:=fun b hb=>by
    rw [← ec,List.mem_filter,decide_eq_true_eq] at hb
    obtain ⟨h1,h2,h3⟩:=hb
    subst h3
    exact ⟨h1,by unfold fath; simp only; omega,rfl⟩
  cases cs with
  | nil=>simp only [List.length_nil]; omega
  | cons b0 cs0=>
    obtain ⟨m1,m2,m3⟩:=mem b0 (List.mem_cons_self ..)
    generalize b0 :: cs0 = cs at ec mem
    have q1:=pow_pos hp F.2
    have q2:=pow_pos hp (F.2 + 1)
    obtain ⟨x,hx,ns⟩ : ∃ x,(x - b0.1) % p ^ (b0.2 - 1) = 0 ∧ ¬ Sol x:=by
      rcases h.max b0 m1 with z | z
      · omega
      · exact z
    rw [m2,Nat.add_sub_cancel] at hx
    have dis : cs.Pairwise (Disj p):=by rw [← ec]; exact h.disj.sublist List.filter_sublist
    have okc : ∀ b,b ∈ cs → 0 ≤ b.1 ∧ b.1 < p ^ b.2 ∧ b.2 ≤ F.2 + 1:=fun b hb=>by
      obtain ⟨k1,k2,_⟩:=mem b hb
      obtain ⟨_,o2,o3,_⟩:=h.ok b k1
      exact ⟨o2,o3,by omega⟩
    have c1:=mass_cnt hp (M:=F.2 + 1) dis okc
    have c2 : massOf p (F.2 + 1) cs = cs.length:=by
      unfold massOf
      have : cs.map (fun b=>p.toNat ^ (F.2 + 1 - b.2)) = cs.map fun _=>1:=List.map_congr_left fun b hb=>by rw [(mem b hb).2.1,Nat.sub_self,Nat.pow_zero]
      rw [this]
      clear this c1 okc dis mem ec
      induction cs with
      | nil=>rfl
      | cons b cs ih=>simp only [List.map_cons,List.sum_cons,ih,List.length_cons]; omega
    have x0 : 0 ≤ x % p ^ (F.2 + 1):=Int.emod_nonneg _ (by omega)
    have x1 : x % p ^ (F.2 + 1) < p ^ (F.2 + 1):=Int.emod_lt_of_pos _ q2
    have x2:=rest_sub (p ^ (F.2 + 1)) x
    generalize x % p ^ (F.2 + 1) = y at x0 x1 x2
    have ny : inAny p cs y = false:=by
      rw [Bool.eq_false_iff]
      intro z
      obtain ⟨b,hb,hi⟩:=inAny_iff.mp z
      obtain ⟨k1,k2,_⟩:=mem b hb
      refine ns (h.sound b k1 x ?_)
      unfold InB at hi ⊢
      rw [k2] at hi ⊢
      have:=dvd_sub_of hi x2
      rwa [show y - b.1 - (y - x) = x - b.1 by omega] at this
    have c3:=cntP_or (P:=inAny p cs) (Q:=fun z=>decide (z = y)) (fun z hz=>decide_eq_false fun w=>by rw [w,ny] at hz; cases hz) (p.toNat ^ (F.2 + 1))
    rw [c1,c2,cntP_one x0,if_pos (by rw [← pow_nat hp]; exact x1)] at c3
    have c4:=cntP_le (P:=fun z=>inAny p cs z || decide (z = y)) (Q:=fun z=>decide (InB p z F)) (fun z hz=>by
      rw [decide_eq_true_eq]
      unfold InB
      rw [Bool.or_eq_true,decide_eq_true_eq] at hz
      rcases hz with w | w
      · obtain ⟨b,hb,hi⟩:=inAny_iff.mp w
        obtain ⟨k1,k2,k3⟩:=mem b hb
        unfold InB at hi
        rw [k2] at hi
        have e1:=dvd_of_le (p:=p) hi (Nat.le_succ F.2)
        have e2:=rest_sub (p ^ F.2) b.1
        rw [← k3] at e2
        have:=dvd_sub_of e1 e2
        rwa [show z - b.1 - (F.1 - b.1) = z - F.1 by omega] at this
      · subst w
        have e1:=dvd_of_le (p:=p) x2 (Nat.le_succ F.2)
        have e2:=rest_sub (p ^ F.2) b0.1
        rw [← m3] at e2
        have:=dvd_sub_of (dvd_add_of e1 hx) e2
        rwa [show z - x + (x - b0.1) - (F.1 - b0.1) = z - F.1 by omega] at this) (p.toNat ^ (F.2 + 1))
    rw [c3,cnt_ball hp ⟨by rw [m3]; exact Int.emod_nonneg _ (by omega),by rw [m3]; exact Int.emod_lt_of_pos _ q1⟩ (Nat.le_succ F.2),show F.2 + 1 - F.2 = 1 by omega,Nat.pow_one] at c4
    omega
end Dr
namespace Dr
def Un (p : Int) (F : List Int) : Prop:=0 < F.length ∧ ∀ y,pev F y % p ≠ 0
end Dr
namespace Dr
def vl (p : Int) (N : Nat) (β : Int → Int) (a : Int) (e : Nat) (w : Int × Int) : Int:=(a + p ^ e * (w.1 * β w.2)) % p ^ N
end Dr
namespace Dr
end Dr
namespace Dr
end Dr
namespace Dr
noncomputable def turn (p : Int) (b : Int) : Int:=Classical.epsilon fun y=>(b * y - 1) % p ^ 64 = 0
end Dr
namespace Dr
end Dr
namespace Dr
def PF (F : Int → Int) : Prop:=∃ k : List Int,∀ x,F x = pev k x
theorem PF.of (k : List Int) : PF (pev k):=⟨k,fun _=>rfl⟩
theorem PF.const (c : Int) : PF fun _=>c:=⟨[c],fun x=>by simp [pev]⟩
def Cg (q : Int) (F G : Int → Int) : Prop:=∃ K,PF K ∧ ∀ x,F x - G x = q * K x
theorem Cg.of_eq {q : Int} {F G : Int → Int} (h : ∀ x,F x = G x) : Cg q F G:=⟨fun _=>0,PF.const 0,fun x=>by rw [h,Int.sub_self,Int.mul_zero]⟩
theorem Cg.refl {q : Int} (F : Int → Int) : Cg q F F:=Cg.of_eq fun _=>rfl
def Cf (q : Int) (f g : List Int) : Prop:=∀ i,(f.getD i 0 - g.getD i 0) % q = 0
theorem getD_len {f : List Int} {i : Nat} (h : f.length ≤ i) : f.getD i 0 = 0:=by
  rw [List.getD_eq_getElem?_getD,List.getElem?_eq_none h]
  rfl
theorem Cf.take {p : Int} {f : List Int} {m : Nat} (h : ∀ j,m < j → f.getD j 0 % p = 0) : Cf p (f.take (m + 1)) f:=fun i=>by
  by_cases c : i < m + 1
  · have : (f.take (m + 1)).getD i 0 = f.getD i 0:=by
      rw [List.getD_eq_getElem?_getD,List.getD_eq_getElem?_getD,List.getElem?_take_of_lt c]
    rw [this,Int.sub_self]
    simp
  · rw [getD_len (by rw [List.length_take]; omega)]
    have:=dvd_mul_l (-1) (h i (by omega))
    rwa [show -1 * f.getD i 0 = 0 - f.getD i 0 by omega] at this
def Bez (p : Int) (g h : List Int) : Prop:=∃ s t : List Int,Cg p (fun x=>pev s x * pev g x + pev t x * pev h x) fun _=>1
end Dr
namespace Dr
structure May (p : Int) (N : Int) (f g h : List Int) : Prop where
  n : 1 ≤ N
  lg : 2 ≤ g.length
  lh : 2 ≤ h.length
  lf : f.length + 1 = g.length + h.length
  tf : f.getLast? = some 1
  tg : g.getLast? = some 1
  th : h.getLast? = some 1
  prod : Cg p (pev f) fun x=>pev g x * pev h x
end Dr
namespace Dr
def Inv (p : Int) (g h t : List Int) : Prop:=∃ s : List Int,Cg p (fun x=>pev t x * pev h x + pev s x * pev g x) fun _=>1
end Dr
namespace Dr
structure Good (p : Int) (f g h : List Int) : Prop where
  may : ∀ N,1 ≤ N → May p N f g h
  bez : Bez p g h
  lg : g.length = 2
  lh : 2 ≤ h.length ∧ h.length ≤ 3
end Dr
namespace Dr
end Dr
namespace Dr
def ws (rs : List Int) : List (Int × Int):=rs.map fun r=>(r,1)
theorem l1_pmul (g : List Int) : ∀ f : List Int,l1 (pmul f g) ≤ l1 f * l1 g
  | []=>by simp [pmul,l1]
  | [a]=>by
    have h1:=l1_padd (g.map (a * ·)) []
    rw [l1_map] at h1
    simp only [pmul,l1] at h1 ⊢
    rw [Nat.add_zero] at h1 ⊢
    exact h1
  | a :: b :: f=>by
    have ih:=l1_pmul g (b :: f)
    have h1:=l1_padd (g.map (a * ·)) (0 :: pmul (b :: f) g)
    rw [l1_map] at h1
    have h2 : l1 (0 :: pmul (b :: f) g) = l1 (pmul (b :: f) g):=by simp [l1]
    rw [h2] at h1
    show l1 (padd (g.map (a * ·)) (0 :: pmul (b :: f) g)) ≤ (a.natAbs + l1 (b :: f)) * l1 g
    rw [Nat.add_mul]
    omega
end Dr
namespace Dr
end Dr
namespace L2
open PySem PySem.Spec PyProof.Rows
section
variable {X : Cx}
theorem op_mulW : OpR X (binaryOp .Mult) (rI IntMulOk fun i j=>.int (i * j)):=opI fun _ _ _ _ _ _ _ hc q=>mul_int q hc
def CDivW (_ j : Int) : Prop:=0 < j ∧ j.natAbs.log2 < 9000
theorem op_fdivW : OpR X (binaryOp .FloorDiv) (rI CDivW fun i j=>.int (i / j)):=opI fun i j _ _ _ _ _ hc q=>by
  have h1 : (0 : Int) < j:=hc.1
  exact floordiv_int (by omega) (by rw [Int.fdiv_eq_ediv_of_nonneg i (by omega)]; exact q) (.inl (PyProof.noPylong_of_log2 hc.2))
end
def Itc (a c : Int) (n : Nat) : It:=⟨fun i _=>i < n,fun i H x H'=>H' = H ∧ x = .int (a + i * c),fun i _=>n ≤ i⟩
theorem turn_rangeC {P : Program} {w : World} {K : PySem.W.Frag} {tg : Expr} (it : Addr) (lo c : Int) (n : Nat) : Turn P w K tg (Itc lo c n) [it] it (fun i h=>IsRangeIter h it (lo + (i : Nat) * c) ((n : Int) - (i : Nat)) c) where
  mem:=by simp
  obj:=fun i h st b hb=>by
    have e : b = it:=by simpa using hb
    subst e
    exact ⟨_,st,fun v z=>by
      have z' : Data.fields _ = Data.cell v:=z
      cases z'⟩
  keep:=fun i h h' st k=>k it (by simp) _ st
  item:=by
    intro X hP hw hK hc i pins s σ H E I hf st hg
    subst hP hw hK
    obtain ⟨f0,f1,f2,f3,f4,f5⟩:=hf it (by simp)
    have W:=Walks.range (prog:=X.prog) (w:=X.w) (I.ok.hd hc) it lo c n
    refine W.item i s _ _ hg st fun v h' tk hv st' kk=>?_
    obtain ⟨t,rfl⟩:=hv
    have I1 : Inv X pins σ H { s with heap:=h',toks:=tk }:=I.turned (fun b o hb e=>kk b o (by simpa using hb) e) f0 f1 f3 f4 f5
    exact ⟨_,rfl,go_of (s:={ s with heap:=h',toks:=tk }) (n:="range_iterator") st' rfl rfl (by decide) ⟨.int (lo + i * c),H,I1,⟨t,rfl⟩,⟨rfl,rfl⟩,st',fun b hb=>(hf b hb).1⟩⟩
  done:=by
    intro X hP hw hK hc i pins s σ H E I hf st hg
    subst hP hw hK
    obtain ⟨f0,f1,f2,f3,f4,f5⟩:=hf it (by simp)
    exact wpAny_pyNext_range_end (I.ok.hd hc) st (by have : n ≤ i:=hg; omega) fun h' eb=>⟨rfl,I.turned (t':=s.toks) (fun b o hb e=>eb b o hb e) f0 f1 f3 f4 f5⟩
  self:=fun _ _ _ _ _ st h=>wpAny_pyIter_rangeiter st h
section
variable {X : Cx} {tg : Expr}
def turns (a b c : Int) : Nat:=if a < b then ((b - a - 1) / c + 1).toNat else 0
theorem rangeSize_pos {a b c : Int} (hc : 0 < c) : Builtin.Range.rangeSize a b c = ((turns a b c : Nat) : Int):=by
  unfold Builtin.Range.rangeSize turns
  rw [if_pos hc]
  split
  · have:=Int.ediv_nonneg (show 0 ≤ b - a - 1 by omega) (show 0 ≤ c by omega)
    omega
  · rfl
theorem small_c {a b c : Int} (ha : -(2 ^ 60) ≤ a) (ha' : a < 2 ^ 60) (hb : -(2 ^ 60) ≤ b) (hb' : b < 2 ^ 60) (hc : 0 < c) (hc' : c < 1000) : Builtin.Range.small a b c = true:=by
  have h1 : turns a b c < 2 ^ 62:=by
    unfold turns
    split
    · have:=Int.ediv_le_self (a:=b - a - 1) c (by omega)
      omega
    · decide
  have h2 : ((turns a b c : Nat) : Int) * c ≤ 2 ^ 61 + 2000:=by
    unfold turns
    split
    · have h0:=Int.ediv_nonneg (show 0 ≤ b - a - 1 by omega) (show 0 ≤ c by omega)
      rw [Int.toNat_of_nonneg (by omega),Int.add_mul,Int.one_mul]
      have:=Int.ediv_mul_le (b - a - 1) (show c ≠ 0 by omega)
      omega
    · simp
  unfold Builtin.Range.small
  rw [rangeSize_pos hc]
  simp only [Builtin.Range.rangeFitsLong,Bool.and_eq_true,Bool.or_eq_true,decide_eq_true_eq,beq_iff_eq,show c > 0 from hc,if_true]
  omega
theorem range_itC {pins : List (Addr × Obj)} {σ : St} {H : Hp} {s : Shared} {R : It → Hp → Prop} {E : Value → Shared → Prop} {lo hi c : Int} {t u v : Tok} {tk : Nat} (I : Inv X pins σ H s) (h1 : -(2 ^ 60) ≤ lo) (h2 : lo < 2 ^ 60) (h3 : -(2 ^ 60) ≤ hi) (h4 : hi < 2 ^ 60) (h5 : 0 < c) (h6 : c < 1000)
    (q : R (Itc lo c (turns lo hi c)) H) : wpAny (model X.prog X.w) X.A (pyIter (.ref s.heap.objs.size)) (PIE X pins σ tg R) E { s with heap:=s.heap.push { cls:=.type "range",data:=.fields #[.int lo t,.int hi u,.int c v] },toks:=tk }:=by
  refine wpAny_pyIter_range (IsRange.new ..) (small_c h1 h2 h3 h4 h5 h6) ?_
  have I1 : Inv X pins σ H { s with heap:=s.heap.push { cls:=.type "range",data:=.fields #[.int lo t,.int hi u,.int c v] },toks:=tk }:=I.kept fun b o e=>Heap.get?_push_of_some _ e
  refine ⟨(s.heap.push { cls:=.type "range",data:=.fields #[.int lo t,.int hi u,.int c v] }).objs.size,[(s.heap.push { cls:=.type "range",data:=.fields #[.int lo t,.int hi u,.int c v] }).objs.size],_,_,H,rfl,
    I1.kept (t':=tk) fun b o e=>Heap.get?_push_of_some _ e,turn_rangeC _ lo c (turns lo hi c),?_,fun b hb=>?_,q⟩
  · have e1 : lo + ((0 : Nat) : Int) * c = lo:=by simp
    have e2 : ((turns lo hi c : Nat) : Int) - ((0 : Nat) : Int) = Builtin.Range.rangeSize lo hi c:=by rw [rangeSize_pos h5]; simp
    show IsRangeIter _ _ (lo + ((0 : Nat) : Int) * c) (((turns lo hi c : Nat) : Int) - ((0 : Nat) : Int)) c
    rw [e1,e2]
    exact Heap.get?_push_size _ rfl
  · have e : b = (s.heap.push { cls:=.type "range",data:=.fields #[.int lo t,.int hi u,.int c v] }).objs.size:=by simpa using hb
    subst e
    exact I1.fpOk (Nat.le_refl _) (I1.hok.fresh (Nat.le_refl _))
def iRng3 (ta : TA) : TI:=fun σ H R=>ta σ H fun vs H1=>∃ i j c : Int,vs = [.int i,.int j,.int c] ∧ (-(2 ^ 60) ≤ i ∧ i < 2 ^ 60 ∧ -(2 ^ 60) ≤ j ∧ j < 2 ^ 60 ∧ 0 < c ∧ c < 1000) ∧ R (Itc i c (turns i j c)) H1
theorem pi_range3 {a : Expr} {es : List Expr} {ta : TA} {p pos : Pos} (hg : Gl X "range") (hm : X.mg "range" = none) (ha : PA X (a :: es) ta) (he : starEach (a :: es) X.env = (false,eval a X.env) :: starEach es X.env:=by rfl) (hpl : (backTo pos (starEach es X.env)).any (·.1) = false:=by rfl) :
    PI X tg (.Call (.Name "range" p) (a :: es) [] pos) (iRng3 ta):=by
  intro pins s σ H R I h
  refine Call_ (ld_blt I hg hm boot_range (PyProof.Rows.callWith_type1 (thn (ha pos pins s σ H _ I h) fun us s1 ⟨vs,H1,I1,r1,q1⟩=>?_) he hpl))
  obtain ⟨i,j,c,e,⟨q1,q2,q3,q4,q5,q6⟩,q⟩:=q1
  subst e
  cases r1 with
  | cons r rr=>
    cases rr with
    | cons r' rr=>
      cases rr with
      | cons r'' rr=>
        cases rr
        obtain ⟨t,rfl⟩:=r
        obtain ⟨t',rfl⟩:=r'
        obtain ⟨t'',rfl⟩:=r''
        exact call_range_3 (by omega) (range_itC I1 q1 q2 q3 q4 q5 q6 q) (.inl (PyProof.noPylong_small (by omega)))
end
theorem for_rangeC {lo c : Int} {n : Nat} {g : TG} {tb : TS} {D : Ends} {σ : St} {H : Hp} (Pv : Nat → St → Hp → Prop) (h0 : Pv 0 σ H)
    (hs : ∀ i σ H,i < n → Pv i σ H → g (.int (lo + i * c)) σ H fun σ2 H2=>tb { D with nx:=Pv (i + 1),ct:=Pv (i + 1),bk:=D.nx } σ2 H2) (hd : ∀ σ H,Pv n σ H → D.nx σ H) :
    ∃ W : Nat → Nat → St → Hp → Prop,(∃ m,W 0 m σ H) ∧ ∀ i m σ H,W i m σ H →
      ((Itc lo c n).stop i H ∧ D.nx σ H) ∨ ((Itc lo c n).go i H ∧ ∃ N : St → Hp → Prop,(∀ σ' H',N σ' H' → ∃ m',m' < m ∧ W (i + 1) m' σ' H') ∧ ∀ x H',(Itc lo c n).yld i H x H' → g x σ H' fun σ2 H2=>tb { D with nx:=N,ct:=N,bk:=D.nx } σ2 H2):=by
  refine ⟨fun i m σ H=>m = n - i ∧ i ≤ n ∧ Pv i σ H,⟨n,by simp,Nat.zero_le _,h0⟩,?_⟩
  rintro i m σ H ⟨rfl,hi,p⟩
  by_cases hlt : i < n
  · refine .inr ⟨hlt,Pv (i + 1),fun σ' H' p'=>⟨n - (i + 1),by omega,rfl,hlt,p'⟩,fun x H' y=>?_⟩
    obtain ⟨e,y⟩:=y
    subst e y
    exact hs i σ _ hlt p
  · have e : i = n:=by omega
    subst e
    exact .inl ⟨Nat.le_refl _,hd σ H p⟩
def clsV : V → Value
  | .ty n=>.type n
  | .ref a=>.ref a
  | _=>.none
def isCls : V → Bool
  | .ty _=>true
  | .ref _=>true
  | _=>false
section
variable {X : Cx}
theorem call_isinst : CallR X (.builtin "isinstance") (fun xs H Q=>∃ x y t b,xs = [x,y] ∧ isCls y = true ∧ TyOf X.K H x t ∧ PySem.W.kitOne X.K t (clsV y) = some b ∧ Q (.bl b) H):=by
  intro pins s σ H xs us Q I r h
  obtain ⟨x,y,t,b,rfl,hy,ty,e,q⟩:=h
  obtain ⟨u,w',rfl,rx,ry⟩:=vals2 r
  have ec : w' = clsV y:=by
    cases y <;> first
      | (simp [isCls] at hy; done)
      | exact ry
  subst ec
  exact isinst_ok I rx ty e fun tk=>⟨.bl b,H,I.tok tk,rfl,q⟩
mutual
inductive DatV (K : PySem.W.Frag) (H : Hp) : V → PyData → Prop
  | non : DatV K H .non .none
  | bl (b : Bool) : DatV K H (.bl b) (.bool b)
  | int (i : Int) : DatV K H (.int i) (.int i)
  | str (x : Str) : DatV K H (.str x) (.str x)
  | lst {a : Addr} {xs : List V} {ds : List PyData} : SqL K H a xs → DatVs K H xs ds → DatV K H (.ref a) (.list ds)
  | tup {a : Addr} {xs : List V} {ds : List PyData} : SqT K H a xs → DatVs K H xs ds → DatV K H (.ref a) (.tuple ds)
inductive DatVs (K : PySem.W.Frag) (H : Hp) : List V → List PyData → Prop
  | nil : DatVs K H [] []
  | cons {x : V} {d : PyData} {xs : List V} {ds : List PyData} : DatV K H x d → DatVs K H xs ds → DatVs K H (x :: xs) (d :: ds)
end
theorem DatVs.ints {K : PySem.W.Frag} {H : Hp} : ∀ ns : List Int,DatVs K H (ns.map V.int) (ns.map PyData.int)
  | []=>.nil
  | n :: r=>.cons (.int n) (DatVs.ints r)
variable {pins : List (Addr × Obj)} {σ : St} {H : Hp} {s : Shared}
mutual
theorem reads_of (I : Inv X pins σ H s) : ∀ {x : V} {d : PyData} {u : Value},DatV X.K H x d → RelV x u → ∃ as,Reads s.heap u d as
  | _,_,_,.non,r=>by cases r; exact ⟨_,.none⟩
  | _,_,_,.bl b,r=>by cases r; exact ⟨_,.bool b⟩
  | _,_,_,.int i,r=>by obtain ⟨t,rfl⟩:=r; exact ⟨_,.int i t⟩
  | _,_,_,.str x,r=>by obtain ⟨t,rfl⟩:=r; exact ⟨_,.str x t⟩
  | _,_,_,.lst h q,r=>by
    cases r
    obtain ⟨its,rv,pl,_⟩:=I.list h
    obtain ⟨o,ho,hc,n,hd⟩:=pl.isList
    obtain ⟨as,ra⟩:=readsAll_of I q rv
    exact ⟨_,.list ho hc hd (by simpa using ra)⟩
  | _,_,_,.tup h q,r=>by
    cases r
    obtain ⟨its,rv,pl,_⟩:=I.tuple h
    obtain ⟨o,ho,hc,n,hd⟩:=pl
    obtain ⟨as,ra⟩:=readsAll_of I q rv
    exact ⟨_,.tuple ho hc hd (by simpa using ra)⟩
theorem readsAll_of (I : Inv X pins σ H s) : ∀ {xs : List V} {ds : List PyData} {us : List Value},DatVs X.K H xs ds → Vals xs us → ∃ as,ReadsAll s.heap us ds as
  | _,_,_,.nil,r=>by cases r; exact ⟨_,.nil⟩
  | _,_,_,.cons h q,r=>by
    cases r with
    | cons r rr=>
      obtain ⟨as,ra⟩:=reads_of I h r
      obtain ⟨bs,rb⟩:=readsAll_of I q rr
      exact ⟨_,.cons ra rb⟩
end
def rEqD (K : PySem.W.Frag) (neg : Bool) : R2:=fun x y H Q=>∃ d e,DatV K H x d ∧ DatV K H y e ∧ SeqAt.shaped d = true ∧ SeqAt.shaped e = true ∧ Q (.bl (if neg then !PyData.eqv d e else PyData.eqv d e)) H
theorem op_neD (hu : X.A.units + 64 < cLine) : OpR X (compareOp .NotEq) (rEqD X.K true):=by
  intro pins s σ H x y v u Q I rx ry h
  obtain ⟨d,e,hd,he,sd,se,q⟩:=h
  obtain ⟨as,ra⟩:=reads_of I hd rx
  obtain ⟨bs,rb⟩:=reads_of I he ry
  exact ne_dataH ra rb sd se hu (fin_bl I q rfl)
theorem eqvAll_ints : ∀ ns ms : List Int,PyData.eqvAll (ns.map PyData.int) (ms.map PyData.int) = decide (ns = ms)
  | [],[]=>by simp [PyData.eqvAll]
  | [],_ :: _=>by simp [PyData.eqvAll]
  | _ :: _,[]=>by simp [PyData.eqvAll]
  | a :: r,b :: t=>by
    simp only [List.map_cons,PyData.eqvAll,PyData.eqv,eqvAll_ints r t]
    by_cases h : a = b <;> by_cases h' : r = t <;> simp [h,h']
end
end L2
namespace Att
open PySem PySem.W PySem.Calls PyProof.Rows
theorem bits_of_lay {ns : List Int} (h : WData.layableAll [WData.list (ns.map WData.int)] = true) : ∀ n,n ∈ ns → Builtin.Int.intBits n ≤ 2 ^ 20:=fun n hn=>by
  have h1:=layableW_arg h _ (List.mem_singleton.mpr rfl)
  have h2:=layableW_item h1 (.int n) (List.mem_map.mpr ⟨n,hn,rfl⟩)
  have h3:=(layableW_iff.mp h2).2.2
  simpa only [WData.weight,Builtin.Int.intBits] using h3
theorem attach_callB {l : OpenLaw} {n : Nat} {q : Program} {loose : List Str} {XP : (Str → Option Value) → Heap → Prop} {YP : World → Heap → Prop} {d : DefRec}
    (hn : l.most = some n) (hdf : d.params.defaults = [])
    (call : ∀ (w : World) (s₀ s₁ : Shared) (mg mb : Str → Option Value) (fa : Addr) (o : Obj) (pm cd doc : Value) (a : Addr) (vs : List Value) (ns : List Int),
      Ground q loose [] XP w s₀ mg mb s₁.heap → YP w s₁.heap →
      s₁.heap.get? fa = some o → o.data = .func (docDef d.name d.params d.body d.scope pm cd doc) → s₁.heap.CodeRec cd d.name → mg d.name = some (.ref fa) →
      s₁.heap.get? a = some { cls:=.type "list",data:=.seq vs.toArray } → IntsAre vs ns → ns.length ≤ n → (∀ n,n ∈ ns → Builtin.Int.intBits n ≤ 2 ^ 20) → s₁.gens = #[] →
      codeAny (model l.prog w) callerA (.call (.ref fa) ⟨[.ref a],[]⟩) (fun r s'=>r = .ok (.ret (.bool true)) ∧ OldK s₁.heap s'.heap ∧ s'.os = s₁.os ∧ AllBare s'.gens) s₁) :
    WalkO q loose XP YP l.row.toRowW d [] (fun f vs=>PySem.call f vs):=by
  intro w s₀ s₁ mg mb G Y fa o pm cd doc dV kV ho hd hcd hD hmg hg args vals as hpre hlay hrd hwl hlo
  obtain rfl : dV = .none:=Dflts.none hD hdf
  obtain rfl : kV = .none:=Dflts.noKw hD
  obtain ⟨a,vs,ns,rfl,rfl,hobj,hints,hlen⟩:=script_of hn hpre hwl
  refine enter_call (codeAny_mono (call w s₀ s₁ mg mb fa o pm cd doc a vs ns G Y ho (fd_plain hd) hcd hmg hobj hints hlen (bits_of_lay hlay) hg) fun r s' hq=>?_)
  obtain ⟨rfl,h2,h3,h4⟩:=hq
  exact ⟨.inl ⟨.bool true,.bool true,[],rfl,fun _=>rfl,.bool true,post_true l _,fun _=>⟨List.Pairwise.nil,fun _ hm=>(nomatch hm)⟩⟩,h2,h3,h4⟩
end Att
namespace L2
open PySem PySem.Spec PyProof.Rows
def spLaw (K : PySem.W.Frag) : Sp:=fun vs H Q _=>∃ (a : Addr) (ns : List Int),vs = [.ref a] ∧ SqL K H a (ns.map V.int) ∧ ns.length ≤ 63 ∧ (∀ n,n ∈ ns → Builtin.Int.intBits n ≤ 2 ^ 20) ∧ ∀ H',Q (.bl true) H'
theorem walk_law {l : PySem.W.OpenLaw} {k : Nat} {q : Program} {loose : List Str} {XP : (Str → Option Value) → Heap → Prop} {YP : World → Heap → Prop} {d : DefRec} {K : Params → PySem.W.Frag} {CX : World → CXT}
    (hn : l.most = some 63) (hdf : d.params.defaults = []) (hr : Room k callerA)
    (hY : ∀ (w : World) (h : Heap),YP w h → (K w.params).In h)
    (hCX : ∀ (w : World) (H : Hp) (s : Shared) (e : Value) (s' : Shared),CX w [] H s (fun _ _ _=>False) e s' → False)
    (F : ∀ (w : World) (mg : Str → Option Value) (fa : Addr) (h : Heap),(K w.params).In h → h.Ns mainGlobals mg → mg d.name = some (.ref fa) →
      ∃ fd : FuncData,(∀ (s : Shared) (u : Value),BindsTo s fd ⟨[u],[]⟩ [("script",u)]) ∧
        ∀ base : Heap,(K w.params).In base → base.Ns mainGlobals mg → FnOk l.prog w (K w.params) mg base (CX w) k fa fd ["script"] (spLaw (K w.params))) :
    PySem.W.WalkO q loose XP YP l.row.toRowW d [] (fun f vs=>PySem.call f vs):=by
  refine Att.attach_callB hn hdf fun w s₀ s₁ mg mb fa o pm cd doc a vs ns G Y ho hd hcd hmg hobj hints hlen hbits hg=>?_
  have KX:=hY w _ Y
  obtain ⟨fd,hb,hF⟩:=F w mg fa _ KX G.T.g hmg
  exact law_call KX G.T.g G.T.b G.T.builtins G.T.nolimit hg hobj hints (Nat.le_trans hlen (by decide)) hr hF hb (fun H hO hS=>⟨a,ns,rfl,hS,hlen,hbits,fun _=>rfl⟩) fun H e s'=>hCX w H s₁ e s'
end L2
namespace L2
open PySem PySem.Spec PyProof.Rows
theorem adr {a b : Addr} (h : @Ne Nat a b) : a ≠ b:=h
theorem ltN {h : Heap} {b : Addr} {o : Obj} (e : h.get? b = some o) : @LT.lt Nat instLTNat b h.objs.size:=Heap.lt_size e
def ClOk (cells : List (Str × Addr)) : List (Str × Addr) → Prop
  | []=>True
  | y :: r=>cells.lookup y.1 = some y.2 ∧ ClOk cells r
theorem ClOk.get {cells : List (Str × Addr)} : ∀ {cl : List (Str × Addr)},ClOk cells cl → ∀ {x : Str} {c : Addr},cl.lookup x = some c → cells.lookup x = some c
  | (y,d) :: r,⟨h,hr⟩,x,c,e=>by
    by_cases q : x = y
    · subst q
      simp only [List.lookup_cons,beq_self_eq_true] at e
      cases e
      exact h
    · have q' : (x == y) = false:=by simpa using q
      simp only [List.lookup_cons,q'] at e
      exact ClOk.get hr e
def CapsOk (X : Cx) (sc : Scope) (cl : List (Str × Addr)) : List Nat → List Str → Prop
  | [],[]=>True
  | j :: js,x :: xs=>X.N[j]? = some x ∧ X.env.scope.names.lookup x = some .cell ∧ sc.names.lookup x = some .cell ∧ (cl.lookup x).isSome = true ∧ CapsOk X sc cl js xs
  | _,_=>False
def capV (caps : List Nat) (σ : St) : St:=caps.map fun j=>(σ[j]?).getD none
def compCx (X : Cx) (N : List Str) (scope : Scope) (cl : List (Str × Addr)) (C : Addr) (s : Shared) (H : Hp) (fp : List Addr) : Cx where
  prog:=X.prog
  w:=X.w
  K:=X.K
  mg:=X.mg
  base:=X.base
  A:=X.A
  N:=N
  s₀:=s
  H₀:=H
  env:=compEnvC scope cl C X.env
  outer:=X.stack
  stack:=X.stack
  ex:=fp
  fn:=fun _=>false
  calm:=X.calm
  pn:=[]
  xe:=fun _ _=>False
theorem mem_of_lookup {α : Type} {x : Str} {k : α} : ∀ {l : List (Str × α)},l.lookup x = some k → (x,k) ∈ l
  | (y,j) :: r,e=>by
    by_cases q : x = y
    · subst q
      simp only [List.lookup_cons,beq_self_eq_true] at e
      cases e
      exact .head _
    · have q' : (x == y) = false:=by simpa using q
      simp only [List.lookup_cons,q'] at e
      exact .tail _ (mem_of_lookup e)
section
variable {X : Cx} {pins : List (Addr × Obj)} {σ : St} {H : Hp} {s : Shared} {N : List Str} {scope : Scope} {cl : List (Str × Addr)} {C : Addr} {fp : List Addr} {caps : List Nat} {xs : List Str}
theorem comp_ok (I : Inv X pins σ H s) (hcl : ClOk X.env.cells cl) (hk : scope.kind = .function) (hfp : ∀ b ∈ fp,FpOk X pins H b) (hlt : ∀ b ∈ fp,b < s.heap.objs.size)
    (hhas : ((relabel scope X.env).names.all fun y=>!(y.2 == .cell || y.2 == .free) || (cl.lookup y.1).isSome) = true) (hC : s.heap.objs.size ≤ C) : (compCx X N scope cl C s H fp).Ok where
  mod:=I.ok.mod
  kind:=hk
  glob:=I.ok.glob
  blt:=I.ok.blt
  above:=hC
  inj:=fun x y c h1 h2=>I.ok.inj x y c (hcl.get h1) (hcl.get h2)
  has:=fun x h=>by
    have key : ∀ k : NameKind,(k = .cell ∨ k = .free) → (relabel scope X.env).names.lookup x = some k → ∃ c,cl.lookup x = some c:=fun k hk e=>by
      have h1:=List.all_eq_true.mp hhas _ (mem_of_lookup e)
      have h2 : (cl.lookup x).isSome = true:=by
        rcases hk with rfl | rfl <;> simpa using h1
      exact Option.isSome_iff_exists.mp h2
    rcases h with h | h
    · exact key _ (.inl rfl) h
    · exact key _ (.inr rfl) h
  cab:=fun x c h=>by cases h
  hd:=I.ok.hd
  frames:=I.ok.frames
  stk:=.inl rfl
  exf:=fun b hb=>⟨fun z=>by
      have h1 : @LT.lt Nat instLTNat b s.heap.objs.size:=hlt b hb
      have z' : @Eq Nat b C:=z
      have hC' : @LE.le Nat _ s.heap.objs.size C:=hC
      omega,fun x c e=>(hfp b hb).2.2.2.2.1 x c (hcl.get e)⟩
  bs:=I.bs
  bsz:=Nat.le_trans I.ok.bsz I.sz
  noex:=fun b o e hb=>by
    rcases (hfp b hb).2.2.2.1 with z | z
    · exact I.ok.noex b o e z
    · have h1 : @LT.lt Nat _ b X.base.objs.size:=Heap.lt_size e
      have h2:=I.ok.bsz
      have z' : @LE.le Nat _ X.s₀.heap.objs.size b:=z
      omega
  exfs:=fun b hb z=>by
    have h1:=I.stkSub b z
    rcases List.mem_cons.mp h1 with q | q
    · exact (hfp b hb).2.1 q
    · exact (hfp b hb).2.2.1 q
  funs:=I.stack
  frf:=I.stkFree
theorem cap_get : ∀ {caps : List Nat} {xs : List Str},CapsOk X (relabel scope X.env) cl caps xs → ∀ {i : Nat} {x : Str} {v : V},xs[i]? = some x → (capV caps σ)[i]? = some (some v) →
    ∃ j : Nat,X.N[j]? = some x ∧ σ[j]? = some (some v) ∧ X.env.scope.names.lookup x = some .cell ∧ (relabel scope X.env).names.lookup x = some .cell ∧ ∃ c,cl.lookup x = some c
  | [],[],_,i,x,v,h,_=>by simp at h
  | j :: js,y :: ys,⟨h1,h2,h3,h4,hr⟩,0,x,v,h,e=>by
    simp only [List.getElem?_cons_zero,Option.some.injEq] at h
    subst h
    have e' : (σ[j]?).getD none = some v:=by simpa [capV] using e
    refine ⟨j,h1,?_,h2,h3,Option.isSome_iff_exists.mp h4⟩
    cases q : σ[j]? with
    | none=>rw [q] at e'; cases e'
    | some o=>rw [q] at e'; exact congrArg some e'
  | j :: js,y :: ys,⟨_,_,_,_,hr⟩,i + 1,x,v,h,e=>cap_get hr (by simpa using h) (by simpa [capV] using e)
theorem comp_start (I : Inv X pins σ H s) (hcl : ClOk X.env.cells cl) (hk : scope.kind = .function) (hfp : ∀ b ∈ fp,FpOk X pins H b) (hlt : ∀ b ∈ fp,b < s.heap.objs.size)
    (hhas : ((relabel scope X.env).names.all fun y=>!(y.2 == .cell || y.2 == .free) || (cl.lookup y.1).isSome) = true) (hC : s.heap.objs.size ≤ C)
    (hcap : CapsOk X (relabel scope X.env) cl caps xs) (hlen : caps.length = xs.length) {x : Str} {h₁ : Heap} {t : Nat} {m : Str → Option Value} (hn : h₁.Ns C m) (kp : ∀ b o,s.heap.get? b = some o → h₁.get? b = some o) :
    Inv (compCx X (x :: xs) scope cl C s H fp) [] (none :: capV caps σ) H { s with heap:=h₁,toks:=t } where
  ok:=comp_ok I hcl hk hfp hlt hhas hC
  os:=rfl
  bare:=I.bare
  base:=Un.kept kp
  loc:=by
    refine ⟨m,hn,fun i y v h1 h2 _=>?_⟩
    cases i with
    | zero=>simp at h2
    | succ i=>
      obtain ⟨j,e1,e2,e3,e4,c,e5⟩:=cap_get (X:=X) (scope:=scope) hcap (i:=i) (by simpa [compCx] using h1) (by simpa using h2)
      obtain ⟨m₀,_,hl⟩:=I.loc
      obtain ⟨u,r,lk⟩:=hl j y v e1 e2 (.inr (.inl e3))
      refine ⟨u,r,.inr ⟨.inl e4,c,e5,?_⟩⟩
      rcases lk with ⟨z,_⟩ | ⟨_,c',q1,q2⟩
      · have z' : X.env.scope.names.lookup y = some .local:=z
        rw [e3] at z'
        cases z'
      · rw [hcl.get e5] at q1
        cases q1
        obtain ⟨o,ho,hd⟩:=q2
        exact ⟨o,kp _ _ ho,hd⟩
  cell:=fun y c e=>by
    obtain ⟨v,o,ho,hd⟩:=I.cell y c (hcl.get e)
    exact ⟨v,o,kp _ _ ho,hd⟩
  free:=I.hok.fresh hC
  freeC:=fun y c e=>I.freeC y c (hcl.get e)
  pin:=fun p hp=>by
    have hp' : p ∈ ([] : List (Addr × Obj)):=hp
    cases hp'
  hok:=I.hok.kept kp
  len:=by simp [compCx,capV,hlen]
end
def PTs (X : Cx) (ifs : List Expr) (t : TT) : Prop:=
  ∀ (pins : List (Addr × Obj)) (s : Shared) (σ : St) (H : Hp) (Q : Bool → Hp → Prop),Inv X pins σ H s → t σ H Q →
    wpAny (model X.prog X.w) X.A (forIn ifs true fun c r=>if r = true then do let ok ← isTrue c X.env (eval c X.env); pure (ForInStep.yield ok) else pure (ForInStep.yield r)) (TP X pins σ Q) X.xe s
theorem pts_nil {X : Cx} : PTs X [] (fun _ H Q=>Q true H):=fun _ _ _ H _ I h=>wpAny_tests_nil ⟨H,I,h⟩
theorem pts_one {X : Cx} {c : Expr} {t : TT} (h : PT X c t) : PTs X [c] t:=fun pins s σ H Q I q=>wpAny_tests_one (h pins s σ H Q I q)
def tComp (caps : List Nat) (wi : TI) (tt : TT) (te : TE) : TE:=fun σ H Q=>wi σ H fun J H1=>∃ (n : Nat) (W : Nat → List V → Hp → Prop),n ≤ sizeLine ∧ W 0 [] H1 ∧ ∀ i ys H2,W i ys H2 →
  (J.stop i H2 ∧ ∀ p,H2 p = none → Q (.ref p) (upd H2 p (.lst ys))) ∨
  (J.go i H2 ∧ i < n ∧ ∀ x H3,J.yld i H2 x H3 → tt (some x :: capV caps σ) H3 fun b H4=>if b = true then te (some x :: capV caps σ) H4 fun v H5=>W (i + 1) (ys ++ [v]) H5 else W (i + 1) ys H4)
section
variable {prog : Program} {w : World} {A : Around} {R : Result → Shared → Prop} {s : Shared}
theorem comp_loop {elt target iter : Expr} {ifs : List Expr} {scope : Scope} {pos : Pos} {it acc : Value} {env : Env} (I : Nat → Shared → Prop)
    (turn : ∀ n s,I n s → wpAny (model prog w) A (pyNext it) (fun r s₁=>match r with
      | none=>R (.ok .next) s₁
      | some v=>wpAny (model prog w) A (letOwnedTupleGo target it v) (fun _ s₁=>wpAny (model prog w) A (assign target env v) (fun _ s₂=>
          wpAny (model prog w) A (forIn ifs true fun c r=>if r = true then do let ok ← isTrue c env (eval c env); pure (ForInStep.yield ok) else pure (ForInStep.yield r)) (fun ok s₃=>
            if ok = true then wpAny (model prog w) A (eval elt env) (fun x s₄=>
              wpAny (model prog w) A (call (.builtin "list.append") [acc,x]) (fun _ s₅=>∃ m,m < n ∧ I m s₅) (fun _ _=>False) s₄) (fun _ _=>False) s₃
            else ∃ m,m < n ∧ I m s₃) (fun _ _=>False) s₂) (fun _ _=>False) s₁) (fun _ _=>False) s₁) (fun _ _=>False) s)
    (n : Nat) (h : I n s) :
    codeAny (model prog w) A (.compLoop (.ListComp elt [⟨target,iter,ifs,0⟩] scope pos) 0 it acc env) R s:=by
  refine codeAny_loop rfl I (fun n s hI=>?_) n h
  show wpAny _ A ((compTurn (.ListComp elt [⟨target,iter,ifs,0⟩] scope pos) 0 it acc env).onRaise (fun x=>do noteFrame x env; theTreesLotGoes x)) _ _ s
  refine wpAny_noted ?_
  rw [compTurn_list]
  refine wpAny_bind (wpAny_standAt (wpAny_bind (wpAny_mono (turn n s hI) (fun r s₁ h₁=>?_) fun _ _ h'=>h'.elim)))
  cases r with
  | none=>exact wpAny_pure h₁
  | some v=>
    refine wpAny_bind (wpAny_mono h₁ (fun _ s₁ h₁=>?_) fun _ _ h'=>h'.elim)
    refine wpAny_bind (wpAny_mono h₁ (fun _ s₂ h₂=>wpAny_bind (wpAny_mono h₂ (fun ok s₃ h₃=>?_) fun _ _ h'=>h'.elim)) fun _ _ h'=>h'.elim)
    cases ok with
    | false=>exact wpAny_pure ⟨rfl,h₃⟩
    | true=>
      exact wpAny_bind (wpAny_bind (wpAny_mono h₃ (fun x s₄ h₄=>wpAny_bind (wpAny_mono h₄ (fun _ s₅ h₅=>wpAny_pure (wpAny_pure ⟨rfl,h₅⟩)) fun _ _ h'=>h'.elim)) fun _ _ h'=>h'.elim))
end
def Loose (X : Cx) (pins : List (Addr × Obj)) (H : Hp) (C : Addr) : Prop:=
  H C = none ∧ C ≠ X.env.locals ∧ X.s₀.heap.objs.size ≤ C ∧ (∀ x c,X.env.cells.lookup x = some c → c ≠ C) ∧ ∀ p ∈ X.pn ++ pins,p.1 ≠ C
theorem Inv.letGo {X : Cx} {pins : List (Addr × Obj)} {σ : St} {H : Hp} {s : Shared} {C : Addr} {h' : Heap} (I : Inv X pins σ H s) (l : Loose X pins H C) (k : Heap.SameBut C s.heap h') : Inv X pins σ H { s with heap:=h' }:=
  I.turned (it:=C) (t':=s.toks) (fun b o hb e=>k.extBut b o hb e) l.1 l.2.1 (.inr l.2.2.1) l.2.2.2.1 l.2.2.2.2
section
variable {X : Cx}
theorem comp_block {elt iter : Expr} {x : Str} {px pos : Pos} {ifs : List Expr} {scope : Scope} {cl : List (Str × Addr)} {caps : List Nat} {xs : List Str} {tt : TT} {te : TE}
    (hc : X.calm = true) (hcl : ClOk X.env.cells cl) (hcap : CapsOk X (relabel scope X.env) cl caps xs) (hlen : caps.length = xs.length)
    (hkind : scope.kind = .function) (hcell : ∀ y ∈ scope.names,y.2 ≠ .cell)
    (hhas : ((relabel scope X.env).names.all fun y=>!(y.2 == .cell || y.2 == .free) || (cl.lookup y.1).isSome) = true)
    (hx : (relabel scope X.env).names.lookup x = some .local) (hN : (x :: xs).Nodup)
    (ht : ∀ C s H fp,PTs (compCx X (x :: xs) scope cl C s H fp) ifs tt) (he : ∀ C s H fp,PE (compCx X (x :: xs) scope cl C s H fp) elt te)
    {pins : List (Addr × Obj)} {σ : St} {H1 : Hp} {s2 : Shared} {it : Addr} {fp : List Addr} {tn : Nat → Heap → Prop} {J : It} {Q : VK}
    (I2 : Inv X pins σ H1 s2) (T : Turn X.prog X.w X.K (.Name x px) J fp it tn) (st0 : tn 0 s2.heap) (hfp : ∀ b ∈ fp,FpOk X pins H1 b)
    (hq : ∃ (n : Nat) (W : Nat → List V → Hp → Prop),n ≤ sizeLine ∧ W 0 [] H1 ∧ ∀ i ys H2,W i ys H2 →
      (J.stop i H2 ∧ ∀ p,H2 p = none → Q (.ref p) (upd H2 p (.lst ys))) ∨
      (J.go i H2 ∧ i < n ∧ ∀ x H3,J.yld i H2 x H3 → tt (some x :: capV caps σ) H3 fun b H4=>if b = true then te (some x :: capV caps σ) H4 fun v H5=>W (i + 1) (ys ++ [v]) H5 else W (i + 1) ys H4))
    {RR : Value → Addr → Result → Shared → Prop}
    (hRR : ∀ s1 D C m H',Inv X pins σ H' s1 → s1.heap.Ns C m → Loose X pins H' C → Q (.ref D) H' → RR (.ref D) C (.ok .next) s1) :
    wpAny (model X.prog X.w) X.A (newList []) (fun acc s₃=>wpAny (model X.prog X.w) X.A (newFunctionEnv scope X.env.globals cl [] X.env.qual none .none (some X.env)) (fun cenv s₄=>
      codeAny (model X.prog X.w) X.A (.compStart (.ListComp elt [⟨.Name x px,iter,ifs,0⟩] scope pos) 0 (.ref it) acc { cenv with scope:=relabel scope X.env }) (RR acc cenv.locals) s₄) X.xe s₃) X.xe s2:=by
  obtain ⟨n,W,hn,w0,hW⟩:=hq
  have hlt : ∀ b ∈ fp,b < s2.heap.objs.size:=fun b hb=>by
    obtain ⟨o,ho,_⟩:=T.obj 0 s2.heap st0 b hb
    exact Heap.lt_size ho
  refine wpAny_newObj_type (wpAny_newFunctionEnv hcell (by intro y hy; simp at hy) (fun h₁ hns₁ hsb₁=>?_) hkind)
  dsimp only at hns₁ hsb₁ ⊢
  generalize hH2 : s2.heap.push { cls:=.type "list",dict:=none,data:=.seq ([] : List Value).toArray } = G at hns₁ hsb₁ ⊢
  have hC : G.objs.size = s2.heap.objs.size + 1:=by rw [← hH2,Heap.size_push]
  have hDC : s2.heap.objs.size ≠ G.objs.size:=by omega
  have old : ∀ b o,s2.heap.get? b = some o → h₁.get? b = some o:=fun b o e=>hsb₁.extBut b o (adr (by have h1 : @LT.lt Nat _ b s2.heap.objs.size:=Heap.lt_size e; omega)) (Heap.get?_push_of_some _ (hH2 ▸ Heap.get?_push_of_some _ e))
  have hacc : h₁.get? s2.heap.objs.size = some { cls:=.type "list",dict:=none,data:=.seq ([] : List Value).toArray }:=
    hsb₁.extBut _ _ hDC (Heap.get?_push_of_some _ (hH2 ▸ Heap.get?_push_size _ rfl))
  have I3 : Inv (compCx X (x :: xs) scope cl G.objs.size s2 H1 fp) [] (none :: capV caps σ) H1 { s2 with heap:=h₁,toks:=s2.toks + ([] : List (Str × Value)).length }:=
    comp_start I2 hcl hkind hfp hlt hhas (by omega) hcap hlen hns₁ old
  have st1 : tn 0 h₁:=T.keep 0 _ _ st0 fun b hb o e=>old b o e
  have fpX : ∀ {pins' : List (Addr × Obj)} {H' : Hp} (b : Addr),b ∈ fp → H' b = none → (∀ p ∈ pins',p.1 ≠ b) → FpOk (compCx X (x :: xs) scope cl G.objs.size s2 H1 fp) pins' H' b:=fun b hb hh hp=>
    ⟨hh,fun z=>by have h1 : @LT.lt Nat _ b s2.heap.objs.size:=hlt b hb; have z' : @Eq Nat b G.objs.size:=z; omega,fun z=>by
      rcases List.mem_cons.mp (I2.stkSub b z) with q | q
      · exact (hfp b hb).2.1 q
      · exact (hfp b hb).2.2.1 q,.inl hb,fun y c e=>(hfp b hb).2.2.2.2.1 y c (hcl.get e),fun p hp'=>hp p hp'⟩
  let XC:=compCx X (x :: xs) scope cl G.objs.size s2 H1 fp
  have loop : ∀ s3 : Shared,s3 = { s2 with heap:=h₁,toks:=s2.toks + ([] : List (Str × Value)).length } →
      codeAny (model X.prog X.w) X.A (.compLoop (.ListComp elt [⟨.Name x px,iter,ifs,0⟩] scope pos) 0 (.ref it) (.ref s2.heap.objs.size) (compEnvC scope cl G.objs.size X.env))
        (RR (.ref s2.heap.objs.size) G.objs.size) s3:=by
    rintro s3 rfl
    refine comp_loop (fun m s'=>∃ (i : Nat) (ys : List V) (Hn : Hp) (its : List Value) (k : Nat) (v0 : Option V),m = n + 1 - i ∧ i ≤ n ∧ ys.length ≤ i ∧ W i ys Hn ∧ Vals ys its ∧ tn i s'.heap ∧ (∀ b ∈ fp,Hn b = none) ∧
      Inv XC [(s2.heap.objs.size,{ cls:=.type "list",data:=.seq its.toArray k })] (v0 :: capV caps σ) Hn s') ?_ (n + 1) ?_
    · rintro m s' ⟨i,ys,Hn,its,k,v0,rfl,hin,hyl,w,rv,st,hfn,J'⟩
      have pD:=J'.pin _ (List.mem_append_right _ (List.mem_singleton.mpr rfl))
      have neD : ∀ b ∈ fp,∀ p ∈ [((s2.heap.objs.size,({ cls:=.type "list",data:=.seq its.toArray k } : Obj)))],p.1 ≠ b:=fun b hb p hp z=>by
        have h1 : @LT.lt Nat instLTNat b s2.heap.objs.size:=hlt b hb
        rw [List.mem_singleton.mp hp] at z
        have z' : @Eq Nat s2.heap.objs.size b:=z
        omega
      rcases hW i ys Hn w with ⟨hstop,fin⟩ | ⟨hgo,hi',hgo'⟩
      · -- it stops
        refine wpAny_mono (T.done XC rfl rfl rfl hc i _ s' _ Hn (fun _ _=>False) J' (fun b hb=>fpX b hb (hfn b hb) (neD b hb)) st hstop) (fun r s1 hr=>?_) fun _ _ z=>z
        obtain ⟨rfl,J1⟩:=hr
        obtain ⟨mC,hnC,_⟩:=J1.loc
        have pD1:=J1.pin _ (List.mem_append_right _ (List.mem_singleton.mpr rfl))
        have hD' : s1.heap.get? s2.heap.objs.size = some { cls:=.type "list",data:=.seq its.toArray k }:=pD1.1
        have hHD : Hn s2.heap.objs.size = none:=pD1.2.1
        have hHC : Hn G.objs.size = none:=J1.free
        have un : Un (frs X.stack) fp H1 (upd Hn s2.heap.objs.size (.lst ys)) s2.heap s1.heap:=by
          have u:=J1.base
          have lt2 : ∀ b o,s2.heap.get? b = some o → b ≠ G.objs.size ∧ b ≠ s2.heap.objs.size:=fun b o e=>by
            have h1:=ltN e
            exact ⟨adr (by omega),adr (by omega)⟩
          refine ⟨u.keep,u.slot,fun b o e n1 n2=>?_,u.there,fun b zs e=>?_,fun b o u' e=>?_,fun b ps e=>?_⟩
          · rw [upd_ne (lt2 b o e).2]
            exact u.free b o e n1 n2
          · have q:=u.tups b zs e
            rw [upd_ne (fun z=>by rw [z,hHD] at q; cases q)]
            exact q
          · have q:=u.frzs b o u' e
            rw [upd_ne (fun z=>by rw [z,hHD] at q; cases q)]
            exact q
          · obtain ⟨more,q⟩:=u.tbls b ps e
            refine ⟨more,?_⟩
            rw [upd_ne (fun z=>by rw [z,hHD] at q; cases q)]
            exact q
        have hok : HOk X.prog X.w (upd Hn s2.heap.objs.size (.lst ys)) s1.heap:=fun a o e=>by
          by_cases ha : a = s2.heap.objs.size
          · subst ha
            rw [upd_same] at e
            cases e
            exact ⟨by omega,its,k,rv,hD'⟩
          · rw [upd_ne ha] at e
            have q : ObjOk X.prog X.w Hn s1.heap a o:=J1.hok a o e
            refine q.stay (fun b u' hb e'=>e') (fun b e'=>?_) fun b zs e'=>?_
            · rw [upd_ne (fun z=>by rw [z,hHD] at e'; cases e')]; exact e'
            · rw [upd_ne (fun z=>by rw [z,hHD] at e'; cases e')]; exact e'
        have I4 : Inv X pins σ (upd Hn s2.heap.objs.size (.lst ys)) s1:=
          I2.call' (ch:=fp) J1.os un hok J1.bare fun b hb=>⟨(hfp b hb).2.2.2.1,(hfp b hb).2.1,(hfp b hb).2.2.2.2.1,(hfp b hb).2.2.2.2.2⟩
        refine hRR s1 _ _ mC _ I4 hnC ⟨by rw [upd_ne (Ne.symm hDC)]; exact hHC,fun z=>?_,by have:=I2.sz; omega,fun y c e z=>?_,fun p hp z=>?_⟩ (fin _ hHD)
        · have h1 : @LT.lt Nat instLTNat X.env.locals s2.heap.objs.size:=I2.lt
          have z' : @Eq Nat G.objs.size X.env.locals:=z
          omega
        · obtain ⟨v',o',ho',_⟩:=I2.cell y c e
          have h1:=ltN ho'
          have z' : @Eq Nat c G.objs.size:=z
          omega
        · have h1:=ltN (I2.pin p hp).1
          have z' : @Eq Nat p.1 G.objs.size:=z
          omega
      · -- a turn
        refine wpAny_mono (T.item XC rfl rfl rfl hc i _ s' _ Hn (fun _ _=>False) J' (fun b hb=>fpX b hb (hfn b hb) (neD b hb)) st hgo) (fun r s1 hr=>?_) fun _ _ z=>z
        obtain ⟨u,rfl,hr⟩:=hr
        refine wpAny_mono hr (fun _ s2' h2=>?_) fun _ _ z=>z
        obtain ⟨v,H3,J1,ru,hy,st1',hf3⟩:=h2
        refine wpAny_assign_Name ?_
        refine store_ok2 (v:=v) J1 hN (i:=0) rfl (.inl hx) ru (fun s4 J2 hsb=>?_) (.inr hx)
        have st4 : tn (i + 1) s4.heap:=by
          obtain ⟨a,hsa,ha⟩:=hsb
          refine T.keep _ _ _ st1' fun b hb o e=>hsa.extBut b o (fun z=>?_) e
          rcases ha with ha | ha
          · have h1 : @LT.lt Nat instLTNat b s2.heap.objs.size:=hlt b hb
            have ha' : @Eq Nat a G.objs.size:=ha
            have z' : @Eq Nat b a:=z
            omega
          · exact (hfp b hb).2.2.2.2.1 x a (hcl.get ha) z.symm
        have J2' : Inv XC [(s2.heap.objs.size,{ cls:=.type "list",data:=.seq its.toArray k })] (some v :: capV caps σ) H3 s4:=J2
        have ob4 : ∀ b ∈ fp,∃ o,s4.heap.get? b = some o ∧ ∀ v,o.data ≠ .cell v:=fun b hb=>T.obj _ _ st4 b hb
        have J3:=J2'.pinned (fun b hb=>fpX b hb (hf3 b hb) (neD b hb)) ob4
        have tnAt : ∀ {σ' : St} {H' : Hp} {s'' : Shared},Inv XC ([(s2.heap.objs.size,({ cls:=.type "list",data:=.seq its.toArray k } : Obj))] ++ pinsAt fp s4.heap) σ' H' s'' → tn (i + 1) s''.heap ∧ ∀ b ∈ fp,H' b = none:=fun J4=>
          ⟨T.keep _ _ _ st4 fun b hb o e=>(J4.pin (b,o) (List.mem_append_right _ (List.mem_append_right _ (mem_pinsAt hb e)))).1,fun b hb=>by
            obtain ⟨o,e,_⟩:=ob4 b hb
            exact (J4.pin (b,o) (List.mem_append_right _ (List.mem_append_right _ (mem_pinsAt hb e)))).2.1⟩
        refine thn (ht _ _ _ _ _ s4 _ H3 _ J3 (hgo' v H3 hy)) fun ok s5 ⟨H4,J4,q4⟩=>?_
        cases ok with
        | false=>
          rw [if_neg (by simp)]
          have q4' : W (i + 1) ys H4:=q4
          obtain ⟨a1,a2⟩:=tnAt J4
          exact ⟨n + 1 - (i + 1),by omega,i + 1,ys,H4,its,k,some v,rfl,by omega,by omega,q4',rv,a1,a2,J4.unpinned⟩
        | true=>
          rw [if_pos rfl]
          have q4' : te (some v :: capV caps σ) H4 fun v H5=>W (i + 1) (ys ++ [v]) H5:=q4
          refine thn (he _ _ _ _ _ s5 _ H4 _ J4 q4') fun uv s6 ⟨y,H5,J5,ry,q5⟩=>?_
          obtain ⟨a1,a2⟩:=tnAt J5
          have pD6:=J5.pin _ (List.mem_append_right _ (List.mem_append_left _ (List.mem_singleton.mpr rfl)))
          have hl6:=rv.length
          refine call_meets F.slot_list_append ⟨_,pD6.1,rfl⟩ F.entry_list_append (F.args_list_append_2 _ _) (PySem.list_append s2.heap.objs.size its.toArray k uv (by rw [List.size_toArray]; omega)) ⟨pD6.1,?_⟩
          have J6 : Inv XC [] (some v :: capV caps σ) H5 s6:=J5.pins_of fun p hp=>by cases hp
          have ne6 : s2.heap.objs.size ∉ fp:=fun z=>by have h1 : @LT.lt Nat instLTNat s2.heap.objs.size s2.heap.objs.size:=hlt _ z; omega
          have J7 : Inv XC [] (some v :: capV caps σ) H5 { s6 with heap:=s6.heap.update s2.heap.objs.size (Obj.mapSeq fun xs=>xs.push uv),toks:=s6.toks }:=
            J6.turned (it:=s2.heap.objs.size) (fun b o hb e=>by rw [Heap.get?_update_other _ _ (Ne.symm hb)]; exact e) pD6.2.1 (fun z=>hDC z) (.inr (Nat.le_refl _)) (fun y c e z=>by
              have e1:=I2.cell y c (hcl.get e)
              obtain ⟨v',o',ho',_⟩:=e1
              have h1:=ltN ho'
              have z' : @Eq Nat c s2.heap.objs.size:=z
              omega) (fun p hp=>by cases hp)
          refine ⟨n + 1 - (i + 1),by omega,i + 1,ys ++ [y],H5,its ++ [uv],k + 1,some v,rfl,by omega,by rw [List.length_append,List.length_singleton]; omega,q5,rv.append (.cons ry .nil),?_,a2,?_⟩
          · refine T.keep _ _ _ a1 fun b hb o e=>?_
            show (s6.heap.update s2.heap.objs.size _).get? b = some o
            rw [Heap.get?_update_other _ _ (fun z=>ne6 (by rw [z]; exact hb))]
            exact e
          · refine J7.pins_of fun p hp=>?_
            rw [List.mem_singleton.mp hp]
            refine ⟨?_,pD6.2.1,fun z=>hDC z,pD6.2.2.2.1,fun v' z=>?_⟩
            · show (s6.heap.update s2.heap.objs.size _).get? s2.heap.objs.size = _
              rw [Heap.get?_update_self _ pD6.1 rfl]
              simp only [Obj.mapSeq,List.push_toArray]
              rw [if_neg (by simp)]
            · have z' : Data.seq _ _ = Data.cell v':=z
              cases z'
    · exact ⟨0,[],H1,[],0,none,by omega,by omega,by simp,w0,.nil,st1,fun b hb=>(hfp b hb).1,I3.pins_of fun p hp=>by
        rw [List.mem_singleton.mp hp]
        refine ⟨hacc,I2.hok.fresh (Nat.le_refl _),fun z=>hDC z,fun z=>?_,fun v' z=>?_⟩
        · have:=I2.stkFree _ z
          rcases List.mem_cons.mp (I2.stkSub _ z) with q | q
          · have h1 : @LT.lt Nat instLTNat X.env.locals s2.heap.objs.size:=I2.lt
            have z' : @Eq Nat s2.heap.objs.size X.env.locals:=q
            omega
          · exact I2.nofs (Nat.le_refl _) q
        · have z' : Data.seq _ _ = Data.cell v':=z
          cases z'⟩
  exact codeAny_compStart_list (loop _ rfl) (T.self X.A 0 _ _ _ st1 (loop _ rfl))
theorem pe_comp {elt iter : Expr} {x : Str} {px pos : Pos} {ifs : List Expr} {scope : Scope} {cl : List (Str × Addr)} (caps : List Nat) (xs : List Str) {wi : TI} {tt : TT} {te : TE}
    (hc : X.calm = true) (hclos : closureFor scope X.env = pure cl) (hcl : ClOk X.env.cells cl) (hcap : CapsOk X (relabel scope X.env) cl caps xs) (hlen : caps.length = xs.length)
    (hkind : scope.kind = .function) (hcell : ∀ y ∈ scope.names,y.2 ≠ .cell) (hnames : ∀ y ∈ scope.names,y.2 = .local → scope.names.lookup y.1 = some .local)
    (hhas : ((relabel scope X.env).names.all fun y=>!(y.2 == .cell || y.2 == .free) || (cl.lookup y.1).isSome) = true)
    (hx : (relabel scope X.env).names.lookup x = some .local) (hN : (x :: xs).Nodup)
    (hi : PI X (.Name x px) iter wi) (ht : ∀ C s H fp,PTs (compCx X (x :: xs) scope cl C s H fp) ifs tt) (he : ∀ C s H fp,PE (compCx X (x :: xs) scope cl C s H fp) elt te)
    (hs : ∀ v,foldedSetIterable iter X.env v = pure v:=by intro _; rfl) : PE X (.ListComp elt [⟨.Name x px,iter,ifs,0⟩] scope pos) (tComp caps wi tt te):=by
  intro pins s σ H Q I h
  rw [eval_ListComp]
  refine wpAny_comprehension_free (use:=none) rfl hs hclos hkind hnames (wpAny_mono (hi pins s σ H _ I h) (fun v s1 h1=>wpAny_mono h1 (fun itv s2 h2=>?_) fun _ _ e=>e) fun _ _ e=>e)
  obtain ⟨it,fp,tn,J,H1,rfl,I2,T,st0,hfp,hq⟩:=h2
  refine comp_block (RR:=fun acc C=>compPost (model X.prog X.w) X.A X.xe none (EP X pins σ Q) acc C) hc hcl hcap hlen hkind hcell hhas hx hN ht he I2 T st0 hfp hq ?_
  intro s1 D C m H' I4 hn l q
  exact ⟨m,hn,fun h' hsb=>⟨.ref D,H',I4.letGo l hsb,rfl,q⟩⟩
theorem ps_comp {elt iter : Expr} {x y : Str} {px py pos spos : Pos} {ifs : List Expr} {scope : Scope} {cl : List (Str × Addr)} {k : Nat} (caps : List Nat) (xs : List Str) {wi : TI} {tt : TT} {te : TE}
    (hsw : swapsWith (.ListComp elt [⟨.Name x px,iter,ifs,0⟩] scope pos) (some (.Name y py)) spos.line X.env = pure true)
    (hNX : X.N.Nodup) (hk : X.N[k]? = some y) (hy : X.env.scope.names.lookup y = some .local)
    (hc : X.calm = true) (hclos : closureFor scope X.env = pure cl) (hcl : ClOk X.env.cells cl) (hcap : CapsOk X (relabel scope X.env) cl caps xs) (hlen : caps.length = xs.length)
    (hkind : scope.kind = .function) (hcell : ∀ y ∈ scope.names,y.2 ≠ .cell) (hnames : ∀ y ∈ scope.names,y.2 = .local → scope.names.lookup y.1 = some .local)
    (hhas : ((relabel scope X.env).names.all fun y=>!(y.2 == .cell || y.2 == .free) || (cl.lookup y.1).isSome) = true)
    (hx : (relabel scope X.env).names.lookup x = some .local) (hN : (x :: xs).Nodup)
    (hi : PI X (.Name x px) iter wi) (ht : ∀ C s H fp,PTs (compCx X (x :: xs) scope cl C s H fp) ifs tt) (he : ∀ C s H fp,PE (compCx X (x :: xs) scope cl C s H fp) elt te)
    (hs : ∀ v,foldedSetIterable iter X.env v = pure v:=by intro _; rfl) : PS X (.Assign [.Name y py] (.ListComp elt [⟨.Name x px,iter,ifs,0⟩] scope pos) spos) (tAsg (tComp caps wi tt te) (gName k)):=by
  intro pins s σ H D I h
  rw [exec_Assign_Name_used _ _ _ _ hsw]
  refine wpAny_bind (wpAny_standAt (wpAny_bind ?_))
  show wpAny _ X.A (do let _ ← comprehension (.ListComp elt [⟨.Name x px,iter,ifs,0⟩] scope pos) scope X.env _ (newList []) false (eval iter X.env) (some (assign (.Name y py) X.env))) _ _ s
  refine wpAny_bind (wpAny_mono (wpAny_comprehension_free (use:=some (assign (.Name y py) X.env)) (Q:=fun _ s'=>SP X pins D .next s') rfl hs hclos hkind hnames
    (wpAny_mono (hi pins s σ H _ I h) (fun xv s₁ h₁=>wpAny_mono h₁ (fun itv s2 h2=>?_) fun _ _ e=>e) fun _ _ e=>e)) (fun _ s' hq=>wpAny_pure (wpAny_pure hq)) fun _ _ e=>e)
  obtain ⟨it,fp,tn,J,H1,rfl,I2,T,st0,hfp,hq⟩:=h2
  refine comp_block (Q:=fun v H1=>gName k v σ H1 D.nx) (RR:=fun acc C=>compPost (model X.prog X.w) X.A X.xe (some (assign (.Name y py) X.env)) (fun _ s'=>SP X pins D .next s') acc C) hc hcl hcap hlen hkind hcell hhas hx hN ht he I2 T st0 hfp hq ?_
  intro s1 Da C m H' I4 hn l q
  show wpAny _ X.A (assign (.Name y py) X.env (.ref Da)) _ _ s1
  refine wpAny_assign_Name (store_ok2 (v:=.ref Da) I4 hNX hk (.inl hy) rfl (fun s4 I5 hsb=>?_) (.inr hy))
  obtain ⟨a,hsa,ha⟩:=hsb
  have hCa : C ≠ a:=by
    rcases ha with ha | ha
    · rw [ha]; exact l.2.1
    · exact Ne.symm (l.2.2.2.1 y a ha)
  refine ⟨m,hn.sameBut hsa hCa,fun h' hsb=>⟨_,H',I5.letGo l hsb,q⟩⟩
end
end L2
namespace L2
open PySem PySem.Spec PyProof.Rows
theorem same_new {H : Hp} {p : Addr} (h : H p = none) (o : HO) : Same H (upd H p o):=fun b u q=>by rw [upd_ne (ne_of_none q h)]; exact q
structure Def (P : Program) (w : World) (K : PySem.W.Frag) (mg : Str → Option Value) (base : Heap) (x : Str) (k : Nat) (ps : List Str) (sp : Sp) : Prop where
  ex : ∃ (f : Addr) (fd : FuncData),FnOk P w K mg base CX0 k f fd ps sp ∧ Binds K fd ps [] ∧ PySem.W.keepIn K (.ref f) = true ∧ mg x = some (.ref f)
theorem def_mk {P : Program} {w : World} {K : PySem.W.Frag} {mg : Str → Option Value} {base : Heap} {x qual : Str} {st : Stmt} {f : Addr} {fd : FuncData} {k : Nat} {ps : List Str} {sp : Sp} (F : Fun K x qual st f fd)
    (ok : FnOk P w K mg base CX0 k f fd ps sp) (b : Binds K fd ps []) (m : mg x = some (.ref f)) : Def P w K mg base x k ps sp:=⟨⟨f,fd,ok,b,F.kp,m⟩⟩
section
variable {X : Cx} {x : Str} {j k : Nat} {ps : List Str} {sp : Sp} {p pos : Pos} {e : Expr} {es : List Expr} {t : TA}
theorem pe_def (D : Def X.prog X.w X.K X.mg X.base x j ps sp) (hr : Room k X.A) (hg : Gl X x) (ha : PA X (e :: es) t) (hjk : j ≤ k:=by decide) (hdb : (x == ("__debug__" : Str)) = false:=by decide)
    (he : starEach (e :: es) X.env = (false,eval e X.env) :: starEach es X.env:=by rfl) (hpl : (backTo pos (starEach es X.env)).any (·.1) = false:=by rfl) :
    PE X (.Call (.Name x p) (e :: es) [] pos) (tCall sp [] E0 t):=by
  obtain ⟨f,fd,ok,b,kp,m⟩:=D.ex
  exact pe_call ok (hr.mono hjk) hg m kp b .nil pass0 ha hdb he hpl
end
end L2
namespace L2
open PySem PySem.Spec PyProof.Rows
def tJoin (t : TS) : TS:=fun D σ H=>∃ R : St → Hp → Prop,(∀ σ' H',R σ' H' → D.nx σ' H') ∧ t { D with nx:=R } σ H
theorem ps_join {X : Cx} {st : Stmt} {t : TS} (h : PS X st t) : PS X st (tJoin t):=by
  intro pins s σ H D I ⟨R,hR,q⟩
  refine thn (h pins s σ H _ I q) fun f s' hq=>?_
  cases f with
  | next=>
    obtain ⟨σ',H',I',r⟩:=hq
    exact ⟨σ',H',I',hR _ _ r⟩
  | brk=>exact hq
  | cont=>exact hq
  | ret v=>exact hq
end L2
namespace L2
open PySem PySem.Spec PyProof.Rows
theorem bt_isinstance : bootBuiltins "isinstance" = some (.builtin "isinstance"):=by decide +kernel
theorem bt_min : bootBuiltins "min" = some (.builtin "min"):=by decide +kernel
theorem bt_max : bootBuiltins "max" = some (.builtin "max"):=by decide +kernel
theorem bt_int : bootBuiltins "int" = some (.type "int"):=by decide +kernel
theorem bt_list : bootBuiltins "list" = some (.type "list"):=by decide +kernel
theorem bt_str : bootBuiltins "str" = some (.type "str"):=by decide +kernel
theorem bt_reversed : bootBuiltins "reversed" = some (.type "reversed"):=by decide +kernel
def cInts : List Expr → Option (List Int)
  | []=>some []
  | .Constant (.int i) _ _ :: r=>(cInts r).map (i :: ·)
  | _=>none
theorem pa_ints {X : Cx} : ∀ {es : List Expr} {ns : List Int},cInts es = some ns → PA X es (fun _ H Q=>Q (ns.map V.int) H)
  | [],ns,h=>by
    simp only [cInts,Option.some.injEq] at h
    subst h
    exact pa_nil
  | e :: es,ns,h=>by
    cases e with
    | Constant c k p=>
      cases c with
      | int i=>
        simp only [cInts,Option.map_eq_some_iff] at h
        obtain ⟨ms,h1,rfl⟩:=h
        have q:=pa_cons (X:=X) (e:=.Constant (.int i) k p) pe_int (pa_ints h1) rfl
        exact q
      | _=>simp [cInts] at h
    | _=>simp [cInts] at h
theorem int_pow_le {a b : Int} (h0 : 0 ≤ a) (h : a ≤ b) : ∀ n : Nat,a ^ n ≤ b ^ n
  | 0=>by simp
  | n + 1=>by
    rw [Int.pow_succ,Int.pow_succ]
    have h1:=int_pow_le h0 h n
    have h2 : 0 ≤ a ^ n:=Int.pow_nonneg h0
    exact Int.mul_le_mul h1 h h0 (Int.le_trans h2 h1)
end L2
namespace L2
open PySem PySem.Spec PyProof.Rows
theorem ps_eq {X : Cx} {st st' : Stmt} {t : TS} (e : st = st') (h : PS X st' t) : PS X st t:=by subst e; exact h
theorem ps_setInts {X : Cx} {st : Stmt} {i : Nat} {x : Str} {es : List Expr} {ns : List Int} {p1 p2 pos : Pos} (e : st = .Assign [.Name x p1] (.List es p2) pos) (hc : cInts es = some ns) (hN : X.N.Nodup) (hi : X.N[i]? = some x) (hx : Loc X.env.scope x)
    (hf : X.fn x = true ∨ X.env.scope.names.lookup x = some .local) : PS X st (tAsg (tLst fun _ H Q=>Q (ns.map V.int) H) (gName i)):=by
  subst e
  exact ps_set hN hi hx (pe_lst (pa_ints hc)) rfl hf
end L2
namespace L2
open PySem PySem.Spec PyProof.Rows
def ForIt (J : It) (g : TG) (tb : TS) (D : Ends) (σ : St) (H : Hp) : Prop:=∃ W : Nat → Nat → St → Hp → Prop,(∃ m,W 0 m σ H) ∧ ∀ i m σ H,W i m σ H →
  (J.stop i H ∧ D.nx σ H) ∨ (J.go i H ∧ ∃ N : St → Hp → Prop,(∀ σ' H',N σ' H' → ∃ m',m' < m ∧ W (i + 1) m' σ' H') ∧ ∀ x H',J.yld i H x H' → g x σ H' fun σ2 H2=>tb { D with nx:=N,ct:=N,bk:=D.nx } σ2 H2)
theorem w_for {wi : TI} {g : TG} {tb : TS} {D : Ends} {σ : St} {H : Hp} : tFor wi g tb D σ H = wi σ H fun J H1=>ForIt J g tb D σ H1:=rfl
section
variable {lo c : Int} {n : Nat} {K : PySem.W.Frag} {a : Addr} {xs : List V} {g : TG} {tb : TS} {D : Ends} {σ : St} {H : Hp}
theorem forR (Pv : Nat → St → Hp → Prop) (h0 : Pv 0 σ H)
    (hs : ∀ i σ H,i < n → Pv i σ H → g (.int (lo + i)) σ H fun σ2 H2=>tb { D with nx:=Pv (i + 1),ct:=Pv (i + 1),bk:=D.nx } σ2 H2) (hd : ∀ σ H,Pv n σ H → D.nx σ H) : ForIt (Itr lo n) g tb D σ H:=for_range Pv h0 hs hd
theorem forC (Pv : Nat → St → Hp → Prop) (h0 : Pv 0 σ H)
    (hs : ∀ i σ H,i < n → Pv i σ H → g (.int (lo + i * c)) σ H fun σ2 H2=>tb { D with nx:=Pv (i + 1),ct:=Pv (i + 1),bk:=D.nx } σ2 H2) (hd : ∀ σ H,Pv n σ H → D.nx σ H) : ForIt (Itc lo c n) g tb D σ H:=for_rangeC Pv h0 hs hd
theorem forL (xs : List V) (Pv : Nat → St → Hp → Prop) (h0 : Pv 0 σ H) (hl : ∀ i σ H,i ≤ xs.length → Pv i σ H → SqL K H a xs)
    (hs : ∀ i x σ H,xs[i]? = some x → Pv i σ H → g x σ H fun σ2 H2=>tb { D with nx:=Pv (i + 1),ct:=Pv (i + 1),bk:=D.nx } σ2 H2) (hd : ∀ σ H,Pv xs.length σ H → D.nx σ H) : ForIt (Itl K a) g tb D σ H:=for_list Pv h0 hl hs hd
theorem forI (ns : List Int) (Pv : Nat → St → Hp → Prop) (h0 : Pv 0 σ H) (hl : ∀ i σ H,Pv i σ H → SqL K H a (ns.map V.int))
    (hs : ∀ i (x : Int) σ H,ns[i]? = some x → Pv i σ H → g (.int x) σ H fun σ2 H2=>tb { D with nx:=Pv (i + 1),ct:=Pv (i + 1),bk:=D.nx } σ2 H2) (hd : ∀ σ H,Pv ns.length σ H → D.nx σ H) : ForIt (Itl K a) g tb D σ H:=by
  refine forL (ns.map V.int) Pv h0 (fun i σ H _ h=>hl i σ H h) (fun i v σ H hv p=>?_) (fun σ H p=>hd σ H (by rw [List.length_map] at p; exact p))
  rw [List.getElem?_map] at hv
  cases z : ns[i]? with
  | none=>rw [z] at hv; cases hv
  | some x=>
    rw [z] at hv
    cases hv
    exact hs i x σ H z p
end
theorem whB {c : TT} {tb : TS} {D : Ends} {σ : St} {H : Hp} (W : Nat → St → Hp → Prop) (m : Nat) (h0 : W m σ H) (hs : ∀ m σ H,W m σ H →
    c σ H fun b H1=>if b = true then ∃ N : St → Hp → Prop,(∀ σ' H',N σ' H' → ∃ m',m' < m ∧ W m' σ' H') ∧ tb { D with nx:=N,ct:=N,bk:=D.nx } σ H1 else D.nx σ H1) : tWhile c tb D σ H:=⟨W,⟨m,h0⟩,hs⟩
theorem Same.up {H H' : Hp} (g : Same H H') {p : Addr} (hp : H p = none) (o : HO) : Same H (upd H' p o):=fun b u q=>by rw [upd_ne (ne_of_none q hp)]; exact g b u q
theorem joinB {t : TS} {D : Ends} {σ : St} {H : Hp} (R : St → Hp → Prop) (h : t { D with nx:=R } σ H) (hR : ∀ σ' H',R σ' H' → D.nx σ' H') : tJoin t D σ H:=⟨R,hR,h⟩
theorem sc_ii {a b : Int} : scal (.int a) (.int b) = true:=rfl
theorem sc_bb {a b : Bool} : scal (.bl a) (.bl b) = true:=rfl
theorem sc_in {a : Int} : scal (.int a) .non = true:=rfl
theorem sc_ni {a : Int} : scal .non (.int a) = true:=rfl
theorem sc_ss {a b : Str} : scal (.str a) (.str b) = true:=rfl
theorem sc_nn : scal .non .non = true:=rfl
theorem sc_bn {a : Bool} : scal (.bl a) .non = true:=rfl
theorem sc_is {a : Int} {b : Str} : scal (.int a) (.str b) = true:=rfl
theorem kit_int_int (K : PySem.W.Frag) : PySem.W.kitOne K (.type "int") (.type "int") = some true:=by unfold PySem.W.kitOne; rw [if_pos (by decide)]
theorem kit_int_bool (K : PySem.W.Frag) : PySem.W.kitOne K (.type "int") (.type "bool") = some false:=by unfold PySem.W.kitOne; rw [if_neg (by decide)]; kernel_rfl
theorem kit_int_str (K : PySem.W.Frag) : PySem.W.kitOne K (.type "int") (.type "str") = some false:=by unfold PySem.W.kitOne; rw [if_neg (by decide)]; kernel_rfl
theorem kit_int_list (K : PySem.W.Frag) : PySem.W.kitOne K (.type "int") (.type "list") = some false:=by unfold PySem.W.kitOne; rw [if_neg (by decide)]; kernel_rfl
theorem kit_int_tuple (K : PySem.W.Frag) : PySem.W.kitOne K (.type "int") (.type "tuple") = some false:=by unfold PySem.W.kitOne; rw [if_neg (by decide)]; kernel_rfl
theorem kit_int_dict (K : PySem.W.Frag) : PySem.W.kitOne K (.type "int") (.type "dict") = some false:=by unfold PySem.W.kitOne; rw [if_neg (by decide)]; kernel_rfl
theorem kit_bool_int (K : PySem.W.Frag) : PySem.W.kitOne K (.type "bool") (.type "int") = some true:=by unfold PySem.W.kitOne; rw [if_neg (by decide)]; kernel_rfl
theorem kit_bool_bool (K : PySem.W.Frag) : PySem.W.kitOne K (.type "bool") (.type "bool") = some true:=by unfold PySem.W.kitOne; rw [if_pos (by decide)]
theorem kit_bool_str (K : PySem.W.Frag) : PySem.W.kitOne K (.type "bool") (.type "str") = some false:=by unfold PySem.W.kitOne; rw [if_neg (by decide)]; kernel_rfl
theorem kit_bool_list (K : PySem.W.Frag) : PySem.W.kitOne K (.type "bool") (.type "list") = some false:=by unfold PySem.W.kitOne; rw [if_neg (by decide)]; kernel_rfl
theorem kit_bool_tuple (K : PySem.W.Frag) : PySem.W.kitOne K (.type "bool") (.type "tuple") = some false:=by unfold PySem.W.kitOne; rw [if_neg (by decide)]; kernel_rfl
theorem kit_bool_dict (K : PySem.W.Frag) : PySem.W.kitOne K (.type "bool") (.type "dict") = some false:=by unfold PySem.W.kitOne; rw [if_neg (by decide)]; kernel_rfl
theorem kit_NoneType_int (K : PySem.W.Frag) : PySem.W.kitOne K (.type "NoneType") (.type "int") = some false:=by unfold PySem.W.kitOne; rw [if_neg (by decide)]; kernel_rfl
theorem kit_NoneType_bool (K : PySem.W.Frag) : PySem.W.kitOne K (.type "NoneType") (.type "bool") = some false:=by unfold PySem.W.kitOne; rw [if_neg (by decide)]; kernel_rfl
theorem kit_NoneType_str (K : PySem.W.Frag) : PySem.W.kitOne K (.type "NoneType") (.type "str") = some false:=by unfold PySem.W.kitOne; rw [if_neg (by decide)]; kernel_rfl
theorem kit_NoneType_list (K : PySem.W.Frag) : PySem.W.kitOne K (.type "NoneType") (.type "list") = some false:=by unfold PySem.W.kitOne; rw [if_neg (by decide)]; kernel_rfl
theorem kit_NoneType_tuple (K : PySem.W.Frag) : PySem.W.kitOne K (.type "NoneType") (.type "tuple") = some false:=by unfold PySem.W.kitOne; rw [if_neg (by decide)]; kernel_rfl
theorem kit_NoneType_dict (K : PySem.W.Frag) : PySem.W.kitOne K (.type "NoneType") (.type "dict") = some false:=by unfold PySem.W.kitOne; rw [if_neg (by decide)]; kernel_rfl
theorem kit_str_int (K : PySem.W.Frag) : PySem.W.kitOne K (.type "str") (.type "int") = some false:=by unfold PySem.W.kitOne; rw [if_neg (by decide)]; kernel_rfl
theorem kit_str_bool (K : PySem.W.Frag) : PySem.W.kitOne K (.type "str") (.type "bool") = some false:=by unfold PySem.W.kitOne; rw [if_neg (by decide)]; kernel_rfl
theorem kit_str_str (K : PySem.W.Frag) : PySem.W.kitOne K (.type "str") (.type "str") = some true:=by unfold PySem.W.kitOne; rw [if_pos (by decide)]
theorem kit_str_list (K : PySem.W.Frag) : PySem.W.kitOne K (.type "str") (.type "list") = some false:=by unfold PySem.W.kitOne; rw [if_neg (by decide)]; kernel_rfl
theorem kit_str_tuple (K : PySem.W.Frag) : PySem.W.kitOne K (.type "str") (.type "tuple") = some false:=by unfold PySem.W.kitOne; rw [if_neg (by decide)]; kernel_rfl
theorem kit_str_dict (K : PySem.W.Frag) : PySem.W.kitOne K (.type "str") (.type "dict") = some false:=by unfold PySem.W.kitOne; rw [if_neg (by decide)]; kernel_rfl
abbrev bnames : List String:=["int","bool","str","list","tuple","dict"]
def isiT (a b : String) : Option Bool:=if b ∈ bnames then some (a == b || (a == "bool" && b == "int")) else none
theorem isi_int {K : PySem.W.Frag} {b : String} {v : Bool} (h : isiT "int" b = some v) : PySem.W.kitOne K (.type "int") (.type b) = some v:=by
  unfold isiT at h
  split at h
  · rename_i z
    cases h
    simp only [bnames,List.mem_cons,List.not_mem_nil,or_false] at z
    rcases z with rfl | rfl | rfl | rfl | rfl | rfl
    · exact kit_int_int K
    · exact kit_int_bool K
    · exact kit_int_str K
    · exact kit_int_list K
    · exact kit_int_tuple K
    · exact kit_int_dict K
  · cases h
theorem isi_bool {K : PySem.W.Frag} {b : String} {v : Bool} (h : isiT "bool" b = some v) : PySem.W.kitOne K (.type "bool") (.type b) = some v:=by
  unfold isiT at h
  split at h
  · rename_i z
    cases h
    simp only [bnames,List.mem_cons,List.not_mem_nil,or_false] at z
    rcases z with rfl | rfl | rfl | rfl | rfl | rfl
    · exact kit_bool_int K
    · exact kit_bool_bool K
    · exact kit_bool_str K
    · exact kit_bool_list K
    · exact kit_bool_tuple K
    · exact kit_bool_dict K
  · cases h
theorem isi_NoneType {K : PySem.W.Frag} {b : String} {v : Bool} (h : isiT "NoneType" b = some v) : PySem.W.kitOne K (.type "NoneType") (.type b) = some v:=by
  unfold isiT at h
  split at h
  · rename_i z
    cases h
    simp only [bnames,List.mem_cons,List.not_mem_nil,or_false] at z
    rcases z with rfl | rfl | rfl | rfl | rfl | rfl
    · exact kit_NoneType_int K
    · exact kit_NoneType_bool K
    · exact kit_NoneType_str K
    · exact kit_NoneType_list K
    · exact kit_NoneType_tuple K
    · exact kit_NoneType_dict K
  · cases h
theorem isi_str {K : PySem.W.Frag} {b : String} {v : Bool} (h : isiT "str" b = some v) : PySem.W.kitOne K (.type "str") (.type b) = some v:=by
  unfold isiT at h
  split at h
  · rename_i z
    cases h
    simp only [bnames,List.mem_cons,List.not_mem_nil,or_false] at z
    rcases z with rfl | rfl | rfl | rfl | rfl | rfl
    · exact kit_str_int K
    · exact kit_str_bool K
    · exact kit_str_str K
    · exact kit_str_list K
    · exact kit_str_tuple K
    · exact kit_str_dict K
  · cases h
def isiV : V → String → Option Bool
  | .int _,n=>isiT "int" n
  | .bl _,n=>isiT "bool" n
  | .non,n=>isiT "NoneType" n
  | .str _,n=>isiT "str" n
  | _,_=>none
def isiO : HO → String → Option Bool
  | .lst _,n=>isiT "list" n
  | .tup _,n=>isiT "tuple" n
  | .dK _,n=>isiT "dict" n
  | _,_=>none
section
variable {X : Cx}
theorem call_isiS : CallR X (.builtin "isinstance") (fun xs H Q=>∃ x n,xs = [x,.ty n] ∧ ∃ b,isiV x n = some b ∧ Q (.bl b) H):=by
  intro pins s σ H xs us Q I r h
  obtain ⟨x,n,rfl,b,e,q⟩:=h
  refine call_isinst pins s σ H _ us Q I r ?_
  cases x with
  | int i=>exact ⟨_,_,_,b,rfl,rfl,.int i,isi_int e,q⟩
  | bl i=>exact ⟨_,_,_,b,rfl,rfl,.bl i,isi_bool e,q⟩
  | non=>exact ⟨_,_,_,b,rfl,rfl,.non,isi_NoneType e,q⟩
  | str i=>exact ⟨_,_,_,b,rfl,rfl,.str i,isi_str e,q⟩
  | _=>cases e
end
theorem isv_int_int {i : Int} : isiV (.int i) "int" = some true:=(by decide : isiT "int" "int" = _)
theorem isv_int_bool {i : Int} : isiV (.int i) "bool" = some false:=(by decide : isiT "int" "bool" = _)
theorem isv_int_str {i : Int} : isiV (.int i) "str" = some false:=(by decide : isiT "int" "str" = _)
theorem isv_int_list {i : Int} : isiV (.int i) "list" = some false:=(by decide : isiT "int" "list" = _)
theorem isv_int_tuple {i : Int} : isiV (.int i) "tuple" = some false:=(by decide : isiT "int" "tuple" = _)
theorem isv_int_dict {i : Int} : isiV (.int i) "dict" = some false:=(by decide : isiT "int" "dict" = _)
theorem isv_bool_int {i : Bool} : isiV (.bl i) "int" = some true:=(by decide : isiT "bool" "int" = _)
theorem isv_bool_bool {i : Bool} : isiV (.bl i) "bool" = some true:=(by decide : isiT "bool" "bool" = _)
theorem isv_bool_str {i : Bool} : isiV (.bl i) "str" = some false:=(by decide : isiT "bool" "str" = _)
theorem isv_bool_list {i : Bool} : isiV (.bl i) "list" = some false:=(by decide : isiT "bool" "list" = _)
theorem isv_bool_tuple {i : Bool} : isiV (.bl i) "tuple" = some false:=(by decide : isiT "bool" "tuple" = _)
theorem isv_bool_dict {i : Bool} : isiV (.bl i) "dict" = some false:=(by decide : isiT "bool" "dict" = _)
theorem isv_NoneType_int  : isiV (.non) "int" = some false:=by decide
theorem isv_NoneType_bool  : isiV (.non) "bool" = some false:=by decide
theorem isv_NoneType_str  : isiV (.non) "str" = some false:=by decide
theorem isv_NoneType_list  : isiV (.non) "list" = some false:=by decide
theorem isv_NoneType_tuple  : isiV (.non) "tuple" = some false:=by decide
theorem isv_NoneType_dict  : isiV (.non) "dict" = some false:=by decide
theorem isv_str_int {i : Str} : isiV (.str i) "int" = some false:=(by decide : isiT "str" "int" = _)
theorem isv_str_bool {i : Str} : isiV (.str i) "bool" = some false:=(by decide : isiT "str" "bool" = _)
theorem isv_str_str {i : Str} : isiV (.str i) "str" = some true:=(by decide : isiT "str" "str" = _)
theorem isv_str_list {i : Str} : isiV (.str i) "list" = some false:=(by decide : isiT "str" "list" = _)
theorem isv_str_tuple {i : Str} : isiV (.str i) "tuple" = some false:=(by decide : isiT "str" "tuple" = _)
theorem isv_str_dict {i : Str} : isiV (.str i) "dict" = some false:=(by decide : isiT "str" "dict" = _)
theorem iso_list_int {xs : List V} : isiO (.lst xs) "int" = some false:=(by decide : isiT "list" "int" = _)
theorem iso_list_bool {xs : List V} : isiO (.lst xs) "bool" = some false:=(by decide : isiT "list" "bool" = _)
theorem iso_list_str {xs : List V} : isiO (.lst xs) "str" = some false:=(by decide : isiT "list" "str" = _)
theorem iso_list_list {xs : List V} : isiO (.lst xs) "list" = some true:=(by decide : isiT "list" "list" = _)
theorem iso_list_tuple {xs : List V} : isiO (.lst xs) "tuple" = some false:=(by decide : isiT "list" "tuple" = _)
theorem iso_list_dict {xs : List V} : isiO (.lst xs) "dict" = some false:=(by decide : isiT "list" "dict" = _)
theorem iso_tuple_int {xs : List V} : isiO (.tup xs) "int" = some false:=(by decide : isiT "tuple" "int" = _)
theorem iso_tuple_bool {xs : List V} : isiO (.tup xs) "bool" = some false:=(by decide : isiT "tuple" "bool" = _)
theorem iso_tuple_str {xs : List V} : isiO (.tup xs) "str" = some false:=(by decide : isiT "tuple" "str" = _)
theorem iso_tuple_list {xs : List V} : isiO (.tup xs) "list" = some false:=(by decide : isiT "tuple" "list" = _)
theorem iso_tuple_tuple {xs : List V} : isiO (.tup xs) "tuple" = some true:=(by decide : isiT "tuple" "tuple" = _)
theorem iso_tuple_dict {xs : List V} : isiO (.tup xs) "dict" = some false:=(by decide : isiT "tuple" "dict" = _)
theorem iso_dict_int {xs : List (Key × V)} : isiO (.dK xs) "int" = some false:=(by decide : isiT "dict" "int" = _)
theorem iso_dict_bool {xs : List (Key × V)} : isiO (.dK xs) "bool" = some false:=(by decide : isiT "dict" "bool" = _)
theorem iso_dict_str {xs : List (Key × V)} : isiO (.dK xs) "str" = some false:=(by decide : isiT "dict" "str" = _)
theorem iso_dict_list {xs : List (Key × V)} : isiO (.dK xs) "list" = some false:=(by decide : isiT "dict" "list" = _)
theorem iso_dict_tuple {xs : List (Key × V)} : isiO (.dK xs) "tuple" = some false:=(by decide : isiT "dict" "tuple" = _)
theorem iso_dict_dict {xs : List (Key × V)} : isiO (.dK xs) "dict" = some true:=(by decide : isiT "dict" "dict" = _)
end L2
namespace L2
open PySem PySem.Spec PyProof.Rows
def CompIt (J : It) (caps : List Nat) (tt : TT) (te : TE) (σ : St) (H : Hp) (Q : VK) : Prop:=∃ (n : Nat) (W : Nat → List V → Hp → Prop),n ≤ sizeLine ∧ W 0 [] H ∧ ∀ i ys H2,W i ys H2 →
  (J.stop i H2 ∧ ∀ p,H2 p = none → Q (.ref p) (upd H2 p (.lst ys))) ∨
  (J.go i H2 ∧ i < n ∧ ∀ x H3,J.yld i H2 x H3 → tt (some x :: capV caps σ) H3 fun b H4=>if b = true then te (some x :: capV caps σ) H4 fun v H5=>W (i + 1) (ys ++ [v]) H5 else W (i + 1) ys H4)
theorem w_comp {caps : List Nat} {wi : TI} {tt : TT} {te : TE} {σ : St} {H : Hp} {Q : VK} : tComp caps wi tt te σ H Q = wi σ H fun J H1=>CompIt J caps tt te σ H1 Q:=rfl
section
variable {lo : Int} {n : Nat} {K : PySem.W.Frag} {a : Addr} {caps : List Nat} {tt : TT} {te : TE} {σ : St} {H : Hp} {Q : VK}
theorem compR (Pv : Nat → List V → Hp → Prop) (hn : n ≤ sizeLine) (h0 : Pv 0 [] H)
    (hs : ∀ i ys H,i < n → Pv i ys H → tt (some (.int (lo + i)) :: capV caps σ) H fun b H4=>if b = true then te (some (.int (lo + i)) :: capV caps σ) H4 fun v H5=>Pv (i + 1) (ys ++ [v]) H5 else Pv (i + 1) ys H4)
    (hd : ∀ ys H,Pv n ys H → ∀ p,H p = none → Q (.ref p) (upd H p (.lst ys))) : CompIt (Itr lo n) caps tt te σ H Q:=by
  refine ⟨n,fun i ys H=>i ≤ n ∧ Pv i ys H,hn,⟨Nat.zero_le _,h0⟩,?_⟩
  rintro i ys H2 ⟨hi,p⟩
  by_cases hlt : i < n
  · refine .inr ⟨hlt,hlt,?_⟩
    rintro x H3 ⟨rfl,rfl⟩
    have key:=hs i ys H3 hlt p
    have e1 : ∀ H5 zs,Pv (i + 1) zs H5 → i + 1 ≤ n ∧ Pv (i + 1) zs H5:=fun _ _ h=>⟨hlt,h⟩
    have e2 : (fun (b : Bool) (H4 : Hp)=>if b = true then te (some (.int (lo + i)) :: capV caps σ) H4 fun v H5=>Pv (i + 1) (ys ++ [v]) H5 else Pv (i + 1) ys H4) = fun b H4=>if b = true then te (some (.int (lo + i)) :: capV caps σ) H4 fun v H5=>i + 1 ≤ n ∧ Pv (i + 1) (ys ++ [v]) H5 else i + 1 ≤ n ∧ Pv (i + 1) ys H4:=by
      funext b H4
      have z : i + 1 ≤ n:=hlt
      simp only [z,true_and]
    rw [e2] at key
    exact key
  · have e : i = n:=by omega
    subst e
    exact .inl ⟨Nat.le_refl _,hd ys H2 p⟩
theorem compI (ns : List Int) (Pv : Nat → List V → Hp → Prop) (hn : ns.length ≤ sizeLine) (h0 : Pv 0 [] H) (hl : ∀ i ys H,Pv i ys H → SqL K H a (ns.map V.int))
    (hs : ∀ i (x : Int) ys H,ns[i]? = some x → Pv i ys H → tt (some (.int x) :: capV caps σ) H fun b H4=>if b = true then te (some (.int x) :: capV caps σ) H4 fun v H5=>Pv (i + 1) (ys ++ [v]) H5 else Pv (i + 1) ys H4)
    (hd : ∀ ys H,Pv ns.length ys H → ∀ p,H p = none → Q (.ref p) (upd H p (.lst ys))) : CompIt (Itl K a) caps tt te σ H Q:=by
  refine ⟨ns.length,fun i ys H=>i ≤ ns.length ∧ Pv i ys H,hn,⟨Nat.zero_le _,h0⟩,?_⟩
  rintro i ys H2 ⟨hi,p⟩
  have hS:=hl i ys H2 p
  by_cases hlt : i < ns.length
  · obtain ⟨x,hx⟩ : ∃ x,ns[i]? = some x:=⟨ns[i],List.getElem?_eq_getElem hlt⟩
    have hv : (ns.map V.int)[i]? = some (.int x):=by rw [List.getElem?_map,hx]; rfl
    refine .inr ⟨⟨_,_,hS,hv⟩,hlt,?_⟩
    rintro y H3 ⟨rfl,hy⟩
    have hxy : y = .int x:=(Option.some.inj (hv.symm.trans (hy _ hS))).symm
    subst hxy
    have key:=hs i x ys H3 hx p
    have e2 : (fun (b : Bool) (H4 : Hp)=>if b = true then te (some (.int x) :: capV caps σ) H4 fun v H5=>Pv (i + 1) (ys ++ [v]) H5 else Pv (i + 1) ys H4) = fun b H4=>if b = true then te (some (.int x) :: capV caps σ) H4 fun v H5=>i + 1 ≤ ns.length ∧ Pv (i + 1) (ys ++ [v]) H5 else i + 1 ≤ ns.length ∧ Pv (i + 1) ys H4:=by
      funext b H4
      have z : i + 1 ≤ ns.length:=hlt
      simp only [z,true_and]
    rw [e2] at key
    exact key
  · have e : i = ns.length:=by omega
    subst e
    exact .inl ⟨⟨_,hS,by rw [List.length_map]; exact Nat.le_refl _⟩,hd ys H2 p⟩
end
theorem cx_K {CX : CXT} {P : Program} {w : World} {K : PySem.W.Frag} {mg : Str → Option Value} {base : Heap} {N : List Str} {qual : Str} {scope : Scope} {f : Addr} {cd : Value} {A : Around} {outer : List Env} {s : Shared} {H : Hp} {E : XK} : (cxOf CX P w K mg base N qual scope f cd A outer s H E).K = K:=rfl
theorem cc_K {X : Cx} {N : List Str} {scope : Scope} {cl : List (Str × Addr)} {C : Addr} {s : Shared} {H : Hp} {fp : List Addr} : (compCx X N scope cl C s H fp).K = X.K:=rfl
end L2
namespace Rv
open PySem PySem.Spec PyProof.Rows
theorem lri_nolen : typeLookup (.type "list_reverseiterator") "__len__" = pure none:=by rw [typeLookup_type,builtinLookup_eq_fast]; kernel_rfl
theorem lri_hint : typeLookup (.type "list_reverseiterator") "__length_hint__" = pure (some (.builtin "list_reverseiterator.__length_hint__")):=by rw [typeLookup_type,builtinLookup_eq_fast]; kernel_rfl
section
variable {prog : Program} {w : World} {A : Around} {E : Value → Shared → Prop} {s : Shared}
theorem hint_rev {it l : Addr} {i : Int} {Q : Bool → Shared → Prop} (hit : s.heap.IsRevIter it l i) (h : Q false s) : wpAny (model prog w) A (Builtin.List.listLengthHint (.ref it)) Q E s:=by
  unfold Builtin.List.listLengthHint
  refine wpAny_bind (wpAny_specialOf hit.typeIs lri_nolen ?_)
  wp_delta
  refine wpAny_bind (wpAny_specialOf hit.typeIs lri_hint ?_)
  wp_delta
  refine wpAny_bind (wpAny_isInstance (T:="list_reverseiterator") (b:=true) hit.typeIs (by rw [isSubtype_type]; kernel_rfl) ?_)
  exact wpAny_pure h
theorem extend_rev {R : Result → Shared → Prop} {it l : Addr} {items : Array Value} (hh : A.handled = none) (hit : s.heap.IsRevIter it l ((items.size : Int) - 1)) (hl : s.heap.IsList l items) (hli : l ≠ it) (hz : items.size ≤ sizeLine)
    (S : Addr) (hSi : S ≠ it) (hSl : S ≠ l) (res : Value) (c₀ : Nat) (hS : s.heap.get? S = some { cls:=.type "list",data:=.seq #[] c₀ })
    (hR : ∀ h' tk acc' c',(∀ b o,b ≠ S → b ≠ it → s.heap.get? b = some o → h'.get? b = some o) → h'.get? S = some { cls:=.type "list",dict:=none,data:=.seq acc' c',slots:=#[] } →
      ItemsOf (fun i v=>items[items.size - 1 - i]? = some v) acc' items.size → R (.ok (.ret res)) { s with heap:=h',toks:=tk }) :
    wpAny (model prog w) A.in1 (Builtin.List.listExtendWith (.ref S) (.ref it) res)
      (fun fin s'=>match fin with | .done f=>R (.ok f) s' | .again c'=>c'.quiet = true ∧ codeAny (model prog w) A c' R s') (fun e s'=>R (.error e) s') s:=by
  have hSf : S ∉ [it,l]:=fun hm=>by
    simp only [List.mem_cons,List.not_mem_nil,or_false] at hm
    rcases hm with z | z
    · exact hSi z
    · exact hSl z
  have W:=(Walks.listRev (prog:=prog) (w:=w) (A:=A.in1) hh it l hli items).toS
  unfold Builtin.List.listExtendWith
  refine wpAny_bind (wpAny_typeOf (T:="list_reverseiterator") hit.typeIs ?_)
  have h1 : Builtin.List.listSameRef (.ref S) (.ref it) = false:=by simp [Builtin.List.listSameRef,hSi]
  have h2 : (Value.type "list_reverseiterator" == Value.type "list") = false:=by decide
  have h3 : (Value.type "list_reverseiterator" == Value.type "tuple") = false:=by decide
  simp only [h1,h2,h3,Bool.or_false,Bool.false_eq_true,if_false]
  refine wpAny_bind (wpAny_pyIter_revIter hit ?_)
  refine wpAny_bind (wpAny_holding (hint_rev hit ?_))
  rw [if_neg (by decide)]
  refine wpAny_pure ⟨plainId_quiet F.plain_extend_loop _,codeAny_extend_loopS W hz _ hSf _ items.size 0 _ _ _ rfl (Nat.zero_le _) ⟨Nat.zero_le _,by simpa using hit,hl⟩ hS (ItemsOf.nil _) fun s' acc' c' hm hS' hacc=>?_⟩
  rw [Moved.eq_with hm]
  refine hR s'.heap s'.toks acc' c' (fun b ob hb hb2 e=>hm.heap b ob (fun hmem=>?_) e) hS' hacc
  rcases List.mem_cons.mp hmem with e' | hmem
  · exact hb e'
  · exact hb2 (List.mem_singleton.mp hmem)
theorem init_rev {R : Result → Shared → Prop} {it l : Addr} {items : Array Value} (hh : A.handled = none) (hit : s.heap.IsRevIter it l ((items.size : Int) - 1)) (hl : s.heap.IsList l items) (hli : l ≠ it) (hz : items.size ≤ sizeLine)
    (S : Addr) (hSi : S ≠ it) (hSl : S ≠ l) (hS : s.heap.get? S = some { cls:=.type "list",data:=.seq #[] })
    (hR : ∀ h' tk acc' c',(∀ b o,b ≠ S → b ≠ it → s.heap.get? b = some o → h'.get? b = some o) → h'.get? S = some { cls:=.type "list",dict:=none,data:=.seq acc' c',slots:=#[] } →
      ItemsOf (fun i v=>items[items.size - 1 - i]? = some v) acc' items.size → R (.ok (.ret .none)) { s with heap:=h',toks:=tk }) :
    wpAny (model prog w) A.in1 (Builtin.«list.__init__» ⟨[.ref S,.ref it],[]⟩)
      (fun fin s'=>match fin with | .done f=>R (.ok f) s' | .again c'=>c'.quiet = true ∧ codeAny (model prog w) A c' R s') (fun e s'=>R (.error e) s') s:=by
  show wpAny _ _ (do let old ← Builtin.List.listItems (.ref S); Builtin.List.listUpdate (.ref S) (fun _=>#[]); letGo old.toList.reverse; Builtin.List.listExtendWith (.ref S) (.ref it) .none) _ _ s
  refine wpAny_bind ?_
  unfold Builtin.List.listItems
  refine wpAny_bind (wpAny_seqItems hS rfl (wpAny_pure ?_))
  show wpAny _ _ (updateSeq S (fun _=>#[]) >>= fun _=>letGo (#[] : Array Value).toList.reverse >>= fun _=>Builtin.List.listExtendWith (.ref S) (.ref it) .none) _ _ s
  refine wpAny_bind (wpAny_updateSeq hS rfl ?_)
  have hS₂:=Heap.get?_update_self (Obj.mapSeq (fun _=>(#[] : Array Value))) hS rfl
  have oth : ∀ b o,b ≠ S → s.heap.get? b = some o → (s.heap.update S (Obj.mapSeq (fun _=>(#[] : Array Value)))).get? b = some o:=
    fun b o hb e=>(Heap.get?_update_other _ _ (Ne.symm hb)).trans e
  refine wpAny_bind (wpAny_letGo ?_)
  refine extend_rev hh (hit.at fun o e=>oth it o (Ne.symm hSi) e) (hl.at fun o e=>oth l o (Ne.symm hSl) e) hli hz S hSi hSl .none _ hS₂ fun h' tk acc' c' hk hS' hacc=>?_
  exact hR h' tk acc' c' (fun b o hb hb2 e=>hk b o hb hb2 (oth b o hb e)) hS' hacc
end
section
variable {prog : Program} {w : World} {A : Around} {E : Value → Shared → Prop} {s : Shared}
theorem call_list_rev {Q : Value → Shared → Prop} {it l : Addr} {items : Array Value} (hh : A.handled = none) (hit : s.heap.IsRevIter it l ((items.size : Int) - 1)) (hl : s.heap.IsList l items) (hli : l ≠ it) (hz : items.size ≤ sizeLine)
    (hQ : ∀ h' tk acc' c',(∀ b o,b ≠ it → s.heap.get? b = some o → h'.get? b = some o) →
      h'.get? s.heap.objs.size = some { cls:=.type "list",dict:=none,data:=.seq acc' c',slots:=#[] } → ItemsOf (fun i v=>items[items.size - 1 - i]? = some v) acc' items.size → Q (.ref s.heap.objs.size) { s with heap:=h',toks:=tk }) :
    wpAny (model prog w) A (call (.type "list") [.ref it]) Q E s:=by
  refine callType_codes (Q₁:=fun obj s₁=>obj = .ref s.heap.objs.size ∧ s₁ = { s with heap:=s.heap.push { cls:=.type "list",data:=.seq #[] } }) F.called_list (F.typeCall_list_1 _) F.entry_list_init
    (code_list_new _ ⟨rfl,rfl⟩) fun obj s₁ h₁=>?_
  obtain ⟨rfl,rfl⟩:=h₁
  have hS : (s.heap.push { cls:=.type "list",data:=.seq #[] }).get? s.heap.objs.size = some { cls:=.type "list",data:=.seq #[] }:=Heap.get?_push_size _ rfl
  obtain ⟨o1,ho1,_⟩:=id hit
  obtain ⟨o2,ho2,_⟩:=id hl
  refine ⟨⟨_,hS,rfl⟩,F.args_list_init_2 _ _,init_rev (A:=A.in1) hh (hit.at fun o e=>Heap.get?_push_of_some _ e) (hl.at fun o e=>Heap.get?_push_of_some _ e) hli hz _ (Nat.ne_of_gt (Heap.lt_size ho1)) (Nat.ne_of_gt (Heap.lt_size ho2)) hS fun h' tk acc' c' hk hS' hacc=>?_⟩
  exact ⟨rfl,hQ h' tk acc' c' (fun b o hb e=>hk b o (Nat.ne_of_lt (Heap.lt_size e)) hb (Heap.get?_push_of_some _ e)) hS' hacc⟩
end
end Rv
namespace L2
open PySem PySem.Spec PyProof.Rows
def Itv (K : PySem.W.Frag) (a : Addr) (n : Nat) : It:=
  ⟨fun i H=>i < n ∧ ∃ xs,SqL K H a xs ∧ xs.length = n,fun i H x H'=>H' = H ∧ ∀ xs,SqL K H a xs → xs[n - 1 - i]? = some x,fun i _=>n ≤ i⟩
theorem turn_rev {P : Program} {w : World} {K : PySem.W.Frag} {tg : Expr} (a it : Addr) (n : Nat) : Turn P w K tg (Itv K a n) [it] it (fun i h=>i ≤ n ∧ h.IsRevIter it a ((n : Int) - 1 - (i : Int))) where
  mem:=by simp
  obj:=fun i h st b hb=>by
    have e : b = it:=by simpa using hb
    subst e
    obtain ⟨_,o,e,c,d⟩:=st
    exact ⟨o,e,fun v z=>by rw [d] at z; cases z⟩
  keep:=fun i h h' st k=>⟨st.1,st.2.at fun o e=>k it (by simp) o e⟩
  item:=by
    intro X hP hw hK hc i pins s σ H E I hf st hg
    subst hP hw hK
    obtain ⟨hi,xs,hq,hn⟩:=hg
    obtain ⟨its,rv,p,hz⟩:=I.list hq
    have hlt : n - 1 - i < xs.length:=by omega
    have hx : xs[n - 1 - i]? = some xs[n - 1 - i]:=List.getElem?_eq_getElem hlt
    obtain ⟨u,hu,ru⟩:=rv.get hx
    obtain ⟨f0,f1,f2,f3,f4,f5⟩:=hf it (by simp)
    have st2:=st.2
    rw [show (n : Int) - 1 - (i : Int) = ((n - 1 - i : Nat) : Int) by omega] at st2
    refine wpAny_pyNext_rev_item st2 p.isList (x:=u) (by simpa using hu) fun h' st' sb=>?_
    have I1 : Inv X pins σ H { s with heap:=h' }:=I.turned (t':=s.toks) (fun b o hb e=>(sb.2 b hb).trans e) f0 f1 f3 f4 f5
    rw [show ((n - 1 - i : Nat) : Int) - 1 = (n : Int) - 1 - ((i + 1 : Nat) : Int) by omega] at st'
    obtain ⟨o,e,c,d⟩:=id st'
    exact ⟨u,rfl,go_of (s:={ s with heap:=h' }) e c d (by decide) ⟨_,H,I1,ru,⟨rfl,fun ys hy=>by rw [I.list_inj hy hq]; exact hx⟩,⟨hi,st'⟩,fun b hb=>(hf b hb).1⟩⟩
  done:=by
    intro X hP hw hK hc i pins s σ H E I hf st hg
    subst hP hw hK
    obtain ⟨f0,f1,f2,f3,f4,f5⟩:=hf it (by simp)
    have hg' : n ≤ i:=hg
    have st2:=st.2
    rw [show (n : Int) - 1 - (i : Int) = -1 by have:=st.1; omega] at st2
    exact wpAny_pyNext_rev_end (I.ok.hd hc) st2 fun h' eb=>⟨rfl,I.turned (t':=s.toks) (fun b o hb e=>eb b o hb e) f0 f1 f3 f4 f5⟩
  self:=fun _ _ _ _ _ st h=>wpAny_pyIter_revIter st.2 h
section
variable {X : Cx} {tg e : Expr} {te : TE} {p p2 pos pos2 : Pos}
theorem ev_rev {pins : List (Addr × Obj)} {σ : St} {H : Hp} {s : Shared} {R : Addr → List V → Hp → Prop} (hg : Gl X "reversed") (hm : X.mg "reversed" = none) (he : PE X e te) (I : Inv X pins σ H s)
    (h : te σ H fun x H1=>∃ a xs,x = .ref a ∧ SqL X.K H1 a xs ∧ R a xs H1)
    (hs : starEach [e] X.env = (false,eval e X.env) :: starEach [] X.env:=by rfl) :
    wpAny (model X.prog X.w) X.A (eval (.Call (.Name "reversed" p) [e] [] pos) X.env) (fun v s1=>∃ it a xs H1,v = .ref it ∧ Inv X pins σ H1 s1 ∧ s1.heap.IsRevIter it a ((xs.length : Int) - 1) ∧ FpOk X pins H1 it ∧ SqL X.K H1 a xs ∧ a ≠ it ∧ R a xs H1) X.xe s:=by
  refine wpAny_Call_Name_kw (ld_blt I hg hm bt_reversed ?_ (by decide) (by decide))
  refine PyProof.Rows.callWith_type1 (thn (pa_cons he pa_nil hs pos pins s σ H (fun vs H1=>∃ a xs,vs = [.ref a] ∧ SqL X.K H1 a xs ∧ R a xs H1) I ?_) fun us s1 ⟨vs,H1,I1,r1,q1⟩=>?_) hs rfl
  · show te σ H _
    have e2 : (fun x H1=>tNil σ H1 fun xs H2=>(fun vs H1=>∃ a ys,vs = [V.ref a] ∧ SqL X.K H1 a ys ∧ R a ys H1) (x :: xs) H2) = fun x H1=>∃ a xs,x = V.ref a ∧ SqL X.K H1 a xs ∧ R a xs H1:=by
      funext x H1
      simp only [tNil,List.cons.injEq,and_true]
    have:=h
    rw [← e2] at this
    exact this
  · obtain ⟨a,xs,rfl,hq,hR⟩:=q1
    obtain ⟨u,rfl,ru⟩:=vals1 r1
    cases ru
    obtain ⟨its,rv,pl,hz⟩:=I1.list hq
    refine call_reversed_list pl.isList ?_
    have hl:=rv.length
    obtain ⟨o,ho,_⟩:=id pl.isList
    refine ⟨s1.heap.objs.size,a,xs,H1,rfl,I1.kept (t':=s1.toks) fun b o e=>Heap.get?_push_of_some _ e,⟨_,Heap.get?_push_size _ rfl,rfl,?_⟩,I1.fpOk (Nat.le_refl _) (I1.hok.fresh (Nat.le_refl _)),hq,Nat.ne_of_lt (Heap.lt_size ho),hR⟩
    simp only [revObj,List.size_toArray]
    rw [← hl]
def iRev (K : PySem.W.Frag) (tl : TE) : TI:=fun σ H R=>tl σ H fun x H1=>∃ a xs,x = .ref a ∧ SqL K H1 a xs ∧ R (Itv K a xs.length) H1
theorem pi_rev (hg : Gl X "reversed") (hm : X.mg "reversed" = none) (he : PE X e te) (hs : starEach [e] X.env = (false,eval e X.env) :: starEach [] X.env:=by rfl) : PI X tg (.Call (.Name "reversed" p) [e] [] pos) (iRev X.K te):=by
  intro pins s σ H R I h
  refine thn (ev_rev hg hm he I h hs) fun v s1 ⟨it,a,xs,H1,hv,I1,hit,hf,hq,hne,hR⟩=>?_
  subst hv
  refine wpAny_pyIter_revIter hit ?_
  refine ⟨it,[it],_,_,H1,rfl,I1,turn_rev a it xs.length,⟨Nat.zero_le _,by simpa using hit⟩,fun b hb=>?_,hR⟩
  have e : b = it:=by simpa using hb
  subst e
  exact hf
def tListRev (K : PySem.W.Frag) (te : TE) : TE:=fun σ H Q=>te σ H fun x H1=>∃ a xs,x = .ref a ∧ SqL K H1 a xs ∧ ∀ l,H1 l = none → Q (.ref l) (upd H1 l (.lst xs.reverse))
theorem pe_listRev (hc : X.calm = true) (hgl : Gl X "list") (hml : X.mg "list" = none) (hg : Gl X "reversed") (hm : X.mg "reversed" = none) (he : PE X e te)
    (hs : starEach [e] X.env = (false,eval e X.env) :: starEach [] X.env:=by rfl)
    (hs2 : starEach [.Call (.Name "reversed" p) [e] [] pos] X.env = (false,eval (.Call (.Name "reversed" p) [e] [] pos) X.env) :: starEach [] X.env:=by rfl) :
    PE X (.Call (.Name "list" p2) [.Call (.Name "reversed" p) [e] [] pos] [] pos2) (tListRev X.K te):=by
  intro pins s σ H Q I h
  refine wpAny_Call_Name_kw (ld_blt I hgl hml bt_list ?_ (by decide) (by decide))
  refine PyProof.Rows.callWith_type1 ?_ hs2 rfl
  rw [hs2]
  show wpAny _ _ (spliced ((false,eval (.Call (.Name "reversed" p) [e] [] pos) X.env) :: backTo pos2 (starEach [] X.env))) _ _ s
  refine Calls.spliced_cons (thn (ev_rev hg hm he I h hs) fun v s1 ⟨it,a,xs,H1,hv,I1,hit,hf,hq,hne,hR⟩=>?_)
  subst hv
  refine Calls.spliced_nil ?_
  obtain ⟨its,rv,pl,hz⟩:=I1.list hq
  have hl:=rv.length
  refine Rv.call_list_rev (items:=its.toArray) (I1.ok.hd hc) (by rw [List.size_toArray,← hl]; exact hit) pl.isList hne (by rw [List.size_toArray,← hl]; exact hz) fun h' tk acc' c' kp hS hacc=>?_
  obtain ⟨f0,f1,f2,f3,f4,f5⟩:=hf
  have rr : Vals xs.reverse acc'.toList:=by
    have e : acc'.toList = its.reverse:=by
      obtain ⟨sz,all⟩:=hacc
      have sz' : acc'.size = its.length:=sz.trans (by simp)
      refine List.ext_getElem (by rw [Array.length_toList,List.length_reverse,sz']) fun j h1 h2=>?_
      have h1' : j < acc'.size:=by rwa [Array.length_toList] at h1
      have:=all j acc'[j] (Array.getElem?_eq_getElem h1')
      simp only [List.size_toArray,List.getElem?_toArray] at this
      rw [List.getElem_reverse,Array.getElem_toList]
      have h3 : its.length - 1 - j < its.length:=by omega
      rw [List.getElem?_eq_getElem h3] at this
      exact (Option.some.inj this).symm
    rw [e]
    exact rv.reverse
  have hnone : H1 s1.heap.objs.size = none:=I1.hok.fresh (Nat.le_refl _)
  refine ⟨.ref s1.heap.objs.size,upd H1 s1.heap.objs.size (.lst xs.reverse),?_,rfl,hR _ hnone⟩
  have nit : ∀ b,b ∉ [it] → b ≠ it:=fun b hb z=>hb (List.mem_singleton.mpr z)
  have lts : ∀ b o,s1.heap.get? b = some o → b ≠ s1.heap.objs.size:=fun b o e=>Nat.ne_of_lt (Heap.lt_size e)
  have un : Un (frs X.stack) [it] H1 (upd H1 s1.heap.objs.size (.lst xs.reverse)) s1.heap h':=
    ⟨fun b o e _ _ hx=>kp b o (nit b hx) e,fun b o e _ _ hx=>⟨o.slots,kp b o (nit b hx) e⟩,fun b o e n _=>by rw [upd_ne (lts b o e)]; exact n,fun b o e hx=>⟨o,kp b o (nit b hx) e⟩,
      fun b zs e=>by rw [upd_ne (ne_of_none e hnone)]; exact e,fun b o u e=>by rw [upd_ne (ne_of_none e hnone)]; exact e,fun b ps e=>⟨#[],by rw [upd_ne (ne_of_none e hnone),e]; simp⟩⟩
  have hit0 : ∀ b o,H1 b = some o → b ≠ it:=fun b o e=>ne_of_none e f0
  have hok : HOk X.prog X.w (upd H1 s1.heap.objs.size (.lst xs.reverse)) h':=fun b o e=>by
    by_cases hb : b = s1.heap.objs.size
    · subst hb
      rw [upd_same] at e
      cases e
      exact ⟨by rw [List.length_reverse]; exact hz,acc'.toList,c',rr,by simpa using hS⟩
    · rw [upd_ne hb] at e
      have q : ObjOk X.prog X.w H1 s1.heap b o:=I1.hok b o e
      refine q.stay (fun c u hc e'=>kp c u ?_ e') (fun c e'=>?_) fun c zs e'=>?_
      · rcases hc with hc | hc
        · rw [hc]; exact hit0 b o e
        · exact hit0 c _ hc
      · rw [upd_ne (ne_of_none e' hnone)]; exact e'
      · rw [upd_ne (ne_of_none e' hnone)]; exact e'
  exact I1.call' (s':={ s1 with heap:=h',toks:=tk }) (ch:=[it]) rfl un hok I1.bare fun b hb=>by
    rw [List.mem_singleton.mp hb]
    exact ⟨f3,f1,f4,f5⟩
end
theorem forV {K : PySem.W.Frag} {a : Addr} {g : TG} {tb : TS} {D : Ends} {σ : St} {H : Hp} (ns : List Int) (Pv : Nat → St → Hp → Prop) {n : Nat} (hn : n = ns.length) (h0 : Pv 0 σ H) (hl : ∀ i σ H,Pv i σ H → SqL K H a (ns.map V.int))
    (hs : ∀ i (x : Int) σ H,ns.reverse[i]? = some x → Pv i σ H → g (.int x) σ H fun σ2 H2=>tb { D with nx:=Pv (i + 1),ct:=Pv (i + 1),bk:=D.nx } σ2 H2) (hd : ∀ σ H,Pv ns.length σ H → D.nx σ H) : ForIt (Itv K a n) g tb D σ H:=by
  subst hn
  refine ⟨fun i m σ H=>m = ns.length - i ∧ i ≤ ns.length ∧ Pv i σ H,⟨ns.length,by simp,Nat.zero_le _,h0⟩,?_⟩
  rintro i m σ H ⟨rfl,hi,p⟩
  have q:=hl i σ H p
  by_cases hlt : i < ns.length
  · refine .inr ⟨⟨hlt,_,q,by simp⟩,Pv (i + 1),fun σ' H' p'=>⟨ns.length - (i + 1),by omega,rfl,hlt,p'⟩,fun x H' y=>?_⟩
    obtain ⟨e,y⟩:=y
    subst e
    have y':=y _ q
    rw [List.getElem?_map] at y'
    have hr : ns.reverse[i]? = ns[ns.length - 1 - i]?:=List.getElem?_reverse hlt
    cases z : ns[ns.length - 1 - i]? with
    | none=>rw [z] at y'; cases y'
    | some v=>
      rw [z] at y'
      cases y'
      exact hs i v σ _ (hr.trans z) p
  · have e : i = ns.length:=by omega
    subst e
    exact .inl ⟨Nat.le_refl _,hd σ H p⟩
theorem cut_to {α : Type} (f : α → V) (xs : List α) {k : Int} (hk : 0 ≤ k) : cutV (xs.map f) none (some k) = (xs.take k.toNat).map f:=by
  obtain ⟨n,rfl⟩ : ∃ n : Nat,k = (n : Int):=⟨k.toNat,by omega⟩
  unfold cutV
  rw [HT.sIx_none,HT.sIx_nat,List.drop_zero,Nat.sub_zero,Int.toNat_natCast,List.map_take]
  rcases Nat.le_total n (xs.map f).length with h | h
  · rw [Nat.min_eq_left h]
  · rw [Nat.min_eq_right h,List.take_of_length_le (Nat.le_refl _),List.take_of_length_le h]
theorem cut_from {α : Type} (f : α → V) (xs : List α) {k : Int} (hk : 0 ≤ k) : cutV (xs.map f) (some k) none = (xs.drop k.toNat).map f:=by
  obtain ⟨n,rfl⟩ : ∃ n : Nat,k = (n : Int):=⟨k.toNat,by omega⟩
  unfold cutV
  rw [HT.sIx_none,HT.sIx_nat,Int.toNat_natCast,List.map_drop]
  rcases Nat.le_total n (xs.map f).length with h | h
  · rw [Nat.min_eq_left h,List.take_of_length_le (by rw [List.length_drop]; exact Nat.le_refl _)]
  · rw [Nat.min_eq_right h,List.drop_of_length_le (Nat.le_refl _),List.drop_of_length_le h]
    simp
theorem newH {H H1 : Hp} {p : Addr} {o : HO} (e : upd H p o = H1) (n : H p = none) : Same H H1 ∧ H1 p = some o:=by
  subst e
  exact ⟨same_new n o,upd_same⟩
theorem w_tyl {K : PySem.W.Frag} {p : Addr} {H : Hp} : tyV K "list" (.ref p) H = ∃ xs,SqL K H p xs:=by
  unfold tyV
  simp
section
variable {K : PySem.W.Frag} {H : Hp} {a b : Addr} {ns ms : List Int} {Q : VK}
theorem eqv_il : PyData.eqv (.list (ns.map PyData.int)) (.list (ms.map PyData.int)) = decide (ns = ms):=by
  rw [← eqvAll_ints]
  simp only [PyData.eqv]
theorem canLay_ints : ∀ ns : List Int,PyData.canLayAll0 (ns.map PyData.int) = true
  | []=>by simp [PyData.canLayAll0]
  | n :: r=>by simp [PyData.canLayAll0,PyData.canLay0,canLay_ints r]
theorem depth_ints : ∀ ns : List Int,PyData.depthAll (ns.map PyData.int) = 0
  | []=>by simp [PyData.depthAll]
  | n :: r=>by simp [PyData.depthAll,PyData.depth,depth_ints r]
theorem shaped_l (ns : List Int) : SeqAt.shaped (.list (ns.map PyData.int)) = true:=by
  unfold SeqAt.shaped
  simp [PyData.canLay0,PyData.depth,canLay_ints,depth_ints]
theorem neL (h : SqL K H a (ns.map V.int)) (h' : SqL K H b (ms.map V.int)) (q : Q (.bl (!decide (ns = ms))) H) : rEqD K true (.ref a) (.ref b) H Q:=by
  refine ⟨_,_,.lst h (DatVs.ints ns),.lst h' (DatVs.ints ms),shaped_l ns,shaped_l ms,?_⟩
  rw [if_pos rfl,eqv_il]
  exact q
end
theorem seqI {t u : TS} {D : Ends} {σ : St} {H : Hp} (h : t { D with nx:=u D } σ H) : tSeq t u D σ H:=h
section
variable {X : Cx}
theorem call_intB : CallR X (.type "int") (fun xs H Q=>∃ k,xs = [.bl k] ∧ Q (.int (if k = true then 1 else 0)) H):=fun pins s σ H xs us Q I r ⟨k,e,q⟩=>call_int1 pins s σ H xs us Q I r (.inr ⟨k,e,q⟩)
end
end L2
namespace Ul
open PySem PySem.Spec PyProof.Rows
section
variable {prog : Program} {w : World} {A : Around} {E : Value → Shared → Prop}
variable {s : Shared}
end
end Ul
namespace L2
open PySem PySem.Spec PyProof.Rows
section
variable {X : Cx} {pos : Pos}
def gLst (K : PySem.W.Frag) (n : Nat) (t : TGs) : TG:=fun v σ H Q=>∃ a xs,v = .ref a ∧ SqL K H a xs ∧ xs.length = n ∧ t xs σ H Q
theorem hu1 {n : Nat} (h : n + 64 < cLine) : n + 1 < cLine:=by omega
end
end L2
namespace L2
open PySem PySem.Spec PyProof.Rows
def CXE (P : Program) (w : World) : CXT:=fun outer H s E e s'=>∃ (ea t : Addr) (C : Value) (vs : List Value) (B : Heap) (H' : Hp),e = .ref ea ∧ s'.os = s.os ∧ AllBare s'.gens ∧ Heap.FlyingW B outer ea C (.ref t) s'.heap ∧ s'.heap.TupAt t vs ∧ B.get? t = none ∧
  HOk P w H' B ∧ (∀ b o,s.heap.get? b = some o → H b = none → b ∉ frs outer → B.get? b = some o) ∧ (∀ b o,s.heap.get? b = some o → b ∉ frs outer → ∃ o',B.get? b = some o') ∧ Un (frs outer) [] H H' s.heap s'.heap ∧ E C none H'
section
variable {X : Cx} {pins : List (Addr × Obj)} {σ : St} {H H1 : Hp} {s s1 : Shared}
theorem frs_cons {env : Env} {L : Addr} {l : List Env} (h : env.frame = some L) {b : Addr} : b ∈ frs (env :: l) ↔ b = L ∨ b ∈ frs l:=by
  unfold frs
  rw [List.filterMap_cons,h]
  exact List.mem_cons
theorem Inv.old (I : Inv X pins σ H s) {b : Addr} {o : Obj} (e : X.s₀.heap.get? b = some o) : b ≠ X.env.locals:=fun z=>by
  have h1 : @LT.lt Nat instLTNat b X.s₀.heap.objs.size:=Heap.lt_size e
  have h2 : @LE.le Nat _ X.s₀.heap.objs.size X.env.locals:=I.ok.above
  have z' : @Eq Nat b X.env.locals:=z
  omega
theorem hid_ok {fs : List Addr} (I : Inv X pins σ H s) (hf : ∀ b ∈ fs,H b = none) : HOk X.prog X.w H (PySem.W.hideAll s.heap fs):=fun a o e=>by
  have q : ObjOk X.prog X.w H s.heap a o:=I.hok a o e
  refine q.stay (fun c u hc e'=>PySem.W.hideAll_get _ e' fun z=>?_) (fun c e'=>e') fun c zs e'=>e'
  have h0:=hf c z
  rcases hc with hc | hc
  · rw [hc,e] at h0; cases h0
  · rw [hc] at h0; cases h0
theorem thr {M : Model} {h' : Heap} {ea : Addr} {C : Value} {vs : List Value} {E : XK} {EE : Value → Shared → Prop} (hst : X.stack = X.env :: X.outer) (hfr : X.env.frame = some X.env.locals) (hex : X.ex = []) (I : Inv X pins σ H s)
    (hx : Heap.MadeExcOf s.heap h' ea C vs) (hE : E C none H) :
    wpAny M X.A (leaving X.env (.ref ea)) (fun _ s''=>CXE X.prog X.w X.outer X.H₀ X.s₀ E (.ref ea) s'') EE { s with heap:=h' }:=by
  have hA : X.A.frames = some (X.env :: X.outer):=by rw [← hst]; exact I.ok.frames
  have fstk : ∀ b ∈ frs (X.env :: X.outer),H b = none:=by rw [← hst]; exact I.stkFree
  have hfun : s.heap.FunFrames X.base (X.env :: X.outer):=by rw [← hst]; exact I.stack
  have hin : ∀ env ∈ (X.env :: X.outer),∀ b,env.frame = some b → b ∈ frs (X.env :: X.outer):=fun env he b hb=>List.mem_filterMap.mpr ⟨env,he,hb⟩
  refine wpAny_leaves_madeW (base:=PySem.W.hideAll s.heap (frs (X.env :: X.outer))) hA hfr (fun b o q=>PySem.W.of_hideAll _ q) (PySem.W.funFrames_hide hfun hin) hx fun h2 t fly tup tn up=>?_
  have u:=I.base
  rw [hex] at u
  have keepB : ∀ b o,X.s₀.heap.get? b = some o → X.H₀ b = none → b ∉ frs X.outer → (PySem.W.hideAll s.heap (frs (X.env :: X.outer))).get? b = some o:=fun b o e n nf=>by
    refine PySem.W.hideAll_get _ (u.keep b o e n nf (by simp)) fun z=>?_
    rcases (frs_cons hfr).mp z with z | z
    · exact I.old e z
    · exact nf z
  have slots : ∀ b o,s.heap.get? b = some o → b ∈ frs (X.env :: X.outer) → ∃ sl,h2.get? b = some { o with slots:=sl }:=fun b o e hb=>by
    obtain ⟨_,o',ho',hd⟩:=hfun.mem hb
    rw [e] at ho'
    cases ho'
    exact up b o (hx.keeps _ _ e) hd
  have thereB : ∀ b o,X.s₀.heap.get? b = some o → b ∉ frs X.outer → ∃ o',(PySem.W.hideAll s.heap (frs (X.env :: X.outer))).get? b = some o':=fun b o e nf=>by
    obtain ⟨o',e1⟩:=u.there b o e (by simp)
    refine ⟨o',PySem.W.hideAll_get _ e1 fun z=>?_⟩
    rcases (frs_cons hfr).mp z with z | z
    · exact I.old e z
    · exact nf z
  refine ⟨ea,t,C,vs,_,H,rfl,I.os,I.bare,fly,tup,tn,hid_ok I fstk,keepB,thereB,?_,hE⟩
  refine ⟨fun b o e n nf _=>fly.1 _ _ (keepB b o e n nf),fun b o e n hb _=>?_,fun b o e n _=>u.free b o e n (by simp),fun b o e _=>?_,u.tups,u.frzs,u.tbls⟩
  · obtain ⟨sl,e1⟩:=u.slot b o e n hb (by simp)
    obtain ⟨sl',e2⟩:=slots b _ e1 ((frs_cons hfr).mpr (.inr hb))
    exact ⟨sl',e2⟩
  · obtain ⟨o',e1⟩:=u.there b o e (by simp)
    by_cases hb : b ∈ frs (X.env :: X.outer)
    · obtain ⟨sl,e2⟩:=slots b _ e1 hb
      exact ⟨_,e2⟩
    · exact ⟨o',fly.1 _ _ (PySem.W.hideAll_get _ e1 hb)⟩
end
abbrev bmV : List Value:=[.type "ValueError",.type "Exception",.type "BaseException",.type "object"]
abbrev ExcK (K : PySem.W.Frag) (C : Addr) : Prop:=PySem.W.excIn K C bmV "ValueError.__new__" = true
theorem own_at {K : PySem.W.Frag} {h : Heap} {mg : Str → Option Value} {x : Str} {C : Addr} (X : K.In h) (e : mg x = some (.ref C)) (q : ExcK K C) : OwnCls x C bmV "ValueError.__new__" mg h:=by
  refine ⟨e,?_⟩
  unfold ExcK PySem.W.excIn at q
  split at q
  · rename_i dd cd sl ho
    split at q
    · rename_i C' bm k0 k1 k2 k3 n k5 hm hs
      simp only [Bool.and_eq_true,beq_iff_eq,Bool.not_eq_true'] at q
      obtain ⟨⟨⟨⟨⟨rfl,rfl⟩,hdel⟩,ht⟩,hok⟩,hni⟩:=q
      obtain ⟨nm,bs,mro,ns,qn,hd,sn,sub,ab,col,del⟩:=cd
      dsimp only at hm hdel hok hni
      subst hm hdel
      have hsl : sl = #[k0,k1,k2,k3,some (.builtin "ValueError.__new__"),k5]:=by
        obtain ⟨l⟩:=sl
        simp only at hs
        rw [hs]
      subst hsl
      exact ⟨bm,ns,nm,qn,bs,hd,sn,sub,ab,col,dd,k0,k1,k2,k3,k5,_,X _ _ ho,.of_isNs (PySem.W.isNs_of_in X hok),PySem.W.nsMap_none_of_in X hok hni,PySem.W.tail_of_in X ht⟩
    · cases q
  · cases q
def Thr (X : Cx) (E : XK) : Prop:=∀ (pins : List (Addr × Obj)) (σ : St) (H : Hp) (s : Shared) (h' : Heap) (ea : Addr) (C : Value) (vs : List Value),Inv X pins σ H s → Heap.MadeExcOf s.heap h' ea C vs → E C none H → X.xe (.ref ea) { s with heap:=h' }
def tRaise (C : Addr) (E : XK) (ta : TA) : TS:=fun _ σ H=>ta σ H fun vs H1=>vs.length ≤ sizeLine ∧ E (.ref C) none H1
section
variable {X : Cx} {x : Str} {C : Addr} {np cpos pos : Pos} {e : Expr} {es : List Expr} {ta : TA} {E : XK}
theorem ps_raise (hT : Thr X E) (hc : X.calm = true) (hg : Gl X x) (hm : X.mg x = some (.ref C)) (q : ExcK X.K C) (ha : PA X (e :: es) ta)
    (he : starEach (e :: es) X.env = (false,eval e X.env) :: starEach es X.env:=by rfl) (hpl : (backTo cpos (starEach es X.env)).any (·.1) = false:=by rfl) (hdb : (x == ("__debug__" : Str)) = false:=by decide) :
    PS X (.Raise (some (.Call (.Name x np) (e :: es) [] cpos)) none pos) (tRaise C E ta):=by
  intro pins s σ H D I h
  have O:=own_at I.ok.mod.kin hm q
  obtain ⟨tl,N,nm,qq,bs,hdct,sn,sub,ab,col,dd,k0,k1,k2,k3,k5,mN,hC,hN,hni,T⟩:=O.obj
  refine wpAny_Raise_call_subT (C:=C) (nm:=nm) (q:=qq) (N:=N) (bs:=bs) (bm:=tl) (hdct:=hdct) (sn:=sn) (sub:=sub) (ab:=ab) (col:=col) (dd:=dd) (k0:=k0) (k1:=k1) (k2:=k2) (k3:=k3) (k5:=k5)
    PySem.F.excBase_ValueError (mN:=mN) (T.hasType PySem.F.excBase_ValueError.hasBase) (I.ok.hd hc) (by rw [he]; show (false || (backTo cpos (starEach es X.env)).any (·.1)) = false; rw [hpl]; rfl) hni (ld_glob I hg hm ⟨rfl,?_⟩ hdb)
  have ha':=ha cpos pins s σ H _ I h
  rw [he] at ha' ⊢
  exact Calls.evalArgs_plain (thn ha' fun us s2 ⟨vs,H1,I1,r,z,hE⟩=>⟨rfl,by rw [← r.length]; exact z,I1.bk _ _ hC,hN.keeps I1.bk,T.keeps I1.bk,fun h' ea hx=>hT pins σ H1 s2 h' ea _ us I1 hx hE⟩)
end
section
variable {P : Program} {w : World} {K : PySem.W.Frag} {mg : Str → Option Value} {base : Heap}
theorem Fun.okE {x qual : Str} {st : Stmt} {f : Addr} {fd : FuncData} {N ps : List Str} {k : Nat} {sp : Sp} (F : Fun K x qual st f fd) (S : FnScope N ps (defScope st)) (len : ∀ vs H Q E,sp vs H Q E → vs.length = ps.length)
    (hbody : ∀ (cdv : Value) (A : Around) (outer : List Env) (s : Shared) (H : Hp) (vs : List V) (Q : VK) (E : XK),Room k (A.deeper (envOfC qual (defScope st) s.heap.objs.size f cdv)) → sp vs H Q E →
      ∃ t,PSs (cxOf (CXE P w) P w K mg base N qual (defScope st) f cdv A outer s H E) (defBody st) t ∧ t { nx:=fun _ H'=>Q .non H',rt:=Q } (start N vs) H) : FnOk P w K mg base (CXE P w) (k + 1) f fd ps sp:=by
  obtain ⟨oc,od,kV,doc,pm,an,cdv,ct,osl,rfl,lk,hcd⟩:=F.ex
  refine fn_of lk hcd S len fun A outer s H vs Q E hr hsp=>?_
  obtain ⟨t,h,q⟩:=hbody cdv A outer s H vs Q E hr hsp
  exact ⟨t,h,q⟩
variable {N : List Str} {qual : Str} {scope : Scope} {f : Addr} {cd : Value} {A : Around} {outer : List Env} {s : Shared} {H : Hp} {E : XK}
theorem thrE : Thr (cxOf (CXE P w) P w K mg base N qual scope f cd A outer s H E) E:=fun _ _ _ _ _ _ _ _ I hx hE=>thr rfl rfl rfl I hx hE
end
theorem pass00 {P : Program} {w : World} {X : Cx} : Passes (CXE P w) X E0:=fun _ _ _ _ _ _ _ hc=>by
  obtain ⟨_,_,_,_,_,_,_,_,_,_,_,_,_,_,_,_,hE⟩:=hc
  exact hE.elim
structure DefE (P : Program) (w : World) (K : PySem.W.Frag) (mg : Str → Option Value) (base : Heap) (x : Str) (k : Nat) (ps : List Str) (sp : Sp) : Prop where
  ex : ∃ (f : Addr) (fd : FuncData),FnOk P w K mg base (CXE P w) k f fd ps sp ∧ Binds K fd ps [] ∧ PySem.W.keepIn K (.ref f) = true ∧ mg x = some (.ref f)
theorem defE_mk {P : Program} {w : World} {K : PySem.W.Frag} {mg : Str → Option Value} {base : Heap} {x qual : Str} {st : Stmt} {f : Addr} {fd : FuncData} {k : Nat} {ps : List Str} {sp : Sp} (F : Fun K x qual st f fd)
    (ok : FnOk P w K mg base (CXE P w) k f fd ps sp) (b : Binds K fd ps []) (m : mg x = some (.ref f)) : DefE P w K mg base x k ps sp:=⟨⟨f,fd,ok,b,F.kp,m⟩⟩
section
variable {X : Cx} {x : Str} {j k : Nat} {ps : List Str} {sp : Sp} {p pos : Pos} {e : Expr} {es : List Expr} {t : TA} {E : XK}
theorem pe_defE (hx : Passes (CXE X.prog X.w) X E) (D : DefE X.prog X.w X.K X.mg X.base x j ps sp) (hr : Room k X.A) (hg : Gl X x) (ha : PA X (e :: es) t) (hjk : j ≤ k:=by decide) (hdb : (x == ("__debug__" : Str)) = false:=by decide)
    (he : starEach (e :: es) X.env = (false,eval e X.env) :: starEach es X.env:=by rfl) (hpl : (backTo pos (starEach es X.env)).any (·.1) = false:=by rfl) :
    PE X (.Call (.Name x p) (e :: es) [] pos) (tCall sp [] E t):=by
  obtain ⟨f,fd,ok,b,kp,m⟩:=D.ex
  exact pe_call ok (hr.mono hjk) hg m kp b .nil hx ha hdb he hpl
theorem ps_nox {st : Stmt} {t : TS} (h : PS X.nox st t) : PS X st t:=fun pins s σ H D I hw=>
  wpAny_mono (h pins s σ H D (I.wish _) hw) (fun _ _ q=>SP.unwish q) fun _ _ z=>z.elim
end
end L2
namespace L2
open PySem PySem.Spec PyProof.Rows
section
variable {X : Cx} {pins pins' : List (Addr × Obj)} {σ : St} {H H1 H' : Hp} {s s1 s' : Shared} {E : Value → Shared → Prop}
def tCallX (sp : Sp) (EE : St → XK) (t : TA) : TE:=fun σ H Q=>t σ H fun vs H1=>sp vs H1 Q (EE σ)
end
section
variable {X : Cx} {x : Str} {j k : Nat} {ps : List Str} {sp : Sp} {p pos : Pos} {e : Expr} {es : List Expr} {t : TA} {EE : St → XK}
end
section
variable {X : Cx} {body suite : List Stmt} {b₀ : Stmt} {D : Addr} {cx : Str} {np hpos pos : Pos} {tb : (St → XK) → TS} {ts : TS}
def tTry (K : PySem.W.Frag) (D : Addr) (tb : (St → XK) → TS) (ts : TS) : TS:=fun En σ H=>tb (fun σ1 C _ H1=>PySem.W.exmOne K C (.ref D) = some true ∧ ts En σ1 H1) En σ H
end
def clK (K : PySem.W.Frag) (x : Str) : Addr:=match PySem.W.nsIn K mainGlobals x with
  | some (some (.ref C))=>C
  | _=>0
theorem clK_of {K : PySem.W.Frag} {x : Str} {C : Addr} (h : PySem.W.nsIn K mainGlobals x = some (some (.ref C))) : clK K x = C:=by
  unfold clK
  rw [h]
end L2
namespace Xc
open PySem PySem.W PySem.Spec PySem.Calls PyProof.Rows Builtin.ObjectAttr
section
variable {prog : Program} {w : World} {A : Around} {E : Value → Shared → Prop} {s : Shared} {K : Frag} {x C : Addr} {ox : Obj} {odo : Option Obj}
theorem typ {M : Model} {h : Heap} (hx : h.get? x = some ox) (hc : ox.cls = .ref C) : Looks M h (typeOf (.ref x)) (.ref C):=hc ▸ (Looks.ld hx).andThen .now
open Builtin Builtin.Getset_descriptor in
theorem exc_get {tp : Value} {R : Result → Shared → Prop} (X : K.In s.heap) (hx : s.heap.get? x = some ox) (hc : ox.cls = .ref C) (hm : mroIn K C (.type "object") = some true)
    (h : R (.ok (.ret (.ref C))) s) : codeAny (model prog w) A (.call (.builtin "getset_descriptor.__get__") ⟨[.builtin "object.__class__",.ref x,tp],[]⟩) R s:=by
  obtain ⟨hh,g,dr,t,os⟩:=s
  have L0:=typ (M:=model prog w) hx hc
  have L1:=looks_mroIn (M:=model prog w) X hm
  refine codeAny_call_builtin KF.slot_gs.plain KF.entry_gs (KF.slot_gs.check _ _ _ _ _ _ _ _ KF.type_class (KF.args_gs _ _ _) ?_)
  unfold Builtin.«getset_descriptor.__get__» descrGet
  rw [dga_obj]
  refine wpAny_bind (wpAny_pure ?_)
  unfold descrGetter descrCheckInstance descrNameAndClass isInstance
  simp only [KF.owner_class]
  repeat lk
  refine ⟨Code.quiet_builtin _ (by decide +kernel),codeAny_builtin KF.entry_class ?_⟩
  unfold Builtin.«object.__class__» shownTypeOf
  repeat lk
  exact h
end
end Xc
namespace L2
open PySem PySem.Spec PyProof.Rows
def ExcO (a C : Addr) : HO:=.ext fun h=>∃ ox : Obj,h.get? a = some ox ∧ ox.cls = .ref C
section
variable {X : Cx} {pins : List (Addr × Obj)} {σ : St} {H H1 H' : Hp} {s s1 s' : Shared}
end
section
variable {X : Cx} {body suite : List Stmt} {b₀ : Stmt} {D : Addr} {cx n : Str} {i : Nat} {np hpos pos : Pos} {tb : (St → XK) → TS} {ts : TS}
def Ends.gone (En : Ends) (i : Nat) : Ends:=⟨fun σ H=>En.nx (σ.set i none) H,En.rt,fun σ H=>En.bk (σ.set i none) H,fun σ H=>En.ct (σ.set i none) H⟩
def tTryAs (K : PySem.W.Frag) (D : Addr) (i : Nat) (tb : (St → XK) → TS) (ts : TS) : TS:=fun En σ H=>
  tb (fun σ1 C _ H1=>PySem.W.exmOne K C (.ref D) = some true ∧ ∃ Ca,C = .ref Ca ∧ ∀ ea,H1 ea = none → ts (En.gone i) (σ1.set i (some (.ref ea))) (upd H1 ea (ExcO ea Ca))) En σ H
end
end L2
namespace L2
open PySem PySem.Spec PyProof.Rows
section
variable {X : Cx}
end
end L2
namespace L2
open PySem PySem.Spec PyProof.Rows
section
variable {X : Cx} {pins : List (Addr × Obj)} {σ : St} {H : Hp} {s : Shared} {h' : Heap}
theorem Inv.turned2 {t' : Nat} {a e it : Addr} {o : HO} (I : Inv X pins σ H s) (k : ∀ b u,b ≠ e → b ≠ it → s.heap.get? b = some u → h'.get? b = some u) (ha : a = s.heap.objs.size) (new : ObjOk X.prog X.w (upd H a o) h' a o) (fe : FpOk X pins H e) (fi : FpOk X pins H it) :
    Inv X pins σ (upd H a o) { s with heap:=h',toks:=t' }:=by
  have hnone : H a = none:=I.hok.fresh (by rw [ha]; exact Nat.le_refl _)
  have lts : ∀ b u,s.heap.get? b = some u → b ≠ a:=fun b u q=>by rw [ha]; exact Nat.ne_of_lt (Heap.lt_size q)
  have nin : ∀ b,b ∉ [e,it] → b ≠ e ∧ b ≠ it:=fun b hb=>⟨fun z=>hb (by simp [z]),fun z=>hb (by simp [z])⟩
  have ntr : ∀ b u,H b = some u → b ≠ e ∧ b ≠ it:=fun b u q=>⟨ne_of_none q fe.1,ne_of_none q fi.1⟩
  refine I.step (g':=s.gens) (d':=s.drawn) (ch:=[e,it]) (fun b hb=>?_) (fun b u _ _ hc q _=>k b u (nin b hc).1 (nin b hc).2 q) (fun b u _ _ hc q _=>⟨u.slots,k b u (nin b hc).1 (nin b hc).2 q⟩) (fun b u _ q n=>by rw [upd_ne (lts b u q)]; exact n)
    (fun b u hc q=>⟨u,k b u (nin b hc).1 (nin b hc).2 q⟩) (fun b zs q=>by rw [upd_ne (ne_of_none q hnone)]; exact q) (fun b u v q=>by rw [upd_ne (ne_of_none q hnone)]; exact q) (fun b ps q=>⟨#[],by rw [upd_ne (ne_of_none q hnone),q]; simp⟩) (fun m hm=>?_) (fun b u q=>?_) I.bare
  · have fb : FpOk X pins H b:=by
      rcases List.mem_cons.mp hb with z | z
      · rw [z]; exact fe
      · rw [List.mem_singleton.mp z]; exact fi
    obtain ⟨f0,f1,f2,f3,f4,f5⟩:=fb
    exact ⟨f3,f1,f4,f5⟩
  · obtain ⟨u,es,ep,ho,r⟩:=hm
    exact ⟨u,es,ep,k _ u (Ne.symm fe.2.1) (Ne.symm fi.2.1) ho,r⟩
  · by_cases hb : b = a
    · subst hb
      rw [upd_same] at q
      cases q
      exact new
    · rw [upd_ne hb] at q
      have w : ObjOk X.prog X.w H s.heap b u:=I.hok b u q
      have ntr' : ∀ c,(c = b ∨ ∃ u,H c = some u) → c ≠ e ∧ c ≠ it:=fun c hc=>by
        rcases hc with z | ⟨_,z⟩
        · rw [z]; exact ntr b u q
        · exact ntr c _ z
      refine w.stay (fun c v hc q'=>k c v (ntr' c ?_).1 (ntr' c ?_).2 q') (fun c q'=>?_) fun c zs q'=>?_
      · rcases hc with z | z
        · exact .inl z
        · exact .inr ⟨_,z⟩
      · rcases hc with z | z
        · exact .inl z
        · exact .inr ⟨_,z⟩
      · rw [upd_ne (ne_of_none q' hnone)]; exact q'
      · rw [upd_ne (ne_of_none q' hnone)]; exact q'
end
def Ite (K : PySem.W.Frag) (a : Addr) : It:=
  ⟨fun i H=>∃ xs x,SqL K H a xs ∧ xs[i]? = some x,fun i H x H'=>∃ y t,(∀ xs,SqL K H a xs → xs[i]? = some y) ∧ H t = none ∧ x = .ref t ∧ H' = upd H t (.tup [.int (i : Int),y]),fun i H=>∃ xs,SqL K H a xs ∧ xs.length ≤ i⟩
theorem turn_enum {P : Program} {w : World} {K : PySem.W.Frag} {elts : List Expr} {x1} {tp : Pos} (a e it : Addr) (hne : e ≠ it) : Turn P w K (.Tuple elts x1 tp) (Ite K a) [e,it] e (fun i h=>(∃ old,IsEnum h e it ((i : Nat) : Int) old) ∧ h.IsListIter it a i) where
  mem:=by simp
  obj:=fun i h st b hb=>by
    obtain ⟨⟨old,he⟩,o,ho,c,d⟩:=st
    rcases List.mem_cons.mp hb with z | z
    · subst z
      exact ⟨_,he,fun v z=>by
        have z' : Data.fields _ = Data.cell v:=z
        cases z'⟩
    · rw [List.mem_singleton.mp z]
      exact ⟨o,ho,fun v z=>by rw [d] at z; cases z⟩
  keep:=fun i h h' st k=>by
    obtain ⟨⟨old,he⟩,hi⟩:=st
    exact ⟨⟨old,k e (by simp) _ he⟩,hi.at fun o q=>k it (by simp) o q⟩
  item:=by
    intro X hP hw hK hc i pins s σ H E I hf st hg
    subst hP hw hK
    obtain ⟨xs,x,hq,hx⟩:=hg
    obtain ⟨its,rv,p,hz⟩:=I.list hq
    obtain ⟨u,hu,ru⟩:=rv.get hx
    obtain ⟨⟨old,he⟩,hit⟩:=st
    have fe:=hf e (by simp)
    have fi:=hf it (by simp)
    have hel : e < s.heap.objs.size:=Heap.lt_size he
    refine wpAny_pyNext_enum_item he hit p.isList (x:=u) (by simpa using hu) hne fun h1 he1 hit1 ht1 hz1 hk1=>⟨_,rfl,?_⟩
    refine wpAny_letOwnedTupleGo_enum he1 fun h2 he2 hs2=>?_
    have hs2' : Heap.SameBut e h1 h2:=hs2
    have hnone : H s.heap.objs.size = none:=I.hok.fresh (Nat.le_refl _)
    refine ⟨.ref s.heap.objs.size,upd H s.heap.objs.size (.tup [.int (i : Int),x]),I.turned2 (t':=s.toks + 1) (e:=e) (it:=it) (fun b o hb1 hb2 q=>(hs2'.2 b hb1).trans (hk1 b o hb1 hb2 q)) rfl ?_ fe fi,rfl,⟨x,_,fun ys hy=>by rw [I.list_inj hy hq]; exact hx,hnone,rfl,rfl⟩,⟨⟨_,by rw [Int.natCast_add]; exact he2⟩,hit1.extBut hs2'.extBut (Ne.symm hne)⟩,fun b hb=>?_⟩
    · exact ⟨by show 2 ≤ sizeLine; decide,[.int i s.toks,u],.cons ⟨_,rfl⟩ (.cons ru .nil),⟨_,(hs2'.2 _ (Nat.ne_of_gt hel)).trans ht1,rfl,_,rfl⟩⟩
    · have hb0 : H b = none:=(hf b hb).1
      have hbl : b < s.heap.objs.size:=by
        rcases List.mem_cons.mp hb with z | z
        · rw [z]; exact hel
        · rw [List.mem_singleton.mp z]
          obtain ⟨o,ho,_⟩:=id hit
          exact Heap.lt_size ho
      rw [upd_ne (Nat.ne_of_lt hbl)]
      exact hb0
  done:=by
    intro X hP hw hK hc i pins s σ H E I hf st hg
    subst hP hw hK
    obtain ⟨xs,hq,hx⟩:=hg
    obtain ⟨its,rv,p,hz⟩:=I.list hq
    obtain ⟨⟨old,he⟩,hit⟩:=st
    obtain ⟨f0,f1,f2,f3,f4,f5⟩:=hf it (by simp)
    have hl:=rv.length
    exact wpAny_pyNext_enum_end (I.ok.hd hc) he hit p.isList (by simp; omega) fun h' eb=>⟨rfl,I.turned (t':=s.toks) (fun b o hb q=>eb b o hb q) f0 f1 f3 f4 f5⟩
  self:=fun _ _ _ _ _ ⟨⟨_,he⟩,_⟩ h=>wpAny_pyIter_enum he h
section
variable {X : Cx} {e : Expr} {te : TE} {p p2 pos pos2 : Pos}
def iEnum (K : PySem.W.Frag) (tl : TE) : TI:=fun σ H R=>tl σ H fun x H1=>∃ a,x = .ref a ∧ (∃ xs,SqL K H1 a xs) ∧ R (Ite K a) H1
theorem pi_enum {elts : List Expr} {x1} {tp : Pos} (hg : Gl X "enumerate") (hm : X.mg "enumerate" = none) (he : PE X e te) (hs : starEach [e] X.env = (false,eval e X.env) :: starEach [] X.env:=by rfl) : PI X (.Tuple elts x1 tp) (.Call (.Name "enumerate" p) [e] [] pos) (iEnum X.K te):=by
  intro pins s σ H R I h
  refine wpAny_Call_Name_kw (ld_blt I hg hm PyProof.Rows.boot_enumerate ?_ (by decide) (by decide))
  refine PyProof.Rows.callWith_type1 (thn (pa_cons he pa_nil hs pos pins s σ H (fun vs H1=>∃ a,vs = [.ref a] ∧ (∃ xs,SqL X.K H1 a xs) ∧ R (Ite X.K a) H1) I ?_) fun us s1 ⟨vs,H1,I1,r1,q1⟩=>?_) hs rfl
  · show te σ H _
    have e2 : (fun x H1=>tNil σ H1 fun xs H2=>(fun vs H1=>∃ a,vs = [V.ref a] ∧ (∃ xs,SqL X.K H1 a xs) ∧ R (Ite X.K a) H1) (x :: xs) H2) = fun x H1=>∃ a,x = V.ref a ∧ (∃ xs,SqL X.K H1 a xs) ∧ R (Ite X.K a) H1:=by
      funext x H1
      simp only [tNil,List.cons.injEq,and_true]
    have:=h
    unfold iEnum at this
    rw [← e2] at this
    exact this
  · obtain ⟨a,rfl,⟨xs,hq⟩,hR⟩:=q1
    obtain ⟨u,rfl,ru⟩:=vals1 r1
    cases ru
    obtain ⟨its,rv,pl,hz⟩:=I1.list hq
    refine call_enumerate_list pl.isList fun h' he' hit hz' hk=>?_
    refine wpAny_pyIter_enum he' ?_
    refine ⟨s1.heap.objs.size + 1,[s1.heap.objs.size + 1,s1.heap.objs.size],_,_,H1,rfl,I1.kept (t':=s1.toks) hk,turn_enum a _ _ (Nat.succ_ne_self _),⟨⟨_,he'⟩,hit⟩,fun b hb=>?_,hR⟩
    rcases List.mem_cons.mp hb with z | z
    · rw [z]; exact I1.fpOk (Nat.le_succ _) (I1.hok.fresh (Nat.le_succ _))
    · rw [List.mem_singleton.mp z]; exact I1.fpOk (Nat.le_refl _) (I1.hok.fresh (Nat.le_refl _))
end
theorem forE {K : PySem.W.Frag} {a : Addr} {g : TG} {tb : TS} {D : Ends} {σ : St} {H : Hp} (ns : List Int) (Pv : Nat → St → Hp → Prop) (h0 : Pv 0 σ H) (hl : ∀ i σ H,Pv i σ H → SqL K H a (ns.map V.int))
    (hs : ∀ i (x : Int) σ H t H',ns[i]? = some x → Pv i σ H → Same H H' → H' t = some (.tup [.int (i : Int),.int x]) → g (.ref t) σ H' fun σ2 H2=>tb { D with nx:=Pv (i + 1),ct:=Pv (i + 1),bk:=D.nx } σ2 H2) (hd : ∀ σ H,Pv ns.length σ H → D.nx σ H) :
    ForIt (Ite K a) g tb D σ H:=by
  refine ⟨fun i m σ H=>m = ns.length - i ∧ i ≤ ns.length ∧ Pv i σ H,⟨ns.length,by simp,Nat.zero_le _,h0⟩,?_⟩
  rintro i m σ H ⟨rfl,hi,p⟩
  have q:=hl i σ H p
  by_cases hlt : i < ns.length
  · have hx : ns[i]? = some ns[i]:=List.getElem?_eq_getElem hlt
    have hx' : (ns.map V.int)[i]? = some (.int ns[i]):=by rw [List.getElem?_map,hx]; rfl
    refine .inr ⟨⟨_,_,q,hx'⟩,Pv (i + 1),fun σ' H' p'=>⟨ns.length - (i + 1),by omega,rfl,hlt,p'⟩,fun x H' y=>?_⟩
    obtain ⟨y,t,hy,ht,rfl,rfl⟩:=y
    have hy:=hy _ q
    rw [hx'] at hy
    cases hy
    exact hs i _ σ H t _ hx p (same_new ht _) upd_same
  · have e : i = ns.length:=by omega
    subst e
    exact .inl ⟨⟨_,q,by simp⟩,hd σ H p⟩
section
variable {X : Cx} {e lo hi st : Expr} {te : TE} {tl th tk : TO} {pos p2 : Pos}
def tSlK (K : PySem.W.Frag) (te : TE) (tl th tk : TO) : TE:=fun σ H Q=>te σ H fun x H1=>tl σ H1 fun l H2=>th σ H2 fun u H3=>tk σ H3 fun k H4=>
  ∃ (a : Addr) (ns : List Int),x = .ref a ∧ k ≠ some 0 ∧ SqL K H4 a (ns.map V.int) ∧ ∀ ms : List Int,ms.length ≤ ns.length → (∀ m,m ∈ ms → m ∈ ns) → ∀ p,H4 p = none → Q (.ref p) (upd H4 p (.lst (ms.map V.int)))
end
section
variable {X : Cx}
def rGetL (K : PySem.W.Frag) : R2:=fun x y H Q=>∃ p xs i v,x = .ref p ∧ y = .int i ∧ 0 ≤ i ∧ SqL K H p xs ∧ xs[i.toNat]? = some v ∧ Q v H
theorem get_list : PGet X (rGetL X.K):=by
  intro pins s σ H o i ov iv Q I ro ri h
  obtain ⟨p,xs,k,v,rfl,rfl,h0,hq,hv,q⟩:=h
  cases ro
  obtain ⟨t,rfl⟩:=ri
  obtain ⟨its,r,pl,hz⟩:=I.list hq
  obtain ⟨u,eu,ru⟩:=r.get hv
  have hn:=line63
  have hl:=(List.getElem?_eq_some_iff.mp hv).1
  exact wpAny_getItem_list pl.isList h0 (by omega) (x:=u) (by simpa using eu) ⟨v,H,I,ru,q⟩
theorem ix_tupK {K : PySem.W.Frag} (hK : X.K = K) : IxR X (rIxT K):=by subst hK; exact ix_tup
theorem vals_bls : ∀ {bs : List Bool} {us : List Value},Vals (bs.map V.bl) us → us = bs.map Value.bool
  | [],_,.nil=>rfl
  | b :: bs,_,.cons r t=>by
    have r' : _ = Value.bool b:=r
    rw [r',vals_bls t]
    rfl
theorem bt_all : bootBuiltins "all" = some (.builtin "all"):=by decide +kernel
theorem bt_sum : bootBuiltins "sum" = some (.builtin "sum"):=by decide +kernel
theorem bt_abs : bootBuiltins "abs" = some (.builtin "abs"):=by decide +kernel
theorem call_allB (hc : X.calm = true) : CallR X (.builtin "all") (fun xs H Q=>∃ (p : Addr) (bs : List Bool),xs = [.ref p] ∧ SqL X.K H p (bs.map V.bl) ∧ Q (.bl (bs.all id)) H):=by
  intro pins s σ H xs us Q I r h
  obtain ⟨p,bs,rfl,hq,q⟩:=h
  obtain ⟨u,rfl,rx⟩:=vals1 r
  cases rx
  obtain ⟨its,rv,pl,hz⟩:=I.list hq
  have ei : its = bs.map Value.bool:=vals_bls rv
  obtain ⟨o,ho,_⟩:=id pl.isList
  have hne : p ≠ s.heap.objs.size:=Nat.ne_of_lt (Heap.lt_size ho)
  refine call_all_walk (wpAny_pyIter_list pl.isList ?_)
  refine ⟨s.heap.objs.size,_,_,_,_,_,fun i=>bs.getD i false,rfl,Walks.list (A:=X.A.in1) (I.ok.hd hc) s.heap.objs.size p hne its.toArray,⟨⟨_,Heap.get?_push_size _ rfl,rfl,rfl⟩,pl.isList.at fun o e=>Heap.get?_push_of_some _ e⟩,?_,?_⟩
  · intro i v s' Q' E' hP hQ
    have hv : its[i]? = some v:=by simpa using hP
    rw [ei,List.getElem?_map] at hv
    cases z : bs[i]? with
    | none=>rw [z] at hv; cases hv
    | some b=>
      rw [z] at hv
      cases hv
      refine wpAny_truthy_bool ?_
      have : bs.getD i false = b:=by rw [List.getD_eq_getElem?_getD,z]; rfl
      rw [← this]
      exact hQ
  · intro h' tk hk
    have f:=I.fpOk (H':=H) (Nat.le_refl _) (I.hok.fresh (Nat.le_refl _))
    obtain ⟨f0,f1,f2,f3,f4,f5⟩:=f
    have I2 : Inv X pins σ H { s with heap:=h',toks:=tk }:=I.turned (t':=tk) (it:=s.heap.objs.size) (fun b o hb e=>hk b o (by simpa using hb) (Heap.get?_push_of_some _ e)) f0 f1 f3 f4 f5
    have ea : (List.range its.toArray.size).all (fun i=>bs.getD i false) = bs.all id:=by
      rw [ei,List.size_toArray,List.length_map]
      have e1 : bs = (List.range bs.length).map (fun i=>bs.getD i false):=by
        refine List.ext_getElem (by simp) fun j h1 h2=>?_
        rw [List.getElem_map,List.getElem_range,List.getD_eq_getElem?_getD,List.getElem?_eq_getElem h1]
        rfl
      conv=>rhs; rw [e1]
      rw [List.all_map]
      rfl
    exact ⟨.bl (bs.all id),H,I2,by rw [ea]; rfl,q⟩
theorem cut_init {α : Type} (f : α → V) (xs : List α) : cutV (xs.map f) none (some (-1)) = xs.dropLast.map f:=by
  have e : HT.sIx (xs.map f).length (xs.map f).length (some (-1)) = xs.length - 1:=by
    rw [List.length_map]
    simp only [HT.sIx]
    split <;> omega
  unfold cutV
  rw [HT.sIx_none,e,List.drop_zero,Nat.sub_zero,List.dropLast_eq_take,List.map_take]
end
section
variable {X : Cx} {a b : Expr} {ta : TA} {p p2 pos pos2 : Pos}
def nums (i : Int) (n : Nat) : List Int:=(List.range n).map fun k : Nat=>i + (k : Int)
def tListRng (ta : TA) : TE:=fun σ H Q=>ta σ H fun vs H1=>∃ i j : Int,vs = [.int i,.int j] ∧ (-1000000 ≤ i ∧ i < 1000000 ∧ -1000000 ≤ j ∧ j < 1000000) ∧ ∀ l,H1 l = none → Q (.ref l) (upd H1 l (.lst ((nums i (j - i).toNat).map V.int)))
end
end L2
namespace L2
open PySem PySem.Spec PyProof.Rows
namespace So
open PySem.W
section
variable {n : Nat} {key : Nat → Int} {cmp : Nat → Nat → (Bool → Shared → Prop) → Shared → Prop} {s : Shared}
def Own (n : Nat) (p : Array Nat) : Prop:=p.toList.Perm (List.range n)
def Kp (key : Nat → Int) (p : Array Nat) (i : Nat) : Int:=key (p.getD i 0)
def Inc (key : Nat → Int) (p : Array Nat) (k : Nat) : Prop:=∀ i j,i < j → j < k → Kp key p i < Kp key p j
def Dec (key : Nat → Int) (p : Array Nat) (k : Nat) : Prop:=∀ i j,i < j → j < k → Kp key p j < Kp key p i
theorem Own.size {p : Array Nat} (h : Own n p) : p.size = n:=by
  have:=h.length_eq
  simpa using this
theorem getD_at {p : Array Nat} {i : Nat} (h : i < p.size) : p.getD i 0 = p[i]:=by simp [Array.getD,h]
theorem Own.lt {p : Array Nat} (h : Own n p) {i : Nat} (hi : i < n) : p.getD i 0 < n:=by
  have hs:=h.size
  rw [getD_at (by omega)]
  have : p[i]'(by omega) ∈ List.range n:=h.mem_iff.mp (by simp)
  exact List.mem_range.mp this
theorem Own.ne {p : Array Nat} (h : Own n p) (inj : ∀ i j,i < n → j < n → key i = key j → i = j) {i j : Nat} (hi : i < n) (hj : j < n) (hij : i < j) : Kp key p i ≠ Kp key p j:=fun z=>by
  have hs:=h.size
  have e:=inj _ _ (h.lt hi) (h.lt hj) z
  rw [getD_at (by omega),getD_at (by omega)] at e
  have nd : p.toList.Nodup:=h.nodup_iff.mpr List.nodup_range
  have:=List.pairwise_iff_getElem.mp nd i j (by simpa using (show i < p.size by omega)) (by simpa using (show j < p.size by omega)) hij
  simp only [Array.getElem_toList] at this
  exact this e
theorem Own.of_perm {p q : Array Nat} (h : Own n p) (hq : q.Perm p) : Own n q:=(Array.perm_iff_toList_perm.mp hq).trans h
theorem kp_of {p q : Array Nat} {i j : Nat} (h : q[i]? = p[j]?) : Kp key q i = Kp key p j:=by
  unfold Kp
  have e : ∀ (x : Array Nat) (k : Nat),x.getD k 0 = x[k]?.getD 0:=fun x k=>by simp
  rw [e,e,h]
theorem asc_wp (hc : ∀ i j,i < n → j < n → ∀ C : Bool → Shared → Prop,C (decide (key i < key j)) s → cmp i j C s) (inj : ∀ i j,i < n → j < n → key i = key j → i = j) {p : Array Nat} (hp : Own n p) {Q : Nat → Shared → Prop} :
    ∀ (f m : Nat),1 ≤ m → m + f ≤ n → Inc key p m → (∀ m',m ≤ m' → m' ≤ m + f → Inc key p m' → (m' = m + f ∨ Kp key p m' < Kp key p (m' - 1)) → Q m' s) → (kas_asc p f m).kasWp cmp Q s
  | 0,m,_,_,hi,q=>q m (Nat.le_refl _) (Nat.le_refl _) hi (.inl rfl)
  | f + 1,m,h1,h2,hi,q=>by
    refine hc _ _ (hp.lt (by omega)) (hp.lt (by omega)) _ ?_
    by_cases z : key (p.getD m 0) < key (p.getD (m - 1) 0)
    · rw [decide_eq_true z]
      exact q m (Nat.le_refl _) (by omega) hi (.inr z)
    · rw [decide_eq_false z]
      refine asc_wp hc inj hp f (m + 1) (by omega) (by omega) (fun i j hij hj=>?_) fun m' a b c d=>q m' (by omega) (by omega) c (d.imp (fun w=>by omega) id)
      have step : Kp key p (m - 1) < Kp key p m:=by
        have:=hp.ne inj (i:=m - 1) (j:=m) (by omega) (by omega) (by omega)
        unfold Kp at this ⊢
        omega
      by_cases hjm : j = m
      · subst hjm
        by_cases him : i = j - 1
        · rw [him]; exact step
        · exact Int.lt_trans (hi i (j - 1) (by omega) (by omega)) step
      · exact hi i j hij (by omega)
theorem desc_wp (hc : ∀ i j,i < n → j < n → ∀ C : Bool → Shared → Prop,C (decide (key i < key j)) s → cmp i j C s) (inj : ∀ i j,i < n → j < n → key i = key j → i = j) {p : Array Nat} (hp : Own n p) {Q : Array Nat × Nat × Nat → Shared → Prop} :
    ∀ (f m : Nat),1 ≤ m → m + f ≤ n → Dec key p m → (∀ m',m ≤ m' → m' ≤ m + f → Dec key p m' → Q (p,m',0) s) → (kas_desc f p m 0).kasWp cmp Q s
  | 0,m,_,_,hi,q=>q m (Nat.le_refl _) (Nat.le_refl _) hi
  | f + 1,m,h1,h2,hi,q=>by
    refine hc _ _ (hp.lt (by omega)) (hp.lt (by omega)) _ ?_
    by_cases z : key (p.getD m 0) < key (p.getD (m - 1) 0)
    · rw [decide_eq_true z]
      show KasT.kasWp cmp (kas_desc f p (m + 1) 0) Q s
      refine desc_wp hc inj hp f (m + 1) (by omega) (by omega) (fun i j hij hj=>?_) fun m' a b c=>q m' (by omega) (by omega) c
      have step : Kp key p m < Kp key p (m - 1):=z
      by_cases hjm : j = m
      · subst hjm
        by_cases him : i = j - 1
        · rw [him]; exact step
        · exact Int.lt_trans step (hi i (j - 1) (by omega) (by omega))
      · exact hi i j hij (by omega)
    · rw [decide_eq_false z]
      show KasT.kasWp cmp (.ask (p.getD (m - 1) 0) (p.getD m 0) fun d=>if d = true then .ret (p,m,0) else kas_desc f p (m + 1) (0 + 1)) Q s
      refine hc _ _ (hp.lt (by omega)) (hp.lt (by omega)) _ ?_
      have step : key (p.getD (m - 1) 0) < key (p.getD m 0):=by
        have:=hp.ne inj (i:=m - 1) (j:=m) (by omega) (by omega) (by omega)
        unfold Kp at this
        omega
      rw [decide_eq_true step]
      exact q m (Nat.le_refl _) (by omega) hi
theorem rev_own {p : Array Nat} (h : Own n p) (i j : Nat) : Own n (kas_rev p i j):=h.of_perm (mirror_perm ..)
theorem rev_inc {p : Array Nat} (h : Own n p) {m : Nat} (hm : m ≤ n) (hd : Dec key p m) : Inc key (kas_rev p 0 m) m:=fun i j hij hj=>by
  have hs:=h.size
  have e : ∀ k,k < m → Kp key (kas_rev p 0 m) k = Kp key p (m - 1 - k):=fun k hk=>kp_of (by
    unfold kas_rev
    rw [getElem?_mirror_all (by omega),if_pos (by omega)]
    congr 1
    omega)
  rw [e i (by omega),e j hj]
  exact hd _ _ (by omega) (by omega)
theorem place_wp (hc : ∀ i j,i < n → j < n → ∀ C : Bool → Shared → Prop,C (decide (key i < key j)) s → cmp i j C s) (inj : ∀ i j,i < n → j < n → key i = key j → i = j) {p : Array Nat} (hp : Own n p) {Q : Nat → Shared → Prop} {k : Nat} (hk : k < n) (hi : Inc key p k) :
    ∀ (f l r : Nat),l ≤ r → r ≤ l + f → r ≤ k → (∀ i,i < l → Kp key p i < Kp key p k) → (∀ i,r ≤ i → i < k → Kp key p k < Kp key p i) → (∀ l',l' ≤ k → (∀ i,i < l' → Kp key p i < Kp key p k) → (∀ i,l' ≤ i → i < k → Kp key p k < Kp key p i) → Q l' s) → (kas_place p k f l r).kasWp cmp Q s
  | 0,l,r,h1,h2,h3,h4,h5,q=>q l (by omega) h4 fun i a b=>h5 i (by omega) b
  | f + 1,l,r,h1,h2,h3,h4,h5,q=>by
    unfold kas_place
    by_cases w : l ≥ r
    · rw [if_pos w]
      exact q l (by omega) h4 fun i a b=>h5 i (by omega) b
    · rw [if_neg w]
      refine hc _ _ (hp.lt (by omega)) (hp.lt (by omega)) _ ?_
      by_cases z : key (p.getD k 0) < key (p.getD ((l + r) / 2) 0)
      · rw [decide_eq_true z]
        have z : Kp key p k < Kp key p ((l + r) / 2):=z
        refine place_wp hc inj hp hk hi f l ((l + r) / 2) (by omega) (by omega) (by omega) h4 (fun i a b=>?_) q
        by_cases e : i = (l + r) / 2
        · rw [e]; exact z
        · exact Int.lt_trans z (hi _ _ (by omega) b)
      · rw [decide_eq_false z]
        have z : Kp key p ((l + r) / 2) < Kp key p k:=by
          have:=hp.ne inj (i:=(l + r) / 2) (j:=k) (by omega) hk (by omega)
          unfold Kp at this ⊢
          omega
        refine place_wp hc inj hp hk hi f ((l + r) / 2 + 1) r (by omega) (by omega) h3 (fun i a=>?_) h5 q
        by_cases e : i = (l + r) / 2
        · rw [e]; exact z
        · exact Int.lt_trans (hi _ _ (by omega) (by omega)) z
theorem bin_wp (hc : ∀ i j,i < n → j < n → ∀ C : Bool → Shared → Prop,C (decide (key i < key j)) s → cmp i j C s) (inj : ∀ i j,i < n → j < n → key i = key j → i = j) {Q : Array Nat → Shared → Prop} (q : ∀ p,Own n p → Inc key p n → Q p s) :
    ∀ (f : Nat) (p : Array Nat) (k : Nat),Own n p → k + f = n → Inc key p k → (kas_bin f p k).kasWp cmp Q s
  | 0,p,k,hp,hk,hi=>q p hp (by rw [← hk]; exact hi)
  | f + 1,p,k,hp,hk,hi=>by
    unfold kas_bin
    rw [KasT.kasWp_bind]
    refine place_wp hc inj hp (by omega) hi k 0 k (by omega) (by omega) (Nat.le_refl _) (fun i a=>by omega) (fun i a b=>by omega) fun l hl h1 h2=>?_
    refine bin_wp hc inj q f _ (k + 1) (hp.of_perm (bubble_perm ..)) (by omega) fun i j hij hj=>?_
    have hs:=hp.size
    have e : ∀ i,Kp key (bubble p k (k - l)) i = if i = l then Kp key p k else if l < i ∧ i ≤ k then Kp key p (i - 1) else Kp key p i:=fun i=>by
      have:=getElem?_bubble (xs:=p) (src:=k) (by omega) (k - l) (by omega) i
      rw [show k - (k - l) = l by omega] at this
      by_cases a : i = l
      · rw [if_pos a] at this ⊢
        exact kp_of this
      · rw [if_neg a] at this ⊢
        by_cases b : l < i ∧ i ≤ k
        · rw [if_pos b] at this ⊢
          exact kp_of this
        · rw [if_neg b] at this ⊢
          exact kp_of this
    rw [e i,e j]
    by_cases a : i = l
    · rw [if_pos a,if_neg (by omega),if_pos (by omega)]
      exact h2 _ (by omega) (by omega)
    · rw [if_neg a]
      by_cases b : j = l
      · rw [if_pos b,if_neg (by omega)]
        exact h1 _ (by omega)
      · rw [if_neg b]
        by_cases c : l < i
        · rw [if_pos (by omega),if_pos (by omega)]
          exact hi _ _ (by omega) (by omega)
        · rw [if_neg (by omega)]
          by_cases d : l < j
          · rw [if_pos (by omega)]
            exact hi _ _ (by omega) (by omega)
          · rw [if_neg (by omega)]
            exact hi _ _ hij (by omega)
theorem sort_wp (hc : ∀ i j,i < n → j < n → ∀ C : Bool → Shared → Prop,C (decide (key i < key j)) s → cmp i j C s) (inj : ∀ i j,i < n → j < n → key i = key j → i = j) (h2 : 2 ≤ n) {Q : Array Nat → Shared → Prop} (q : ∀ p,Own n p → Inc key p n → Q p s) : (kas_sort n).kasWp cmp Q s:=by
  have own0 : Own n (List.toArray (List.range n)):=by
    unfold Own
    exact List.Perm.refl _
  have one : ∀ p : Array Nat,Inc key p 1:=fun p i j hij hj=>by omega
  unfold kas_sort
  rw [KasT.kasWp_bind]
  have fin : ∀ (m : Nat) (p : Array Nat),1 ≤ m → m ≤ n → Own n p → Inc key p m → (if (m,p).1 < n then kas_bin (n - max (m,p).1 1) (m,p).2 (max (m,p).1 1) else .ret (m,p).2).kasWp cmp Q s:=fun m p h1 hm hp hi=>by
    dsimp only
    by_cases z : m < n
    · rw [if_pos z,show max m 1 = m by omega]
      exact bin_wp hc inj q _ p m hp (by omega) hi
    · rw [if_neg z]
      exact q p hp (by rw [show n = m by omega]; exact hi)
  unfold kas_count
  rw [KasT.kasWp_bind]
  refine asc_wp hc inj own0 (n - 1) 1 (Nat.le_refl _) (by omega) (one _) fun m a b hi d=>?_
  by_cases e1 : (m == n) = true
  · rw [if_pos e1]
    exact fin m _ a (by omega) own0 hi
  · rw [if_neg e1]
    have e1 : m ≠ n:=by simpa using e1
    have dn:=d.resolve_left (by omega)
    by_cases e2 : m > 1
    · rw [if_pos e2]
      refine hc _ _ (own0.lt (by omega)) (own0.lt (by omega)) _ ?_
      rw [decide_eq_true (show key _ < key _ from hi 0 (m - 1) (by omega) (by omega))]
      exact fin m _ a (by omega) own0 hi
    · rw [if_neg e2]
      have e3 : m = 1:=by omega
      subst e3
      unfold kas_descPart
      rw [KasT.kasWp_bind]
      refine desc_wp hc inj own0 (n - (1 + 1)) (1 + 1) (by omega) (by omega) (fun i j hij hj=>?_) fun m' a' b' hd=>?_
      · obtain rfl : i = 0:=by omega
        obtain rfl : j = 1:=by omega
        exact dn
      · show KasT.kasWp cmp (kas_tail3 m' n _) _ s
        unfold kas_tail3
        rw [KasT.kasWp_bind]
        refine asc_wp hc inj (rev_own own0 0 m') (n - m') m' (by omega) (by omega) (rev_inc own0 (by omega) hd) fun m2 a2 b2 hi2 _=>?_
        exact fin m2 _ (by omega) (by omega) (rev_own own0 0 m') hi2
end
end So
end L2
namespace L2
open PySem PySem.Spec PyProof.Rows
def prevSp (sp : Nat → Sp) : Nat → Sp
  | 0=>fun _ _ _ _=>False
  | n + 1=>sp n
section
variable {P : Program} {w : World} {K : PySem.W.Frag} {mg : Str → Option Value} {base : Heap} {x qual : Str} {st : Stmt} {f : Addr} {fd : FuncData} {ps : List Str} {sp : Nat → Sp}
theorem rec_go {CX : CXT} (L : Nat) (step : ∀ n,FnOk P w K mg base CX (L + n) f fd ps (prevSp sp n) → FnOk P w K mg base CX (L + n + 1) f fd ps (sp n)) : ∀ n,FnOk P w K mg base CX (L + n + 1) f fd ps (sp n)
  | 0=>step 0 ⟨fun _ _ _ _ h=>h.elim,fun _ _ _ _ _ _ _ _ _ _ _ _ _ h=>h.elim⟩
  | n + 1=>step (n + 1) (rec_go L step n)
theorem rec_mk (F : Fun K x qual st f fd) (b : Binds K fd ps []) (m : mg x = some (.ref f)) (L : Nat) (step : ∀ n,Def P w K mg base x (L + n) ps (prevSp sp n) → FnOk P w K mg base CX0 (L + n + 1) f fd ps (sp n)) (n : Nat) : Def P w K mg base x (L + n + 1) ps (sp n):=
  def_mk F (rec_go L (fun n ok=>step n (def_mk F ok b m)) n) b m
end
theorem compL {K : PySem.W.Frag} {a : Addr} {caps : List Nat} {tt : TT} {te : TE} {σ : St} {H : Hp} {Q : VK} (xs : List V) (Pv : Nat → List V → Hp → Prop) (hn : xs.length ≤ sizeLine) (h0 : Pv 0 [] H) (hl : ∀ i ys H,Pv i ys H → SqL K H a xs)
    (hs : ∀ i (x : V) ys H,xs[i]? = some x → Pv i ys H → tt (some x :: capV caps σ) H fun b H4=>if b = true then te (some x :: capV caps σ) H4 fun v H5=>Pv (i + 1) (ys ++ [v]) H5 else Pv (i + 1) ys H4)
    (hd : ∀ ys H,Pv xs.length ys H → ∀ p,H p = none → Q (.ref p) (upd H p (.lst ys))) : CompIt (Itl K a) caps tt te σ H Q:=by
  refine ⟨xs.length,fun i ys H=>i ≤ xs.length ∧ Pv i ys H,hn,⟨Nat.zero_le _,h0⟩,?_⟩
  rintro i ys H2 ⟨hi,p⟩
  have hS:=hl i ys H2 p
  by_cases hlt : i < xs.length
  · have hv : xs[i]? = some xs[i]:=List.getElem?_eq_getElem hlt
    refine .inr ⟨⟨_,_,hS,hv⟩,hlt,?_⟩
    rintro y H3 ⟨rfl,hy⟩
    have hxy : y = xs[i]:=(Option.some.inj (hv.symm.trans (hy _ hS))).symm
    subst hxy
    have key:=hs i _ ys H3 hv p
    have e2 : (fun (b : Bool) (H4 : Hp)=>if b = true then te (some xs[i] :: capV caps σ) H4 fun v H5=>Pv (i + 1) (ys ++ [v]) H5 else Pv (i + 1) ys H4) = fun b H4=>if b = true then te (some xs[i] :: capV caps σ) H4 fun v H5=>i + 1 ≤ xs.length ∧ Pv (i + 1) (ys ++ [v]) H5 else i + 1 ≤ xs.length ∧ Pv (i + 1) ys H4:=by
      funext b H4
      have z : i + 1 ≤ xs.length:=hlt
      simp only [z,true_and]
    rw [e2] at key
    exact key
  · have e : i = xs.length:=by omega
    subst e
    exact .inl ⟨⟨_,hS,Nat.le_refl _⟩,hd ys H2 p⟩
section
variable {X : Cx}
theorem bt_sorted : bootBuiltins "sorted" = some (.builtin "sorted"):=by decide +kernel
theorem call_sumL (hc : X.calm = true) : CallR X (.builtin "sum") (fun xs H Q=>∃ (p : Addr) (ns : List Int),xs = [.ref p] ∧ SqL X.K H p (ns.map V.int) ∧ Q (.int ns.sum) H):=by
  intro pins s σ H xs us Q I r h
  obtain ⟨p,ns,rfl,hq,q⟩:=h
  obtain ⟨u,rfl,rx⟩:=vals1 r
  cases rx
  obtain ⟨its,rv,pl,hz⟩:=I.list hq
  have hi:=intsAre_of rv
  obtain ⟨zs,hzs⟩:=hi.allInts.items
  have hn : zs.toList.map (·.1) = ns:=by
    rw [← nums_intItems,← hzs]
    exact hi.numsOf
  refine sum_intListG (I.ok.hd hc) (by rw [← hzs]; exact pl.isList) fun h' tk t' hk=>?_
  refine ⟨.int _,H,I.kept hk,⟨t',rfl⟩,?_⟩
  rw [preSum_eq,List.take_of_length_le (by simp),hn]
  exact q
end
namespace So
open PySem.W
section
variable {pr : Program} {wo : World} {Ar : Around} {Er : Value → Shared → Prop} {st : Shared}
theorem outs (us : List Value) : (List.range us.length).map (fun i=>us.getD i Value.none) = us:=by
  refine List.ext_getElem (by simp) fun j h1 h2=>?_
  rw [List.getElem_map,List.getElem_range,List.getD_eq_getElem?_getD,List.getElem?_eq_getElem h2]
  rfl
theorem own_sort {a : Addr} {us : List Value} {k : Nat} {P : PySem.Fin → Shared → Prop} {Good : Array Nat → Prop} (ho : st.heap.get? a = some (seqObj "list" us.toArray k)) (h64 : us.length < 64)
    (ask : ∀ hp : Heap,(∀ b o,b ≠ a → st.heap.get? b = some o → hp.get? b = some o) → 2 ≤ us.length → wpAny (model pr wo) Ar (keyKind' us.toArray) (fun κ s'=>s' = { st with heap:=hp } ∧ (kas_sort us.length).kasWp (kas_ask pr wo Ar κ us) (fun p s''=>s'' = { st with heap:=hp } ∧ Good p) s') (fun _ _=>False) { st with heap:=hp })
    (one : us.length < 2 → Good (List.range us.length).toArray)
    (fin : ∀ p : Array Nat,p.size = us.length → Good p → P (.done (.ret .none)) { st with heap:=sortedHeap st.heap a us (p.toList.map fun i=>us.getD i Value.none).toArray }) :
    wpAny (model pr wo) Ar (Builtin.«list.sort» ⟨[.ref a],[]⟩) P Er st:=by
  rw [list_sort_plain]
  have la:=Heap.lt_size ho
  have lz : us.toArray.size = us.length:=by simp
  have sl : us.length ≤ sizeLine:=by rw [sizeLine_eq]; omega
  refine wpAny_bind (listItems_at ho rfl (wpAny_bind (listUpdate_at ho rfl ?_ (by rw [lz]; exact sl) (Nat.zero_le _))))
  obtain ⟨k1,o1⟩ : ∃ k1,(st.heap.update a (Obj.mapSeq fun _=>(#[] : Array Value))).get? a = some (seqObj "list" #[] k1):=⟨_,get?_update_seq ho _⟩
  refine wpAny_bind (seqEpoch_at o1 rfl (wpAny_bind (wpAny_newTuple (wpAny_bind (wpAny_newList (wpAny_holding ?_) (Nat.zero_le _))) (by show us.length ≤ _; exact sl))))
  have o2 : (((st.heap.update a (Obj.mapSeq fun _=>(#[] : Array Value))).push (seqObj "tuple" us.toArray 0)).push (seqObj "list" #[] 0)).get? a = some (seqObj "list" #[] k1):=
    Heap.get?_push_of_some _ (Heap.get?_push_of_some _ o1)
  have kp : ∀ b o,b ≠ a → st.heap.get? b = some o → (((st.heap.update a (Obj.mapSeq fun _=>(#[] : Array Value))).push (seqObj "tuple" us.toArray 0)).push (seqObj "list" #[] 0)).get? b = some o:=fun b o hb e=>
    Heap.get?_push_of_some _ (Heap.get?_push_of_some _ (by rw [Heap.get?_update_ne _ _ _ _ hb]; exact e))
  show wpAny (model pr wo) Ar _ P Er { st with heap:=(((st.heap.update a (Obj.mapSeq fun _=>(#[] : Array Value))).push (seqObj "tuple" us.toArray 0)).push (seqObj "list" #[] 0)) }
  dsimp only
  by_cases two : us.toArray.size < 2
  · rw [if_pos two,if_pos two]
    refine wpAny_bind (wpAny_pure ?_)
    rw [StateT.run_pure]
    refine wpAny_bind (wpAny_pure ?_)
    dsimp only
    have eo : (arrOf (SortSt.mk' general' (us.toArray.zip us.toArray) #[] 7 none)).map (·.2) = ((List.range us.length).toArray.toList.map fun i=>us.getD i Value.none).toArray:=by
      have : (us.toArray.zip us.toArray).map (·.2) = us.toArray:=by
        apply Array.toList_inj.mp
        rw [Array.toList_map,Array.toList_zip]
        exact List.map_snd_zip (Nat.le_refl _)
      show (us.toArray.zip us.toArray).map (·.2) = _
      rw [this]
      show us.toArray = ((List.range us.length).map fun i=>us.getD i Value.none).toArray
      rw [outs]
    rw [eo]
    refine wpAny_bind (seqEpoch_at o2 rfl (wpAny_bind (listUpdate_at o2 rfl ?_ (Nat.zero_le _) (by simp; omega))))
    simp only [bne_self_eq_false,Bool.false_eq_true,if_false]
    exact wpAny_pure (fin (List.range us.length).toArray (by rw [List.size_toArray,List.length_range]) (one (by omega)))
  · rw [if_neg two,if_neg two]
    refine wpAny_bind (wpAny_mono (ask _ kp (by omega)) (fun κ s0 hk=>?_) fun _ _ x=>x.elim)
    obtain ⟨rfl,hk⟩:=hk
    refine wpAny_bind (wpAny_mono (kat_run (Q:=fun st' s'=>∃ p : Array Nat,p.size = us.length ∧ arrOf st' = p.map (kas_item (us.toArray.zip us.toArray)) ∧ failedOf st' = none ∧ s' = _ ∧ Good p) rfl (by omega) h64 (fun p st' s' a1 a2 a3 a4=>⟨p,a1,a2,a3,a4.1,a4.2⟩) hk) ?_ fun _ _ e=>e)
    rintro ⟨⟨⟩,st'⟩ s' ⟨p,hps,har,hf,rfl,hg⟩
    dsimp only
    rw [kat_snds rfl har]
    have hz : (p.toList.map fun i=>us.getD i Value.none).toArray.size = us.length:=by rw [List.size_toArray,List.length_map,Array.length_toList,hps]
    refine wpAny_bind (seqEpoch_at o2 rfl (wpAny_bind (listUpdate_at o2 rfl ?_ (Nat.zero_le _) (Nat.le_trans (Nat.le_of_eq hz) (by omega)))))
    rw [hf]
    simp only [bne_self_eq_false,Bool.false_eq_true,if_false]
    exact wpAny_pure (fin p hps hg)
theorem own_sorted {l : Addr} {us : List Value} {Q : Value → Shared → Prop} {Good : Array Nat → Prop} (hl : st.heap.IsList l us.toArray) (h64 : us.length < 64)
    (ask : ∀ (A2 : Around) (hp : Heap),(∀ b o,st.heap.get? b = some o → hp.get? b = some o) → 2 ≤ us.length → wpAny (model pr wo) A2 (keyKind' us.toArray) (fun κ s'=>s' = { st with heap:=hp } ∧ (kas_sort us.length).kasWp (kas_ask pr wo A2 κ us) (fun p s''=>s'' = { st with heap:=hp } ∧ Good p) s') (fun _ _=>False) { st with heap:=hp })
    (one : us.length < 2 → Good (List.range us.length).toArray)
    (fin : ∀ p : Array Nat,p.size = us.length → Good p → Q (.ref (st.heap.objs.size + 1)) { st with heap:=sortedAll st.heap us (p.toList.map fun i=>us.getD i Value.none).toArray }) :
    wpAny (model pr wo) Ar (call (.builtin "sorted") [.ref l]) Q Er st:=by
  have sl : us.length ≤ sizeLine:=by rw [sizeLine_eq]; omega
  refine Calls.call_function_entry kind_sorted plain_sorted entry_sorted (args_sorted1 _) ?_
  unfold Builtin.«sorted»
  refine wpAny_bind (m:=checkCount "sorted" 1 1 _) (wpAny_pure (wpAny_bind (collect_list hl (wpAny_bind (wpAny_newList ?_ sl)) sl)))
  have z1 : ((st.heap.push (seqObj "list" #[] 0)).update st.heap.objs.size (Obj.mapSeq (· ++ us.toArray))).objs.size = st.heap.objs.size + 1:=by rw [Heap.size_update,size_push']
  have o1 : (((st.heap.push (seqObj "list" #[] 0)).update st.heap.objs.size (Obj.mapSeq (· ++ us.toArray))).push (seqObj "list" us.toArray 0)).get? (st.heap.objs.size + 1) = some (seqObj "list" us.toArray 0):=by
    rw [← z1]; exact Heap.get?_push_size _ rfl
  have kp : ∀ b o,st.heap.get? b = some o → (((st.heap.push (seqObj "list" #[] 0)).update st.heap.objs.size (Obj.mapSeq (· ++ us.toArray))).push (seqObj "list" us.toArray 0)).get? b = some o:=fun b o e=>by
    have lb:=Heap.lt_size e
    refine Heap.get?_push_of_some _ ?_
    rw [Heap.get?_update_ne _ _ _ _ (Nat.ne_of_lt lb)]
    exact Heap.get?_push_of_some _ e
  show wpAny _ _ _ _ _ { st with heap:=(((st.heap.push (seqObj "list" #[] 0)).update st.heap.objs.size (Obj.mapSeq (· ++ us.toArray))).push (seqObj "list" us.toArray 0)) }
  rw [z1]
  refine wpAny_bind (wpAny_holding (wpAny_call_entry slot_list_sort ⟨_,o1,rfl⟩ entry_list_sort (own_sort (Good:=Good) o1 h64 (fun hp kh h2=>ask _ hp (fun b o e=>kh b o (fun z=>?_) (kp b o e)) h2) one fun p hps hg=>⟨_,rfl,wpAny_pure ⟨_,rfl,fin p hps hg⟩⟩) (args_list_sort _)))
  have:=Heap.lt_size e
  rw [z] at this
  exact Nat.lt_irrefl _ (Nat.lt_of_succ_lt this)
theorem lt_pair {x y : Addr} {ox oy : Obj} {k l : Nat} {a e a' e' : Int} {t1 t2 t3 t4 : Tok} {C : Bool → Shared → Prop} (hx : st.heap.get? x = some ox) (dx : ox.data = .seq #[.int a t1,.int e t2] k) (hy : st.heap.get? y = some oy) (dy : oy.data = .seq #[.int a' t3,.int e' t4] l)
    (he : 0 ≤ e ∧ e < 1000) (he' : 0 ≤ e' ∧ e' < 1000) (q : C (decide (a * 1000 + e < a' * 1000 + e')) st) : wpAny (model pr wo) Ar (keyLt' (tuples' true) (.ref x) (.ref y)) C Er st:=by
  refine kat_lt hx dx hy dy ?_
  show KatLex pr wo Ar true _ C [(.int a t1,.int a' t3),(.int e t2,.int e' t4)] 0 st
  refine kat_cons (wpAny_eqBool_int ?_)
  refine kat_go (fun h1=>kat_yes (kat_cons (wpAny_eqBool_int (kat_go (fun h2=>kat_yes (kat_nil ?_)) (fun h2=>kat_no ?_))))) (fun h1=>kat_no ?_)
  · have e1 : a = a':=by simpa using h1
    have e2 : e = e':=by simpa using h2
    have : decide (a * 1000 + e < a' * 1000 + e') = false:=decide_eq_false (by omega)
    rw [this] at q
    exact q
  · have e1 : a = a':=by simpa using h1
    show wpAny (model pr wo) Ar (oneLt' false (.int e t2) (.int e' t4)) C (fun _ _=>False) st
    refine kat_one _ _ (PyProof.Rows.lt_int ?_)
    have : decide (a * 1000 + e < a' * 1000 + e') = decide (e < e'):=decide_eq_decide.mpr (by omega)
    rw [this] at q
    exact q
  · have e1 : a ≠ a':=by simpa using h1
    show wpAny (model pr wo) Ar (oneLt' true (.int a t1) (.int a' t3)) C (fun _ _=>False) st
    refine oneLt_int ?_
    have : decide (a * 1000 + e < a' * 1000 + e') = decide (a < a'):=decide_eq_decide.mpr (by omega)
    rw [this] at q
    exact q
end
end So
section
variable {X : Cx}
def PairsAt (H : Hp) (as : List Addr) (bs : List (Int × Nat)) : Prop:=as.length = bs.length ∧ ∀ (i : Nat) (a : Addr) (b : Int × Nat),as[i]? = some a → bs[i]? = some b → H a = some (.tup [.int b.1,.int (b.2 : Int)])
theorem vals_refs : ∀ {as : List Addr} {us : List Value},Vals (as.map V.ref) us → us = as.map Value.ref
  | [],_,.nil=>rfl
  | a :: as,_,.cons r t=>by
    have r' : _ = Value.ref a:=r
    rw [r',vals_refs t]
    rfl
theorem refs_vals : ∀ (as : List Addr),Vals (as.map V.ref) (as.map Value.ref)
  | []=>.nil
  | a :: as=>.cons rfl (refs_vals as)
def pairOb (h : Heap) (a : Addr) (b : Int × Nat) : Prop:=∃ (o : Obj) (k : Nat) (t1 t2 : Tok),h.get? a = some o ∧ o.cls = .type "tuple" ∧ o.data = .seq #[.int b.1 t1,.int (b.2 : Int) t2] k
theorem firsts_of {h : Heap} : ∀ (as : List Addr) (bs : List (Int × Nat)),as.length = bs.length → (∀ (i : Nat) (a : Addr) (b : Int × Nat),as[i]? = some a → bs[i]? = some b → pairOb h a b) → ∃ fs,PySem.W.KatTups h (as.map Value.ref) fs ∧ fs.length = as.length ∧ ∀ v,v ∈ fs → ∃ (i : Int) (t : Tok),v = .int i t
  | [],_,_,_=>⟨[],PySem.W.KatTups.nil,rfl,fun _ h=>nomatch h⟩
  | a :: as,[],hl,_=>by simp at hl
  | a :: as,b :: bs,hl,h0=>by
    obtain ⟨fs,h1,h2,h3⟩:=firsts_of as bs (by simpa using hl) fun i x y e1 e2=>h0 (i + 1) x y (by simpa using e1) (by simpa using e2)
    obtain ⟨o,k,t1,t2,g1,g2,g3⟩:=h0 0 a b rfl rfl
    refine ⟨.int b.1 t1 :: fs,PySem.W.KatTups.cons g1 g2 g3 rfl h1,by simp [h2],fun v hv=>?_⟩
    rcases List.mem_cons.mp hv with z | z
    · exact ⟨_,_,z⟩
    · exact h3 v z
theorem getD_at' {α : Type} {xs : List α} {i : Nat} (d : α) (h : i < xs.length) : xs[i]? = some (xs.getD i d):=by
  rw [List.getD_eq_getElem?_getD,List.getElem?_eq_getElem h]
  rfl
theorem call_sortedP (_ : X.calm = true) : CallR X (.builtin "sorted") (fun xs H Q=>∃ (p : Addr) (as : List Addr) (bs : List (Int × Nat)),xs = [.ref p] ∧ SqL X.K H p (as.map V.ref) ∧ PairsAt H as bs ∧ bs.length < 64 ∧ (∀ b,b ∈ bs → b.2 < 1000) ∧ bs.Pairwise (· ≠ ·) ∧
    ∀ (as' : List Addr) (bs' : List (Int × Nat)),bs'.Perm bs → bs'.Pairwise Dr.Lt2 → PairsAt H as' bs' → ∀ l,H l = none → Q (.ref l) (upd H l (.lst (as'.map V.ref)))):=by
  intro pins s σ H xs us Q I r h
  obtain ⟨p,as,bs,rfl,hq,hP,h64,hd,hne,q⟩:=h
  obtain ⟨u,rfl,rx⟩:=vals1 r
  cases rx
  obtain ⟨its,rv,pl,hz⟩:=I.list hq
  obtain rfl:=vals_refs rv
  obtain ⟨hl,hP⟩:=hP
  have ob : ∀ (h' : Heap),(∀ b o,s.heap.get? b = some o → h'.get? b = some o) → ∀ (i : Nat) (a : Addr) (b : Int × Nat),as[i]? = some a → bs[i]? = some b → pairOb h' a b:=fun h' hk i a b e1 e2=>by
    obtain ⟨_,vs,r2,o,g1,g2,k,g3⟩:=I.hok a _ (hP i a b e1 e2)
    cases r2 with
    | cons r2 rr=>
      cases rr with
      | cons r3 rr=>
        cases rr
        obtain ⟨t1,rfl⟩:=r2
        obtain ⟨t2,rfl⟩:=r3
        exact ⟨o,k,t1,t2,hk _ _ g1,g2,g3⟩
  have el : (as.map Value.ref).length = bs.length:=by simp [hl]
  have er : ∀ i,i < bs.length → (as.map Value.ref).getD i Value.none = .ref (as.getD i 0):=fun i hi=>by
    rw [List.getD_eq_getElem?_getD,List.getElem?_map,getD_at' 0 (show i < as.length by omega)]
    rfl
  refine So.own_sorted (Good:=fun p=>So.Own bs.length p ∧ So.Inc (fun i=>(bs.getD i (0,0)).1 * 1000 + ((bs.getD i (0,0)).2 : Int)) p bs.length) pl.isList (by omega) (fun A2 hp kh h2=>?_) (fun h1=>⟨?_,fun i j hij hj=>by omega⟩) fun p hps hg=>?_
  · obtain ⟨fs,f1,f2,f3⟩:=firsts_of (h:=hp) as bs hl (ob hp kh)
    refine PySem.W.kat_kind (T:=.type "int") f1 (by omega) (fun v hv=>?_) rfl ⟨rfl,?_⟩
    · obtain ⟨i,t,rfl⟩:=f3 v hv
      exact .now
    rw [el]
    refine So.sort_wp (key:=fun i=>(bs.getD i (0,0)).1 * 1000 + ((bs.getD i (0,0)).2 : Int)) (fun i j hi hj C hC=>?_) (fun i j hi hj e=>?_) (by omega) fun p a b=>⟨rfl,a,b⟩
    · have b1:=getD_at' ((0 : Int),(0 : Nat)) hi
      have b2:=getD_at' ((0 : Int),(0 : Nat)) hj
      obtain ⟨o1,k1,t1,t2,g1,_,g3⟩:=ob hp kh i _ _ (getD_at' 0 (show i < as.length by omega)) b1
      obtain ⟨o2,k2,t3,t4,g1',_,g3'⟩:=ob hp kh j _ _ (getD_at' 0 (show j < as.length by omega)) b2
      have d1:=hd _ (List.mem_of_getElem? b1)
      have d2:=hd _ (List.mem_of_getElem? b2)
      unfold PySem.W.kas_ask
      rw [er i hi,er j hj]
      exact So.lt_pair g1 g3 g1' g3' (by omega) (by omega) hC
    · have b1:=getD_at' ((0 : Int),(0 : Nat)) hi
      have b2:=getD_at' ((0 : Int),(0 : Nat)) hj
      have d1:=hd _ (List.mem_of_getElem? b1)
      have d2:=hd _ (List.mem_of_getElem? b2)
      have e1 : (bs.getD i (0,0)).1 = (bs.getD j (0,0)).1:=by have e' : (bs.getD i (0,0)).1 * 1000 + ((bs.getD i (0,0)).2 : Int) = (bs.getD j (0,0)).1 * 1000 + ((bs.getD j (0,0)).2 : Int):=e; omega
      have e2 : (bs.getD i (0,0)).2 = (bs.getD j (0,0)).2:=by have e' : (bs.getD i (0,0)).1 * 1000 + ((bs.getD i (0,0)).2 : Int) = (bs.getD j (0,0)).1 * 1000 + ((bs.getD j (0,0)).2 : Int):=e; omega
      have e3 : bs.getD i (0,0) = bs.getD j (0,0):=Prod.ext e1 e2
      rw [List.getElem?_eq_getElem hi] at b1
      rw [List.getElem?_eq_getElem hj] at b2
      have e4 : bs[i] = bs[j]:=(Option.some.inj b1).trans (e3.trans (Option.some.inj b2).symm)
      rcases Nat.lt_trichotomy i j with z | z | z
      · exact absurd e4 (List.pairwise_iff_getElem.mp hne i j hi hj z)
      · exact z
      · exact absurd e4.symm (List.pairwise_iff_getElem.mp hne j i hj hi z)
  · rw [el]
    exact List.Perm.refl _
  · obtain ⟨hO,hI⟩:=hg
    obtain ⟨e,he⟩:=sortedAll_at s.heap (as.map Value.ref) (p.toList.map fun i=>(as.map Value.ref).getD i Value.none).toArray
    have pm : ∀ i,i ∈ p.toList → i < bs.length:=fun i hi=>List.mem_range.mp (hO.mem_iff.mp hi)
    have eo : (p.toList.map fun i=>(as.map Value.ref).getD i Value.none) = (p.toList.map fun i=>as.getD i 0).map Value.ref:=by
      rw [List.map_map]
      exact List.map_congr_left fun i hi=>er i (pm i hi)
    have ep : p.toList.length = bs.length:=by rw [Array.length_toList,hps,el]
    refine ⟨.ref (s.heap.objs.size + 1),_,I.laid (t':=s.toks) (o:=.lst ((p.toList.map fun i=>as.getD i 0).map V.ref)) (fun b u e=>sortedAll_old e) (Nat.le_succ _) ?_,rfl,q _ (p.toList.map fun i=>bs.getD i (0,0)) ?_ ?_ ⟨by simp,fun i a b e1 e2=>?_⟩ _ (I.hok.fresh (Nat.le_succ _))⟩
    · refine ⟨by rw [List.length_map,List.length_map,ep,sizeLine_eq]; omega,_,e,refs_vals _,?_⟩
      rw [he,eo]
    · have:=hO.map fun i=>bs.getD i ((0 : Int),(0 : Nat))
      have e2 : (List.range bs.length).map (fun i=>bs.getD i ((0 : Int),(0 : Nat))) = bs:=by
        refine List.ext_getElem (by simp) fun j h1 h2=>?_
        rw [List.getElem_map,List.getElem_range,List.getD_eq_getElem?_getD,List.getElem?_eq_getElem h2]
        rfl
      rwa [e2] at this
    · rw [List.pairwise_map,List.pairwise_iff_getElem]
      intro i j hi hj hij
      have:=hI i j hij (by omega)
      unfold So.Kp at this
      have hs : p.size = bs.length:=by rw [hps,el]
      rw [So.getD_at (by omega),So.getD_at (by omega)] at this
      simp only [Array.getElem_toList]
      have d1:=hd _ (List.mem_of_getElem? (getD_at' ((0 : Int),(0 : Nat)) (pm p[i] (by simp))))
      have d2:=hd _ (List.mem_of_getElem? (getD_at' ((0 : Int),(0 : Nat)) (pm p[j] (by simp))))
      unfold Dr.Lt2
      have this : (bs.getD p[i] (0,0)).1 * 1000 + ((bs.getD p[i] (0,0)).2 : Int) < (bs.getD p[j] (0,0)).1 * 1000 + ((bs.getD p[j] (0,0)).2 : Int):=this
      omega
    · rw [List.getElem?_map] at e1 e2
      cases z : p.toList[i]? with
      | none=>rw [z] at e1; cases e1
      | some k=>
        rw [z] at e1 e2
        have hk:=pm k (List.mem_of_getElem? z)
        have a1 : as.getD k 0 = a:=Option.some.inj e1
        have a2 : bs.getD k (0,0) = b:=Option.some.inj e2
        exact hP k a b (by rw [← a1]; exact getD_at' 0 (by omega)) (by rw [← a2]; exact getD_at' _ hk)
end
end L2
namespace L2
open PySem PySem.Spec PyProof.Rows
def tComp2 (caps : List Nat) (wi : TI) (g : TG) (tt : TT) (te : TE) : TE:=fun σ H Q=>wi σ H fun J H1=>∃ (n : Nat) (W : Nat → List V → Hp → Prop),n ≤ sizeLine ∧ W 0 [] H1 ∧ ∀ i ys H2,W i ys H2 →
  (J.stop i H2 ∧ ∀ p,H2 p = none → Q (.ref p) (upd H2 p (.lst ys))) ∨
  (J.go i H2 ∧ i < n ∧ ∀ x H3,J.yld i H2 x H3 → ∀ o1 o2 : Option V,g x (o1 :: o2 :: capV caps σ) H3 fun σ4 H4=>(∃ v1 v2 : V,σ4 = some v1 :: some v2 :: capV caps σ) ∧ tt σ4 H4 fun b H5=>if b = true then te σ4 H5 fun v H6=>W (i + 1) (ys ++ [v]) H6 else W (i + 1) ys H5)
section
variable {X : Cx} {scope : Scope} {cl : List (Str × Addr)} {caps : List Nat} {xs : List Str} {C : Addr} {s : Shared} {H : Hp} {fp : List Addr} {pins : List (Addr × Obj)} {σ : St}
theorem comp_start2 (I : Inv X pins σ H s) (hcl : ClOk X.env.cells cl) (hk : scope.kind = .function) (hfp : ∀ b ∈ fp,FpOk X pins H b) (hlt : ∀ b ∈ fp,b < s.heap.objs.size)
    (hhas : ((relabel scope X.env).names.all fun y=>!(y.2 == .cell || y.2 == .free) || (cl.lookup y.1).isSome) = true) (hC : s.heap.objs.size ≤ C)
    (hcap : CapsOk X (relabel scope X.env) cl caps xs) (hlen : caps.length = xs.length) {x y : Str} {h₁ : Heap} {t : Nat} {m : Str → Option Value} (hn : h₁.Ns C m) (kp : ∀ b o,s.heap.get? b = some o → h₁.get? b = some o) :
    Inv (compCx X (x :: y :: xs) scope cl C s H fp) [] (none :: none :: capV caps σ) H { s with heap:=h₁,toks:=t } where
  ok:=comp_ok I hcl hk hfp hlt hhas hC
  os:=rfl
  bare:=I.bare
  base:=Un.kept kp
  loc:=by
    refine ⟨m,hn,fun i z v h1 h2 _=>?_⟩
    cases i with
    | zero=>simp at h2
    | succ i=>
    cases i with
    | zero=>simp at h2
    | succ i=>
      obtain ⟨j,e1,e2,e3,e4,c,e5⟩:=cap_get (X:=X) (scope:=scope) hcap (i:=i) (by simpa [compCx] using h1) (by simpa using h2)
      obtain ⟨m₀,_,hl⟩:=I.loc
      obtain ⟨u,r,lk⟩:=hl j z v e1 e2 (.inr (.inl e3))
      refine ⟨u,r,.inr ⟨.inl e4,c,e5,?_⟩⟩
      rcases lk with ⟨z1,_⟩ | ⟨_,c',q1,q2⟩
      · have z' : X.env.scope.names.lookup z = some .local:=z1
        rw [e3] at z'
        cases z'
      · rw [hcl.get e5] at q1
        cases q1
        obtain ⟨o,ho,hd⟩:=q2
        exact ⟨o,kp _ _ ho,hd⟩
  cell:=fun z c e=>by
    obtain ⟨v,o,ho,hd⟩:=I.cell z c (hcl.get e)
    exact ⟨v,o,kp _ _ ho,hd⟩
  free:=I.hok.fresh hC
  freeC:=fun z c e=>I.freeC z c (hcl.get e)
  pin:=fun p hp=>by
    have hp' : p ∈ ([] : List (Addr × Obj)):=hp
    cases hp'
  hok:=I.hok.kept kp
  len:=by simp [compCx,capV,hlen]
end
section
variable {X : Cx}
theorem comp_block2 {elt iter tgt : Expr} {x y : Str} {pos : Pos} {g : TG} {ifs : List Expr} {scope : Scope} {cl : List (Str × Addr)} {caps : List Nat} {xs : List Str} {tt : TT} {te : TE}
    (hc : X.calm = true) (hcl : ClOk X.env.cells cl) (hcap : CapsOk X (relabel scope X.env) cl caps xs) (hlen : caps.length = xs.length)
    (hkind : scope.kind = .function) (hcell : ∀ y ∈ scope.names,y.2 ≠ .cell)
    (hhas : ((relabel scope X.env).names.all fun y=>!(y.2 == .cell || y.2 == .free) || (cl.lookup y.1).isSome) = true)
    (hg : ∀ C s H fp,PG (compCx X (x :: y :: xs) scope cl C s H fp) tgt g)
    (ht : ∀ C s H fp,PTs (compCx X (x :: y :: xs) scope cl C s H fp) ifs tt) (he : ∀ C s H fp,PE (compCx X (x :: y :: xs) scope cl C s H fp) elt te)
    {pins : List (Addr × Obj)} {σ : St} {H1 : Hp} {s2 : Shared} {it : Addr} {fp : List Addr} {tn : Nat → Heap → Prop} {J : It} {Q : VK}
    (I2 : Inv X pins σ H1 s2) (T : Turn X.prog X.w X.K tgt J fp it tn) (st0 : tn 0 s2.heap) (hfp : ∀ b ∈ fp,FpOk X pins H1 b)
    (hq : ∃ (n : Nat) (W : Nat → List V → Hp → Prop),n ≤ sizeLine ∧ W 0 [] H1 ∧ ∀ i ys H2,W i ys H2 →
      (J.stop i H2 ∧ ∀ p,H2 p = none → Q (.ref p) (upd H2 p (.lst ys))) ∨
      (J.go i H2 ∧ i < n ∧ ∀ x H3,J.yld i H2 x H3 → ∀ o1 o2 : Option V,g x (o1 :: o2 :: capV caps σ) H3 fun σ4 H4=>(∃ v1 v2 : V,σ4 = some v1 :: some v2 :: capV caps σ) ∧ tt σ4 H4 fun b H5=>if b = true then te σ4 H5 fun v H6=>W (i + 1) (ys ++ [v]) H6 else W (i + 1) ys H5))
    {RR : Value → Addr → Result → Shared → Prop}
    (hRR : ∀ s1 D C m H',Inv X pins σ H' s1 → s1.heap.Ns C m → Loose X pins H' C → Q (.ref D) H' → RR (.ref D) C (.ok .next) s1) :
    wpAny (model X.prog X.w) X.A (newList []) (fun acc s₃=>wpAny (model X.prog X.w) X.A (newFunctionEnv scope X.env.globals cl [] X.env.qual none .none (some X.env)) (fun cenv s₄=>
      codeAny (model X.prog X.w) X.A (.compStart (.ListComp elt [⟨tgt,iter,ifs,0⟩] scope pos) 0 (.ref it) acc { cenv with scope:=relabel scope X.env }) (RR acc cenv.locals) s₄) X.xe s₃) X.xe s2:=by
  obtain ⟨n,W,hn,w0,hW⟩:=hq
  have hlt : ∀ b ∈ fp,b < s2.heap.objs.size:=fun b hb=>by
    obtain ⟨o,ho,_⟩:=T.obj 0 s2.heap st0 b hb
    exact Heap.lt_size ho
  refine wpAny_newObj_type (wpAny_newFunctionEnv hcell (by intro y hy; simp at hy) (fun h₁ hns₁ hsb₁=>?_) hkind)
  dsimp only at hns₁ hsb₁ ⊢
  generalize hH2 : s2.heap.push { cls:=.type "list",dict:=none,data:=.seq ([] : List Value).toArray } = G at hns₁ hsb₁ ⊢
  have hC : G.objs.size = s2.heap.objs.size + 1:=by rw [← hH2,Heap.size_push]
  have hDC : s2.heap.objs.size ≠ G.objs.size:=by omega
  have old : ∀ b o,s2.heap.get? b = some o → h₁.get? b = some o:=fun b o e=>hsb₁.extBut b o (adr (by have h1 : @LT.lt Nat _ b s2.heap.objs.size:=Heap.lt_size e; omega)) (Heap.get?_push_of_some _ (hH2 ▸ Heap.get?_push_of_some _ e))
  have hacc : h₁.get? s2.heap.objs.size = some { cls:=.type "list",dict:=none,data:=.seq ([] : List Value).toArray }:=
    hsb₁.extBut _ _ hDC (Heap.get?_push_of_some _ (hH2 ▸ Heap.get?_push_size _ rfl))
  have I3 : Inv (compCx X (x :: y :: xs) scope cl G.objs.size s2 H1 fp) [] (none :: none :: capV caps σ) H1 { s2 with heap:=h₁,toks:=s2.toks + ([] : List (Str × Value)).length }:=
    comp_start2 I2 hcl hkind hfp hlt hhas (by omega) hcap hlen hns₁ old
  have st1 : tn 0 h₁:=T.keep 0 _ _ st0 fun b hb o e=>old b o e
  have fpX : ∀ {pins' : List (Addr × Obj)} {H' : Hp} (b : Addr),b ∈ fp → H' b = none → (∀ p ∈ pins',p.1 ≠ b) → FpOk (compCx X (x :: y :: xs) scope cl G.objs.size s2 H1 fp) pins' H' b:=fun b hb hh hp=>
    ⟨hh,fun z=>by have h1 : @LT.lt Nat _ b s2.heap.objs.size:=hlt b hb; have z' : @Eq Nat b G.objs.size:=z; omega,fun z=>by
      rcases List.mem_cons.mp (I2.stkSub b z) with q | q
      · exact (hfp b hb).2.1 q
      · exact (hfp b hb).2.2.1 q,.inl hb,fun y c e=>(hfp b hb).2.2.2.2.1 y c (hcl.get e),fun p hp'=>hp p hp'⟩
  let XC:=compCx X (x :: y :: xs) scope cl G.objs.size s2 H1 fp
  have loop : ∀ s3 : Shared,s3 = { s2 with heap:=h₁,toks:=s2.toks + ([] : List (Str × Value)).length } →
      codeAny (model X.prog X.w) X.A (.compLoop (.ListComp elt [⟨tgt,iter,ifs,0⟩] scope pos) 0 (.ref it) (.ref s2.heap.objs.size) (compEnvC scope cl G.objs.size X.env))
        (RR (.ref s2.heap.objs.size) G.objs.size) s3:=by
    rintro s3 rfl
    refine comp_loop (fun m s'=>∃ (i : Nat) (ys : List V) (Hn : Hp) (its : List Value) (k : Nat) (v0 v1 : Option V),m = n + 1 - i ∧ i ≤ n ∧ ys.length ≤ i ∧ W i ys Hn ∧ Vals ys its ∧ tn i s'.heap ∧ (∀ b ∈ fp,Hn b = none) ∧
      Inv XC [(s2.heap.objs.size,{ cls:=.type "list",data:=.seq its.toArray k })] (v0 :: v1 :: capV caps σ) Hn s') ?_ (n + 1) ?_
    · rintro m s' ⟨i,ys,Hn,its,k,v0,v1,rfl,hin,hyl,w,rv,st,hfn,J'⟩
      have pD:=J'.pin _ (List.mem_append_right _ (List.mem_singleton.mpr rfl))
      have neD : ∀ b ∈ fp,∀ p ∈ [((s2.heap.objs.size,({ cls:=.type "list",data:=.seq its.toArray k } : Obj)))],p.1 ≠ b:=fun b hb p hp z=>by
        have h1 : @LT.lt Nat instLTNat b s2.heap.objs.size:=hlt b hb
        rw [List.mem_singleton.mp hp] at z
        have z' : @Eq Nat s2.heap.objs.size b:=z
        omega
      rcases hW i ys Hn w with ⟨hstop,fin⟩ | ⟨hgo,hi',hgo'⟩
      · -- it stops
        refine wpAny_mono (T.done XC rfl rfl rfl hc i _ s' _ Hn (fun _ _=>False) J' (fun b hb=>fpX b hb (hfn b hb) (neD b hb)) st hstop) (fun r s1 hr=>?_) fun _ _ z=>z
        obtain ⟨rfl,J1⟩:=hr
        obtain ⟨mC,hnC,_⟩:=J1.loc
        have pD1:=J1.pin _ (List.mem_append_right _ (List.mem_singleton.mpr rfl))
        have hD' : s1.heap.get? s2.heap.objs.size = some { cls:=.type "list",data:=.seq its.toArray k }:=pD1.1
        have hHD : Hn s2.heap.objs.size = none:=pD1.2.1
        have hHC : Hn G.objs.size = none:=J1.free
        have un : Un (frs X.stack) fp H1 (upd Hn s2.heap.objs.size (.lst ys)) s2.heap s1.heap:=by
          have u:=J1.base
          have lt2 : ∀ b o,s2.heap.get? b = some o → b ≠ G.objs.size ∧ b ≠ s2.heap.objs.size:=fun b o e=>by
            have h1:=ltN e
            exact ⟨adr (by omega),adr (by omega)⟩
          refine ⟨u.keep,u.slot,fun b o e n1 n2=>?_,u.there,fun b zs e=>?_,fun b o u' e=>?_,fun b ps e=>?_⟩
          · rw [upd_ne (lt2 b o e).2]
            exact u.free b o e n1 n2
          · have q:=u.tups b zs e
            rw [upd_ne (fun z=>by rw [z,hHD] at q; cases q)]
            exact q
          · have q:=u.frzs b o u' e
            rw [upd_ne (fun z=>by rw [z,hHD] at q; cases q)]
            exact q
          · obtain ⟨more,q⟩:=u.tbls b ps e
            refine ⟨more,?_⟩
            rw [upd_ne (fun z=>by rw [z,hHD] at q; cases q)]
            exact q
        have hok : HOk X.prog X.w (upd Hn s2.heap.objs.size (.lst ys)) s1.heap:=fun a o e=>by
          by_cases ha : a = s2.heap.objs.size
          · subst ha
            rw [upd_same] at e
            cases e
            exact ⟨by omega,its,k,rv,hD'⟩
          · rw [upd_ne ha] at e
            have q : ObjOk X.prog X.w Hn s1.heap a o:=J1.hok a o e
            refine q.stay (fun b u' hb e'=>e') (fun b e'=>?_) fun b zs e'=>?_
            · rw [upd_ne (fun z=>by rw [z,hHD] at e'; cases e')]; exact e'
            · rw [upd_ne (fun z=>by rw [z,hHD] at e'; cases e')]; exact e'
        have I4 : Inv X pins σ (upd Hn s2.heap.objs.size (.lst ys)) s1:=
          I2.call' (ch:=fp) J1.os un hok J1.bare fun b hb=>⟨(hfp b hb).2.2.2.1,(hfp b hb).2.1,(hfp b hb).2.2.2.2.1,(hfp b hb).2.2.2.2.2⟩
        refine hRR s1 _ _ mC _ I4 hnC ⟨by rw [upd_ne (Ne.symm hDC)]; exact hHC,fun z=>?_,by have:=I2.sz; omega,fun y c e z=>?_,fun p hp z=>?_⟩ (fin _ hHD)
        · have h1 : @LT.lt Nat instLTNat X.env.locals s2.heap.objs.size:=I2.lt
          have z' : @Eq Nat G.objs.size X.env.locals:=z
          omega
        · obtain ⟨v',o',ho',_⟩:=I2.cell y c e
          have h1:=ltN ho'
          have z' : @Eq Nat c G.objs.size:=z
          omega
        · have h1:=ltN (I2.pin p hp).1
          have z' : @Eq Nat p.1 G.objs.size:=z
          omega
      · -- a turn
        refine wpAny_mono (T.item XC rfl rfl rfl hc i _ s' _ Hn (fun _ _=>False) J' (fun b hb=>fpX b hb (hfn b hb) (neD b hb)) st hgo) (fun r s1 hr=>?_) fun _ _ z=>z
        obtain ⟨u,rfl,hr⟩:=hr
        refine wpAny_mono hr (fun _ s2' h2=>?_) fun _ _ z=>z
        obtain ⟨v,H3,J1,ru,hy,st1',hf3⟩:=h2
        have ob4 : ∀ b ∈ fp,∃ o,s2'.heap.get? b = some o ∧ ∀ v,o.data ≠ .cell v:=fun b hb=>T.obj _ _ st1' b hb
        have J3:=J1.pinned (fun b hb=>fpX b hb (hf3 b hb) (neD b hb)) ob4
        have tnAt : ∀ {σ' : St} {H' : Hp} {s'' : Shared},Inv XC ([(s2.heap.objs.size,({ cls:=.type "list",data:=.seq its.toArray k } : Obj))] ++ pinsAt fp s2'.heap) σ' H' s'' → tn (i + 1) s''.heap ∧ ∀ b ∈ fp,H' b = none:=fun J4=>
          ⟨T.keep _ _ _ st1' fun b hb o e=>(J4.pin (b,o) (List.mem_append_right _ (List.mem_append_right _ (mem_pinsAt hb e)))).1,fun b hb=>by
            obtain ⟨o,e,_⟩:=ob4 b hb
            exact (J4.pin (b,o) (List.mem_append_right _ (List.mem_append_right _ (mem_pinsAt hb e)))).2.1⟩
        refine wpAny_mono (hg _ _ _ _ _ s2' _ H3 v u _ J3 ru (hgo' v H3 hy v0 v1)) (fun _ s4 h4=>?_) fun _ _ z=>z
        obtain ⟨σ4,H3',J3',⟨w1,w2,rfl⟩,q3⟩:=h4
        refine thn (ht _ _ _ _ _ s4 _ H3' _ J3' q3) fun ok s5 ⟨H4,J4,q4⟩=>?_
        cases ok with
        | false=>
          rw [if_neg (by simp)]
          have q4' : W (i + 1) ys H4:=q4
          obtain ⟨a1,a2⟩:=tnAt J4
          exact ⟨n + 1 - (i + 1),by omega,i + 1,ys,H4,its,k,some w1,some w2,rfl,by omega,by omega,q4',rv,a1,a2,J4.unpinned⟩
        | true=>
          rw [if_pos rfl]
          have q4' : te (some w1 :: some w2 :: capV caps σ) H4 fun v H5=>W (i + 1) (ys ++ [v]) H5:=q4
          refine thn (he _ _ _ _ _ s5 _ H4 _ J4 q4') fun uv s6 ⟨y,H5,J5,ry,q5⟩=>?_
          obtain ⟨a1,a2⟩:=tnAt J5
          have pD6:=J5.pin _ (List.mem_append_right _ (List.mem_append_left _ (List.mem_singleton.mpr rfl)))
          have hl6:=rv.length
          refine call_meets F.slot_list_append ⟨_,pD6.1,rfl⟩ F.entry_list_append (F.args_list_append_2 _ _) (PySem.list_append s2.heap.objs.size its.toArray k uv (by rw [List.size_toArray]; omega)) ⟨pD6.1,?_⟩
          have J6 : Inv XC [] (some w1 :: some w2 :: capV caps σ) H5 s6:=J5.pins_of fun p hp=>by cases hp
          have ne6 : s2.heap.objs.size ∉ fp:=fun z=>by have h1 : @LT.lt Nat instLTNat s2.heap.objs.size s2.heap.objs.size:=hlt _ z; omega
          have J7 : Inv XC [] (some w1 :: some w2 :: capV caps σ) H5 { s6 with heap:=s6.heap.update s2.heap.objs.size (Obj.mapSeq fun xs=>xs.push uv),toks:=s6.toks }:=
            J6.turned (it:=s2.heap.objs.size) (fun b o hb e=>by rw [Heap.get?_update_other _ _ (Ne.symm hb)]; exact e) pD6.2.1 (fun z=>hDC z) (.inr (Nat.le_refl _)) (fun y c e z=>by
              have e1:=I2.cell y c (hcl.get e)
              obtain ⟨v',o',ho',_⟩:=e1
              have h1:=ltN ho'
              have z' : @Eq Nat c s2.heap.objs.size:=z
              omega) (fun p hp=>by cases hp)
          refine ⟨n + 1 - (i + 1),by omega,i + 1,ys ++ [y],H5,its ++ [uv],k + 1,some w1,some w2,rfl,by omega,by rw [List.length_append,List.length_singleton]; omega,q5,rv.append (.cons ry .nil),?_,a2,?_⟩
          · refine T.keep _ _ _ a1 fun b hb o e=>?_
            show (s6.heap.update s2.heap.objs.size _).get? b = some o
            rw [Heap.get?_update_other _ _ (fun z=>ne6 (by rw [z]; exact hb))]
            exact e
          · refine J7.pins_of fun p hp=>?_
            rw [List.mem_singleton.mp hp]
            refine ⟨?_,pD6.2.1,fun z=>hDC z,pD6.2.2.2.1,fun v' z=>?_⟩
            · show (s6.heap.update s2.heap.objs.size _).get? s2.heap.objs.size = _
              rw [Heap.get?_update_self _ pD6.1 rfl]
              simp only [Obj.mapSeq,List.push_toArray]
              rw [if_neg (by simp)]
            · have z' : Data.seq _ _ = Data.cell v':=z
              cases z'
    · exact ⟨0,[],H1,[],0,none,none,by omega,by omega,by simp,w0,.nil,st1,fun b hb=>(hfp b hb).1,I3.pins_of fun p hp=>by
        rw [List.mem_singleton.mp hp]
        refine ⟨hacc,I2.hok.fresh (Nat.le_refl _),fun z=>hDC z,fun z=>?_,fun v' z=>?_⟩
        · have:=I2.stkFree _ z
          rcases List.mem_cons.mp (I2.stkSub _ z) with q | q
          · have h1 : @LT.lt Nat instLTNat X.env.locals s2.heap.objs.size:=I2.lt
            have z' : @Eq Nat s2.heap.objs.size X.env.locals:=q
            omega
          · exact I2.nofs (Nat.le_refl _) q
        · have z' : Data.seq _ _ = Data.cell v':=z
          cases z'⟩
  exact codeAny_compStart_list (loop _ rfl) (T.self X.A 0 _ _ _ st1 (loop _ rfl))
theorem pe_comp2 {elt iter : Expr} {x y : Str} {px py pt pos : Pos} {k1 : Nat} {ifs : List Expr} {scope : Scope} {cl : List (Str × Addr)} (caps : List Nat) (xs : List Str) {wi : TI} {tt : TT} {te : TE}
    (hc : X.calm = true) (hclos : closureFor scope X.env = pure cl) (hcl : ClOk X.env.cells cl) (hcap : CapsOk X (relabel scope X.env) cl caps xs) (hlen : caps.length = xs.length)
    (hkind : scope.kind = .function) (hcell : ∀ y ∈ scope.names,y.2 ≠ .cell) (hnames : ∀ y ∈ scope.names,y.2 = .local → scope.names.lookup y.1 = some .local)
    (hhas : ((relabel scope X.env).names.all fun y=>!(y.2 == .cell || y.2 == .free) || (cl.lookup y.1).isSome) = true)
    (hx : (relabel scope X.env).names.lookup x = some .local) (hy : (relabel scope X.env).names.lookup y = some .local) (hN : (x :: y :: xs).Nodup) (hi : PI X (.Tuple [.Name x px,.Name y py] k1 pt) iter wi) (ht : ∀ C s H fp,PTs (compCx X (x :: y :: xs) scope cl C s H fp) ifs tt) (he : ∀ C s H fp,PE (compCx X (x :: y :: xs) scope cl C s H fp) elt te)
    (hs : ∀ v,foldedSetIterable iter X.env v = pure v:=by intro _; rfl) : PE X (.ListComp elt [⟨.Tuple [.Name x px,.Name y py] k1 pt,iter,ifs,0⟩] scope pos) (tComp2 caps wi (gTup X.K 2 (gCons (gName 0) (gCons (gName 1) gNil))) tt te):=by
  intro pins s σ H Q I h
  rw [eval_ListComp]
  refine wpAny_comprehension_free (use:=none) rfl hs hclos hkind hnames (wpAny_mono (hi pins s σ H _ I h) (fun v s1 h1=>wpAny_mono h1 (fun itv s2 h2=>?_) fun _ _ e=>e) fun _ _ e=>e)
  obtain ⟨it,fp,tn,J,H1,rfl,I2,T,st0,hfp,hq⟩:=h2
  refine comp_block2 (RR:=fun acc C=>compPost (model X.prog X.w) X.A X.xe none (EP X pins σ Q) acc C) hc hcl hcap hlen hkind hcell hhas (fun C s H fp=>pg_tup (X:=compCx X (x :: y :: xs) scope cl C s H fp) hc (pgs_cons (pg_name (i:=0) hN rfl (.inl hx) (.inr hx)) (pgs_cons (pg_name (i:=1) hN rfl (.inl hy) (.inr hy)) pgs_nil))) ht he I2 T st0 hfp hq ?_
  intro s1 D C m H' I4 hn l q
  exact ⟨m,hn,fun h' hsb=>⟨.ref D,H',I4.letGo l hsb,rfl,q⟩⟩
theorem ps_comp2 {elt iter : Expr} {x y z : Str} {px py pz pt pos spos : Pos} {k1 : Nat} {ifs : List Expr} {scope : Scope} {cl : List (Str × Addr)} {k : Nat} (caps : List Nat) (xs : List Str) {wi : TI} {tt : TT} {te : TE}
    (hsw : swapsWith (.ListComp elt [⟨.Tuple [.Name x px,.Name y py] k1 pt,iter,ifs,0⟩] scope pos) (some (.Name z pz)) spos.line X.env = pure true)
    (hNX : X.N.Nodup) (hk : X.N[k]? = some z) (hz : X.env.scope.names.lookup z = some .local)
    (hc : X.calm = true) (hclos : closureFor scope X.env = pure cl) (hcl : ClOk X.env.cells cl) (hcap : CapsOk X (relabel scope X.env) cl caps xs) (hlen : caps.length = xs.length)
    (hkind : scope.kind = .function) (hcell : ∀ y ∈ scope.names,y.2 ≠ .cell) (hnames : ∀ y ∈ scope.names,y.2 = .local → scope.names.lookup y.1 = some .local)
    (hhas : ((relabel scope X.env).names.all fun y=>!(y.2 == .cell || y.2 == .free) || (cl.lookup y.1).isSome) = true)
    (hx : (relabel scope X.env).names.lookup x = some .local) (hy : (relabel scope X.env).names.lookup y = some .local) (hN : (x :: y :: xs).Nodup) (hi : PI X (.Tuple [.Name x px,.Name y py] k1 pt) iter wi) (ht : ∀ C s H fp,PTs (compCx X (x :: y :: xs) scope cl C s H fp) ifs tt) (he : ∀ C s H fp,PE (compCx X (x :: y :: xs) scope cl C s H fp) elt te)
    (hs : ∀ v,foldedSetIterable iter X.env v = pure v:=by intro _; rfl) : PS X (.Assign [.Name z pz] (.ListComp elt [⟨.Tuple [.Name x px,.Name y py] k1 pt,iter,ifs,0⟩] scope pos) spos) (tAsg (tComp2 caps wi (gTup X.K 2 (gCons (gName 0) (gCons (gName 1) gNil))) tt te) (gName k)):=by
  intro pins s σ H D I h
  rw [exec_Assign_Name_used _ _ _ _ hsw]
  refine wpAny_bind (wpAny_standAt (wpAny_bind ?_))
  show wpAny _ X.A (do let _ ← comprehension (.ListComp elt [⟨.Tuple [.Name x px,.Name y py] k1 pt,iter,ifs,0⟩] scope pos) scope X.env _ (newList []) false (eval iter X.env) (some (assign (.Name z pz) X.env))) _ _ s
  refine wpAny_bind (wpAny_mono (wpAny_comprehension_free (use:=some (assign (.Name z pz) X.env)) (Q:=fun _ s'=>SP X pins D .next s') rfl hs hclos hkind hnames
    (wpAny_mono (hi pins s σ H _ I h) (fun xv s₁ h₁=>wpAny_mono h₁ (fun itv s2 h2=>?_) fun _ _ e=>e) fun _ _ e=>e)) (fun _ s' hq=>wpAny_pure (wpAny_pure hq)) fun _ _ e=>e)
  obtain ⟨it,fp,tn,J,H1,rfl,I2,T,st0,hfp,hq⟩:=h2
  refine comp_block2 (Q:=fun v H1=>gName k v σ H1 D.nx) (RR:=fun acc C=>compPost (model X.prog X.w) X.A X.xe (some (assign (.Name z pz) X.env)) (fun _ s'=>SP X pins D .next s') acc C) hc hcl hcap hlen hkind hcell hhas (fun C s H fp=>pg_tup (X:=compCx X (x :: y :: xs) scope cl C s H fp) hc (pgs_cons (pg_name (i:=0) hN rfl (.inl hx) (.inr hx)) (pgs_cons (pg_name (i:=1) hN rfl (.inl hy) (.inr hy)) pgs_nil))) ht he I2 T st0 hfp hq ?_
  intro s1 Da C m H' I4 hn l q
  show wpAny _ X.A (assign (.Name z pz) X.env (.ref Da)) _ _ s1
  refine wpAny_assign_Name (store_ok2 (v:=.ref Da) I4 hNX hk (.inl hz) rfl (fun s4 I5 hsb=>?_) (.inr hz))
  obtain ⟨a,hsa,ha⟩:=hsb
  have hCa : C ≠ a:=by
    rcases ha with ha | ha
    · rw [ha]; exact l.2.1
    · exact Ne.symm (l.2.2.2.1 z a ha)
  refine ⟨m,hn.sameBut hsa hCa,fun h' hsb=>⟨_,H',I5.letGo l hsb,q⟩⟩
end
end L2
namespace L2
open PySem PySem.Spec PyProof.Rows
def PairsI (H : Hp) (as : List Addr) (fs : List (Int × Int)) : Prop:=as.length = fs.length ∧ ∀ (i : Nat) (a : Addr) (b : Int × Int),as[i]? = some a → fs[i]? = some b → H a = some (.tup [.int b.1,.int b.2])
def natP (b : Int × Nat) : Int × Int:=(b.1,(b.2 : Int))
theorem PairsAt.ints {H : Hp} {as : List Addr} {bs : List (Int × Nat)} (h : PairsAt H as bs) : PairsI H as (bs.map natP):=⟨by rw [List.length_map]; exact h.1,fun i a b e1 e2=>by
  rw [List.getElem?_map] at e2
  cases z : bs[i]? with
  | none=>rw [z] at e2; cases e2
  | some c=>
    rw [z] at e2
    cases e2
    exact h.2 i a c e1 z⟩
theorem PairsAt.same {H H' : Hp} {as : List Addr} {fs : List (Int × Nat)} (h : PairsAt H as fs) (g : Same H H') : PairsAt H' as fs:=⟨h.1,fun i a b e1 e2=>g _ _ (h.2 i a b e1 e2)⟩
theorem PairsAt.nil (H : Hp) : PairsAt H [] []:=⟨rfl,fun i a b e=>by simp at e⟩
theorem PairsI.nil (H : Hp) : PairsI H [] []:=⟨rfl,fun i a b e=>by simp at e⟩
theorem PairsAt.app {H : Hp} {as cs : List Addr} {bs ds : List (Int × Nat)} (h : PairsAt H as bs) (h' : PairsAt H cs ds) : PairsAt H (as ++ cs) (bs ++ ds):=by
  obtain ⟨h1,h2⟩:=h
  obtain ⟨h3,h4⟩:=h'
  refine ⟨by simp [h1,h3],fun i a b e1 e2=>?_⟩
  by_cases hl : i < as.length
  · rw [List.getElem?_append_left hl] at e1
    rw [List.getElem?_append_left (by omega)] at e2
    exact h2 i a b e1 e2
  · rw [List.getElem?_append_right (by omega)] at e1 e2
    rw [← h1] at e2
    exact h4 _ a b e1 e2
theorem PairsAt.one {H : Hp} {a : Addr} {b : Int × Nat} (h : H a = some (.tup [.int b.1,.int (b.2 : Int)])) : PairsAt H [a] [b]:=⟨rfl,fun i x y e1 e2=>by
  cases i with
  | zero=>cases e1; cases e2; exact h
  | succ i=>simp at e1⟩
theorem PairsI.at {H : Hp} {as : List Addr} {fs : List (Int × Int)} (h : PairsI H as fs) {i : Nat} {b : Int × Int} (e : fs[i]? = some b) : ∃ a,as[i]? = some a ∧ H a = some (.tup [.int b.1,.int b.2]):=by
  have hl:=(List.getElem?_eq_some_iff.mp e).1
  have e2 : as[i]? = some (as[i]'(by have:=h.1; omega)):=List.getElem?_eq_getElem _
  exact ⟨_,e2,h.2 i _ b e2 e⟩
theorem PairsAt.get {H : Hp} {as : List Addr} {fs : List (Int × Nat)} (h : PairsAt H as fs) {i : Nat} {a : Addr} (e : as[i]? = some a) : ∃ b,fs[i]? = some b ∧ H a = some (.tup [.int b.1,.int (b.2 : Int)]):=by
  have hl:=(List.getElem?_eq_some_iff.mp e).1
  have e2 : fs[i]? = some (fs[i]'(by have:=h.1; omega)):=List.getElem?_eq_getElem _
  exact ⟨_,e2,h.2 i a _ e e2⟩
def pairD (b : Int × Int) : PyData:=.tuple [.int b.1,.int b.2]
theorem datI {K : PySem.W.Frag} {H : Hp} : ∀ {as : List Addr} {fs : List (Int × Int)},PairsI H as fs → DatVs K H (as.map V.ref) (fs.map pairD)
  | [],[],_=>.nil
  | a :: as,tb :: fs,h=>.cons (.tup (SqT.of (h.2 0 a tb rfl rfl)) (.cons (.int _) (.cons (.int _) .nil))) (datI ⟨by have:=h.1; simpa using this,fun i a tb e1 e2=>h.2 (i + 1) a tb (by simpa using e1) (by simpa using e2)⟩)
  | [],_ :: _,h=>by have:=h.1; simp at this
  | _ :: _,[],h=>by have:=h.1; simp at this
theorem canLay_pairs : ∀ fs : List (Int × Int),PyData.canLayAll0 (fs.map pairD) = true
  | []=>by simp [PyData.canLayAll0]
  | n :: r=>by simp [PyData.canLayAll0,PyData.canLay0,pairD,canLay_pairs r]
theorem depth_pairs : ∀ fs : List (Int × Int),PyData.depthAll (fs.map pairD) ≤ 1
  | []=>by simp [PyData.depthAll]
  | n :: r=>by
    have:=depth_pairs r
    simp [PyData.depthAll,PyData.depth,pairD]
    omega
theorem shaped_p (fs : List (Int × Int)) : SeqAt.shaped (.list (fs.map pairD)) = true:=by
  have:=depth_pairs fs
  unfold SeqAt.shaped
  simp [PyData.canLay0,PyData.depth,canLay_pairs]
  omega
theorem eqvAll_pairs : ∀ fs gs : List (Int × Int),PyData.eqvAll (fs.map pairD) (gs.map pairD) = decide (fs = gs)
  | [],[]=>by simp [PyData.eqvAll]
  | [],_ :: _=>by simp [PyData.eqvAll]
  | _ :: _,[]=>by simp [PyData.eqvAll]
  | a :: fs,b :: gs=>by
    have ih:=eqvAll_pairs fs gs
    have e : PyData.eqv (pairD a) (pairD b) = decide (a = b):=by
      simp only [pairD,PyData.eqv,PyData.eqvAll]
      rw [Bool.and_true]
      by_cases z : a = b
      · subst z; simp
      · rw [decide_eq_false z]
        simp only [Bool.and_eq_false_iff,beq_eq_false_iff_ne,ne_eq,decide_eq_false_iff_not]
        by_cases w : a.1 = b.1
        · exact .inr fun v=>z (Prod.ext w v)
        · exact .inl w
    simp only [List.map_cons,PyData.eqvAll,ih,e]
    by_cases z : a = b
    · by_cases y : fs = gs
      · simp [z,y]
      · simp [z,y]
    · simp [z]
section
variable {K : PySem.W.Frag} {H : Hp} {l m : Addr} {as cs : List Addr} {fs gs : List (Int × Int)} {Q : VK}
theorem neP (h : SqL K H l (as.map V.ref)) (hp : PairsI H as fs) (h' : SqL K H m (cs.map V.ref)) (hp' : PairsI H cs gs) (q : Q (.bl (!decide (fs = gs))) H) : rEqD K true (.ref l) (.ref m) H Q:=by
  refine ⟨_,_,.lst h (datI hp),.lst h' (datI hp'),shaped_p fs,shaped_p gs,?_⟩
  rw [if_pos rfl]
  simp only [PyData.eqv,eqvAll_pairs]
  exact q
end
def CompIt2 (J : It) (caps : List Nat) (g : TG) (tt : TT) (te : TE) (σ : St) (H : Hp) (Q : VK) : Prop:=∃ (n : Nat) (W : Nat → List V → Hp → Prop),n ≤ sizeLine ∧ W 0 [] H ∧ ∀ i ys H2,W i ys H2 →
  (J.stop i H2 ∧ ∀ p,H2 p = none → Q (.ref p) (upd H2 p (.lst ys))) ∨
  (J.go i H2 ∧ i < n ∧ ∀ x H3,J.yld i H2 x H3 → ∀ o1 o2 : Option V,g x (o1 :: o2 :: capV caps σ) H3 fun σ4 H4=>(∃ v1 v2 : V,σ4 = some v1 :: some v2 :: capV caps σ) ∧ tt σ4 H4 fun b H5=>if b = true then te σ4 H5 fun v H6=>W (i + 1) (ys ++ [v]) H6 else W (i + 1) ys H5)
theorem w_comp2 {caps : List Nat} {wi : TI} {g : TG} {tt : TT} {te : TE} {σ : St} {H : Hp} {Q : VK} : tComp2 caps wi g tt te σ H Q = wi σ H fun J H1=>CompIt2 J caps g tt te σ H1 Q:=rfl
theorem comp2P {K : PySem.W.Frag} {a : Addr} {caps : List Nat} {tt : TT} {te : TE} {σ : St} {H : Hp} {Q : VK} {as : List Addr} {fs : List (Int × Int)} (Pv : Nat → List V → Hp → Prop) (hn : fs.length ≤ sizeLine) (h0 : Pv 0 [] H) (hl : ∀ i ys H,Pv i ys H → SqL K H a (as.map V.ref) ∧ PairsI H as fs)
    (hs : ∀ i (b : Int × Int) ys H,fs[i]? = some b → Pv i ys H → tt (some (.int b.1) :: some (.int b.2) :: capV caps σ) H fun t H4=>if t = true then te (some (.int b.1) :: some (.int b.2) :: capV caps σ) H4 fun v H5=>Pv (i + 1) (ys ++ [v]) H5 else Pv (i + 1) ys H4)
    (hd : ∀ ys H,Pv fs.length ys H → ∀ p,H p = none → Q (.ref p) (upd H p (.lst ys))) : CompIt2 (Itl K a) caps (gTup K 2 (gCons (gName 0) (gCons (gName 1) gNil))) tt te σ H Q:=by
  refine ⟨fs.length,fun i ys H=>i ≤ fs.length ∧ Pv i ys H,hn,⟨Nat.zero_le _,h0⟩,?_⟩
  rintro i ys H2 ⟨hi,p⟩
  obtain ⟨hS,hP⟩:=hl i ys H2 p
  have hal:=hP.1
  by_cases hlt : i < fs.length
  · have hb : fs[i]? = some fs[i]:=List.getElem?_eq_getElem hlt
    obtain ⟨x,hx,hkx⟩:=hP.at hb
    have hv : (as.map V.ref)[i]? = some (.ref x):=by rw [List.getElem?_map,hx]; rfl
    refine .inr ⟨⟨_,_,hS,hv⟩,hlt,?_⟩
    rintro y H3 ⟨rfl,hy⟩ o1 o2
    have hxy : y = .ref x:=(Option.some.inj (hv.symm.trans (hy _ hS))).symm
    subst hxy
    refine ⟨x,_,rfl,SqT.of hkx,rfl,_,_,rfl,_,_,rfl,rfl,⟨_,_,rfl⟩,?_⟩
    have key:=hs i _ ys H3 hb p
    have e2 : (fun (t : Bool) (H4 : Hp)=>if t = true then te (some (.int fs[i].1) :: some (.int fs[i].2) :: capV caps σ) H4 fun v H5=>Pv (i + 1) (ys ++ [v]) H5 else Pv (i + 1) ys H4) = fun t H4=>if t = true then te (some (.int fs[i].1) :: some (.int fs[i].2) :: capV caps σ) H4 fun v H5=>i + 1 ≤ fs.length ∧ Pv (i + 1) (ys ++ [v]) H5 else i + 1 ≤ fs.length ∧ Pv (i + 1) ys H4:=by
      funext t H4
      have z : i + 1 ≤ fs.length:=hlt
      simp only [z,true_and]
    rw [e2] at key
    exact key
  · have e : i = fs.length:=by omega
    subst e
    exact .inl ⟨⟨_,hS,by rw [List.length_map]; omega⟩,hd ys H2 p⟩
end L2
namespace L2
open PySem PySem.Spec PyProof.Rows
section
variable {X : Cx}
end
end L2
namespace L2
open PySem PySem.Spec PyProof.Rows
namespace Dx
section
variable {pr : Program} {wo : World} {Ar : Around} {Er : Value → Shared → Prop} {st : Shared} {d it : Addr} {od : Obj} {es : Array DictEntry} {ep i : Nat}
end
end Dx
def Itd (o : Obj) (a : Addr) (kvs : List (List Key × V)) : It:=
  ⟨fun i H=>H a = some (.frz o (.dT kvs)) ∧ i < kvs.length,fun i H x H'=>H' = H ∧ ∃ b k v,x = .ref b ∧ kvs[i]? = some (k,v) ∧ H b = some (.tup (k.map kV)),fun i H=>H a = some (.frz o (.dT kvs)) ∧ kvs.length ≤ i⟩
def iDict (td : TE) : TI:=fun σ H R=>td σ H fun x H1=>∃ a kvs,x = .ref a ∧ H1 a = some (.dT kvs) ∧ ∀ o,R (Itd o a kvs) (upd H1 a (.frz o (.dT kvs)))
section
variable {X : Cx} {tg : Expr}
end
namespace Dx
end Dx
section
variable {X : Cx}
end
end L2
namespace L2
open PySem PySem.Spec PyProof.Rows
section
variable {X : Cx} {pins : List (Addr × Obj)} {σ : St} {H : Hp} {s : Shared} {h' : Heap}
theorem Inv.turnedS {t' : Nat} {ch : List Addr} (I : Inv X pins σ H s) (k : ∀ b u,b ∉ ch → s.heap.get? b = some u → h'.get? b = some u) (f : ∀ b,b ∈ ch → FpOk X pins H b) : Inv X pins σ H { s with heap:=h',toks:=t' }:=by
  have nit : ∀ b u,H b = some u → b ∉ ch:=fun b u e z=>ne_of_none e (f b z).1 rfl
  refine I.step (g':=s.gens) (d':=s.drawn) (ch:=ch) (fun b hb=>?_) (fun b o _ _ hc e _=>k b o hc e) (fun b o _ _ hc e _=>⟨o.slots,k b o hc e⟩) (fun _ _ _ _ n=>n)
    (fun b o hc e=>⟨o,k b o hc e⟩) (fun _ _ e=>e) (fun _ _ _ e=>e) (fun b ps e=>⟨#[],by rw [e]; simp⟩) (fun m hm=>?_) (fun b u e=>?_) I.bare
  · obtain ⟨f0,f1,f2,f3,f4,f5⟩:=f b hb
    exact ⟨f3,f1,f4,f5⟩
  · obtain ⟨o,es,ep,ho,r⟩:=hm
    exact ⟨o,es,ep,k _ o (fun z=>(f _ z).2.1 rfl) ho,r⟩
  · refine (I.hok b u e).stay (fun c v hc q=>k c v ?_ q) (fun _ q=>q) fun _ _ q=>q
    rcases hc with z | z
    · rw [z]; exact nit b u e
    · exact nit c _ z
theorem Inv.turnedN {t' : Nat} {a : Addr} {o : HO} {ch : List Addr} (I : Inv X pins σ H s) (k : ∀ b u,b ∉ ch → s.heap.get? b = some u → h'.get? b = some u) (ha : a = s.heap.objs.size) (new : ObjOk X.prog X.w (upd H a o) h' a o) (f : ∀ b,b ∈ ch → FpOk X pins H b) :
    Inv X pins σ (upd H a o) { s with heap:=h',toks:=t' }:=by
  have hnone : H a = none:=I.hok.fresh (by rw [ha]; exact Nat.le_refl _)
  have lts : ∀ b u,s.heap.get? b = some u → b ≠ a:=fun b u q=>by rw [ha]; exact Nat.ne_of_lt (Heap.lt_size q)
  have ntr : ∀ b u,H b = some u → b ∉ ch:=fun b u q z=>ne_of_none q (f b z).1 rfl
  refine I.step (g':=s.gens) (d':=s.drawn) (ch:=ch) (fun b hb=>?_) (fun b u _ _ hc q _=>k b u hc q) (fun b u _ _ hc q _=>⟨u.slots,k b u hc q⟩) (fun b u _ q n=>by rw [upd_ne (lts b u q)]; exact n)
    (fun b u hc q=>⟨u,k b u hc q⟩) (fun b zs q=>by rw [upd_ne (ne_of_none q hnone)]; exact q) (fun b u v q=>by rw [upd_ne (ne_of_none q hnone)]; exact q) (fun b ps q=>⟨#[],by rw [upd_ne (ne_of_none q hnone),q]; simp⟩) (fun m hm=>?_) (fun b u q=>?_) I.bare
  · obtain ⟨f0,f1,f2,f3,f4,f5⟩:=f b hb
    exact ⟨f3,f1,f4,f5⟩
  · obtain ⟨u,es,ep,ho,r⟩:=hm
    exact ⟨u,es,ep,k _ u (fun z=>(f _ z).2.1 rfl) ho,r⟩
  · by_cases hb : b = a
    · subst hb
      rw [upd_same] at q
      cases q
      exact new
    · rw [upd_ne hb] at q
      have w : ObjOk X.prog X.w H s.heap b u:=I.hok b u q
      have ntr' : ∀ c,(c = b ∨ ∃ u,H c = some u) → c ∉ ch:=fun c hc=>by
        rcases hc with z | ⟨_,z⟩
        · rw [z]; exact ntr b u q
        · exact ntr c _ z
      refine w.stay (fun c v hc q'=>k c v (ntr' c ?_) q') (fun c q'=>?_) fun c zs q'=>?_
      · rcases hc with z | z
        · exact .inl z
        · exact .inr ⟨_,z⟩
      · rw [upd_ne (ne_of_none q' hnone)]; exact q'
      · rw [upd_ne (ne_of_none q' hnone)]; exact q'
end
def Itz (K : PySem.W.Frag) (a b : Addr) : It:=
  ⟨fun i H=>∃ xs ys x y,SqL K H a xs ∧ SqL K H b ys ∧ xs[i]? = some x ∧ ys[i]? = some y,fun i H x H'=>∃ y z t,(∀ xs,SqL K H a xs → xs[i]? = some y) ∧ (∀ xs,SqL K H b xs → xs[i]? = some z) ∧ H t = none ∧ x = .ref t ∧ H' = upd H t (.tup [y,z]),fun i H=>∃ xs ys,SqL K H a xs ∧ SqL K H b ys ∧ (xs.length ≤ i ∨ ys.length ≤ i)⟩
theorem ane {x y : Nat} (h : x ≠ y) : ¬ (x : Addr) = (y : Addr):=h
theorem ne_list {h : Heap} {l c : Addr} {xs : Array Value} (hl : h.IsList l xs) (hc : ∃ o,h.get? c = some o ∧ o.cls ≠ .type "list") : l ≠ c:=by
  obtain ⟨o,ho,n⟩:=hc
  obtain ⟨u,hu,cu,_⟩:=hl
  intro z
  rw [z,ho] at hu
  cases hu
  exact n cu
section
variable {X : Cx} {e e2 : Expr} {te te2 : TE} {p pos : Pos}
def iZip (K : PySem.W.Frag) (tl tl2 : TE) : TI:=fun σ H R=>tl σ H fun x H1=>tl2 σ H1 fun y H2=>∃ a b,x = .ref a ∧ y = .ref b ∧ (∃ xs,SqL K H2 a xs) ∧ (∃ ys,SqL K H2 b ys) ∧ R (Itz K a b) H2
end
end L2
namespace L2
open PySem PySem.Spec PyProof.Rows
section
variable {X : Cx} {e : Expr} {te : TE} {p p2 pos pos2 : Pos}
end
end L2
namespace L2
open PySem PySem.Spec PyProof.Rows
section
variable {X : Cx} {body suite suite2 : List Stmt} {b₀ b₁ : Stmt} {D D2 : Addr} {cx cx2 : Str} {np np2 hpos hpos2 pos : Pos} {tb : (St → XK) → TS} {ts ts2 : TS}
end
section
variable {X : Cx}
end
end L2
namespace L2
open PySem PySem.Spec PyProof.Rows
def Its (z : Str) : It:=⟨fun i _=>i < z.cps.size,fun i H x H'=>H' = H ∧ ∃ c,z.cps[i]? = some c ∧ x = .str ⟨#[c]⟩,fun i _=>z.cps.size ≤ i⟩
theorem turn_str {P : Program} {w : World} {K : PySem.W.Frag} {tg : Expr} (z : Str) (t : Tok) (it : Addr) (T : String) (hT : T = "str_ascii_iterator" ∨ T = "str_iterator") : Turn P w K tg (Its z) [it] it (fun i h=>h.IsStrIter it T z t i) where
  mem:=by simp
  obj:=fun i h st b hb=>by
    have e : b = it:=by simpa using hb
    subst e
    obtain ⟨o,e,c,d⟩:=st
    exact ⟨o,e,fun v z=>by rw [d] at z; cases z⟩
  keep:=fun i h h' st k=>by
    obtain ⟨o,e,r⟩:=st
    exact ⟨o,k it (by simp) o e,r⟩
  item:=by
    intro X hP hw hK hc i pins s σ H E I hf st hg
    subst hP hw hK
    obtain ⟨f0,f1,f2,f3,f4,f5⟩:=hf it (by simp)
    have hg' : i < z.cps.size:=hg
    have hi : z.cps[i]? = some z.cps[i]:=by simp [hg']
    have fin : ∀ h' : Heap,h'.IsStrIter it T z t (i + 1) → Heap.SameBut it s.heap h' → ∃ u,some (Value.str ⟨#[z.cps[i]]⟩ s.toks) = some u ∧
        wpAny (model X.prog X.w) X.A (letOwnedTupleGo tg (.ref it) u) (fun _ s2=>∃ x H',Inv X pins σ H' s2 ∧ RelV x u ∧ (Its z).yld i H x H' ∧ s2.heap.IsStrIter it T z t (i + 1) ∧ ∀ b ∈ [it],H' b = none) E { s with heap:=h',toks:=s.toks + 1 }:=fun h' st' sb=>by
      have I1 : Inv X pins σ H { s with heap:=h',toks:=s.toks + 1 }:=I.turned (t':=s.toks + 1) (fun b o hb e=>(sb.2 b hb).trans e) f0 f1 f3 f4 f5
      obtain ⟨o,e,c,d⟩:=id st'
      exact ⟨_,rfl,go_of (s:={ s with heap:=h',toks:=s.toks + 1 }) e c d (by rcases hT with rfl | rfl <;> decide) ⟨.str ⟨#[z.cps[i]]⟩,H,I1,⟨_,rfl⟩,⟨rfl,_,hi,rfl⟩,st',fun b hb=>(hf b hb).1⟩⟩
    rcases hT with rfl | rfl
    · exact wpAny_pyNext_ascii_item st hi fun h' st' sb=>fin h' st' sb
    · exact wpAny_pyNext_wide_item st hi fun h' st' sb=>fin h' st' sb
  done:=by
    intro X hP hw hK hc i pins s σ H E I hf st hg
    subst hP hw hK
    obtain ⟨f0,f1,f2,f3,f4,f5⟩:=hf it (by simp)
    have hg' : z.cps.size ≤ i:=hg
    have hx : z.cps[i]? = none:=by simp [hg']
    rcases hT with rfl | rfl
    · exact wpAny_pyNext_ascii_end (I.ok.hd hc) st hx fun h' eb=>⟨rfl,I.turned (t':=s.toks) (fun b o hb e=>eb b o hb e) f0 f1 f3 f4 f5⟩
    · exact wpAny_pyNext_wide_end (I.ok.hd hc) st hx fun h' eb=>⟨rfl,I.turned (t':=s.toks) (fun b o hb e=>eb b o hb e) f0 f1 f3 f4 f5⟩
  self:=fun _ _ _ _ _ st h=>by
    rcases hT with rfl | rfl
    · exact wpAny_pyIter_striter_ascii st h
    · exact wpAny_pyIter_striter_wide st h
def iStr (tl : TE) : TI:=fun σ H R=>tl σ H fun x H1=>∃ z,x = .str z ∧ R (Its z) H1
theorem pi_str {X : Cx} {tg l : Expr} {tl : TE} (hl : PE X l tl) : PI X tg l (iStr tl):=by
  intro pins s σ H R I h
  refine thn (hl pins s σ H _ I h) fun v s1 ⟨x,H1,I1,r1,q1⟩=>?_
  obtain ⟨z,e,q⟩:=q1
  subst e
  obtain ⟨t,rfl⟩:=r1
  have fp : ∀ b ∈ [s1.heap.objs.size],FpOk X pins H1 b:=fun b hb=>by
    have e : b = s1.heap.objs.size:=by simpa using hb
    subst e
    exact I1.fpOk (Nat.le_refl _) (I1.hok.fresh (Nat.le_refl _))
  cases ha : z.cps.all (· < 128)
  · refine wpAny_pyIter_wide ha ?_
    exact ⟨s1.heap.objs.size,[s1.heap.objs.size],_,_,H1,rfl,I1.kept (t':=s1.toks) fun b o e=>Heap.get?_push_of_some _ e,turn_str z t _ "str_iterator" (.inr rfl),⟨_,Heap.get?_push_size _ rfl,rfl,rfl⟩,fp,q⟩
  · refine wpAny_pyIter_ascii ha ?_
    exact ⟨s1.heap.objs.size,[s1.heap.objs.size],_,_,H1,rfl,I1.kept (t':=s1.toks) fun b o e=>Heap.get?_push_of_some _ e,turn_str z t _ "str_ascii_iterator" (.inl rfl),⟨_,Heap.get?_push_size _ rfl,rfl,rfl⟩,fp,q⟩
section
variable {g : TG} {tb : TS} {D : Ends} {σ : St} {H : Hp} {caps : List Nat} {tt : TT} {te : TE} {Q : VK}
theorem forS (z : Str) (Pv : Nat → St → Hp → Prop) (h0 : Pv 0 σ H)
    (hs : ∀ i c σ H,z.cps.toList[i]? = some c → Pv i σ H → g (.str ⟨#[c]⟩) σ H fun σ2 H2=>tb { D with nx:=Pv (i + 1),ct:=Pv (i + 1),bk:=D.nx } σ2 H2) (hd : ∀ σ H,Pv z.cps.toList.length σ H → D.nx σ H) : ForIt (Its z) g tb D σ H:=by
  have hsz : z.cps.toList.length = z.cps.size:=by simp
  refine ⟨fun i m σ H=>m = z.cps.size - i ∧ i ≤ z.cps.size ∧ Pv i σ H,⟨z.cps.size,by simp,Nat.zero_le _,h0⟩,?_⟩
  rintro i m σ H ⟨rfl,hi,p⟩
  by_cases hlt : i < z.cps.size
  · refine .inr ⟨hlt,Pv (i + 1),fun σ' H' p'=>⟨z.cps.size - (i + 1),by omega,rfl,hlt,p'⟩,fun x H' y=>?_⟩
    obtain ⟨rfl,c,hc,rfl⟩:=y
    exact hs i c σ H' (by simpa using hc) p
  · have e : i = z.cps.size:=by omega
    subst e
    exact .inl ⟨Nat.le_refl _,hd σ H (by rw [hsz]; exact p)⟩
theorem compS (z : Str) (Pv : Nat → List V → Hp → Prop) (hn : z.cps.toList.length ≤ sizeLine) (h0 : Pv 0 [] H)
    (hs : ∀ i c ys H,z.cps.toList[i]? = some c → Pv i ys H → tt (some (.str ⟨#[c]⟩) :: capV caps σ) H fun b H4=>if b = true then te (some (.str ⟨#[c]⟩) :: capV caps σ) H4 fun v H5=>Pv (i + 1) (ys ++ [v]) H5 else Pv (i + 1) ys H4)
    (hd : ∀ ys H,Pv z.cps.toList.length ys H → ∀ p,H p = none → Q (.ref p) (upd H p (.lst ys))) : CompIt (Its z) caps tt te σ H Q:=by
  have hsz : z.cps.toList.length = z.cps.size:=by simp
  refine ⟨z.cps.size,fun i ys H=>i ≤ z.cps.size ∧ Pv i ys H,by omega,⟨Nat.zero_le _,h0⟩,?_⟩
  rintro i ys H2 ⟨hi,p⟩
  by_cases hlt : i < z.cps.size
  · refine .inr ⟨hlt,hlt,?_⟩
    rintro x H3 ⟨rfl,c,hc,rfl⟩
    have key:=hs i c ys H3 (by simpa using hc) p
    have e2 : (fun (b : Bool) (H4 : Hp)=>if b = true then te (some (.str ⟨#[c]⟩) :: capV caps σ) H4 fun v H5=>Pv (i + 1) (ys ++ [v]) H5 else Pv (i + 1) ys H4) = fun b H4=>if b = true then te (some (.str ⟨#[c]⟩) :: capV caps σ) H4 fun v H5=>i + 1 ≤ z.cps.size ∧ Pv (i + 1) (ys ++ [v]) H5 else i + 1 ≤ z.cps.size ∧ Pv (i + 1) ys H4:=by
      funext b H4
      have w : i + 1 ≤ z.cps.size:=hlt
      simp only [w,true_and]
    rw [e2] at key
    exact key
  · have e : i = z.cps.size:=by omega
    subst e
    exact .inl ⟨Nat.le_refl _,hd ys H2 (by rw [hsz]; exact p)⟩
end
section
variable {X : Cx}
def rStarts : V → List V → Hp → VK → Prop:=fun x vs H Q=>∃ z y,x = .str z ∧ vs = [.str y] ∧ Q (.bl (Txt.startswith z y)) H
theorem mt_starts : MtM X "str.startswith" rStarts:=by
  intro pins s σ H x xs v us Q I rx rs h
  obtain ⟨z,y,rfl,rfl,q⟩:=h
  obtain ⟨t,rfl⟩:=rx
  obtain ⟨u,rfl,t',rfl⟩:=Vals.one rs
  exact SC.startswith ⟨.bl _,H,I,rfl,q⟩
theorem vals_strs : ∀ (n : Nat) (l : List Str),Vals (l.map V.str) (strsFrom n l)
  | _,[]=>.nil
  | n,x :: r=>.cons ⟨_,rfl⟩ (vals_strs (n + 1) r)
def rSplit : V → List V → Hp → VK → Prop:=fun x vs H Q=>∃ z y,x = .str z ∧ vs = [.str y] ∧ 0 < y.length ∧ z.length + 2 ≤ sizeLine ∧ ∀ l,H l = none → Q (.ref l) (upd H l (.lst ((Txt.split z y).map V.str)))
theorem mt_split : MtM X "str.split" rSplit:=by
  intro pins s σ H x xs v us Q I rx rs h
  obtain ⟨z,y,rfl,rfl,hy,hz,q⟩:=h
  obtain ⟨t,rfl⟩:=rx
  obtain ⟨u,rfl,t',rfl⟩:=Vals.one rs
  have hy' : (y.length == 0) = false:=by simpa using Nat.ne_of_gt hy
  have fin : ∀ (its : List Value) (tk : Nat),Vals ((Txt.split z y).map V.str) its → ((Txt.split z y).map V.str).length ≤ sizeLine → EP X pins σ Q (.ref s.heap.objs.size) { s with toks:=tk,heap:=s.heap.push { cls:=.type "list",data:=.seq its.toArray } }:=fun its tk r hl=>
    ⟨.ref s.heap.objs.size,_,I.laid (t':=tk) (fun b o e=>Heap.get?_push_of_some _ e) (Nat.le_refl _) (show ObjOk X.prog X.w _ _ _ (.lst _) from ⟨hl,its,0,r,Heap.get?_push_size _ rfl⟩),rfl,q _ (I.hok.fresh (Nat.le_refl _))⟩
  have hpn : (Builtin.Str.partsBetween z (Builtin.Str.occurrences z y 0 z.length (z.length + 1)) y.length).length ≤ sizeLine:=by
    have hh : (Builtin.Str.occurrences z y 0 z.length (z.length + 1)).length ≤ z.length + 1:=StrLaws.occ_length_le_len z y 0 z.length (z.length + 1)
    generalize (Builtin.Str.occurrences z y 0 z.length (z.length + 1)) = oc at hh
    generalize z.length = n at hh hz
    unfold Builtin.Str.partsBetween
    simp only [List.length_map,List.length_zip,List.length_cons,List.length_append,List.length_nil]
    refine Nat.le_trans (Nat.min_le_left _ _) ?_
    omega
  cases h1 : (decide (z.length < y.length) || decide (Builtin.Str.strKind z < Builtin.Str.strKind y))
  · cases hf : (Builtin.Str.occurrences z y 0 z.length (z.length + 1)).isEmpty
    · have e : Txt.split z y = Builtin.Str.partsBetween z (Builtin.Str.occurrences z y 0 z.length (z.length + 1)) y.length:=(if_neg (ne_true_of_eq_false h1)).trans (if_neg (ne_true_of_eq_false hf))
      rw [e] at fin
      exact call_meets F.slot_str_split (typeIs_str _ _ _) F.entry_str_split (F.args_str_split_2 _ _) (meets_str_split_sep z y t t' h1 hy' hf (by omega) hpn) (fin _ _ (vals_strs _ _) (by rw [List.length_map]; exact hpn))
    · have e : Txt.split z y = [z]:=(if_neg (ne_true_of_eq_false h1)).trans (if_pos hf)
      rw [e] at fin
      exact call_meets F.slot_str_split (typeIs_str _ _ _) F.entry_str_split (F.args_str_split_2 _ _) (meets_str_split_not_found z y t t' h1 hy' hf) (fin _ _ (.cons ⟨_,rfl⟩ .nil) (by show 1 ≤ sizeLine; decide))
  · have e : Txt.split z y = [z]:=if_pos h1
    rw [e] at fin
    exact call_meets F.slot_str_split (typeIs_str _ _ _) F.entry_str_split (F.args_str_split_2 _ _) (meets_str_split_cannot_occur z y t t' h1) (fin _ _ (.cons ⟨_,rfl⟩ .nil) (by show 1 ≤ sizeLine; decide))
theorem strs_of : ∀ {zs : List Str} {us : List Value},Vals (zs.map V.str) us → ∃ l : List (Str × Tok),us = strValues l ∧ l.map (·.1) = zs
  | [],_,.nil=>⟨[],rfl,rfl⟩
  | z :: zs,_,.cons ⟨t,e⟩ r=>by
    obtain ⟨l,e1,e2⟩:=strs_of r
    exact ⟨(z,t) :: l,by rw [e,e1]; rfl,by rw [List.map_cons,e2]⟩
def rJoin (K : PySem.W.Frag) : V → List V → Hp → VK → Prop:=fun x vs H Q=>∃ z a zs,x = .str z ∧ vs = [.ref a] ∧ SqL K H a (zs.map V.str) ∧ JoinOk z zs = true ∧ Q (.str (Txt.join z zs)) H
theorem mt_join : MtM X "str.join" (rJoin X.K):=by
  intro pins s σ H x xs v us Q I rx rs h
  obtain ⟨z,a,zs,rfl,rfl,hq,hj,q⟩:=h
  obtain ⟨t,rfl⟩:=rx
  obtain ⟨u,rfl,ru⟩:=Vals.one rs
  cases ru
  obtain ⟨its,r,p,_⟩:=I.list hq
  obtain ⟨l,rfl,el⟩:=strs_of r
  exact SC.join p.isList el hj fun t' k=>⟨.str _,H,I.tok _,⟨_,rfl⟩,q⟩
def rSlS : V → Option Int → Option Int → Hp → VK → Prop:=fun x lo hi H Q=>∃ z,x = .str z ∧ z.length ≤ sizeLine ∧ Q (.str (Txt.slice z lo hi)) H
theorem sl_str : SlR X rSlS:=by
  intro pins s σ H x v vl vu lo hi sl Q I rx hs pl pu h
  obtain ⟨z,rfl,hz,q⟩:=h
  obtain ⟨t,rfl⟩:=rx
  refine ⟨"str",_,F.slot_str_getitem.lookup,typeIs_str _ _ _,?_⟩
  have fin : ∀ (lo hi : Option Int),(∀ {Q : VK},Q (.str (Txt.slice z lo hi)) H → (Txt.slice z lo hi).length ≤ sizeLine ∧ ∀ t' k,EP X pins σ Q (.str (Txt.slice z lo hi) t') { s with toks:=k }):=fun lo hi {Q} q=>
    ⟨Nat.le_trans (Txt.slice_le z _ _) hz,fun t' k=>⟨.str _,H,I.tok _,⟨_,rfl⟩,q⟩⟩
  cases pl with
  | none=>
    cases pu with
    | none=>exact wpAny_getItem_str_slice (l:=none) (u:=none) (st:=none) hs rfl (post_val_or_str (fin none none q))
    | int j u=>exact wpAny_getItem_str_slice (l:=none) (u:=some (j,u)) (st:=none) hs rfl (post_val_or_str (fin none (some j) q))
  | int i u'=>
    cases pu with
    | none=>exact wpAny_getItem_str_slice (l:=some (i,u')) (u:=none) (st:=none) hs rfl (post_val_or_str (fin (some i) none q))
    | int j u=>exact wpAny_getItem_str_slice (l:=some (i,u')) (u:=some (j,u)) (st:=none) hs rfl (post_val_or_str (fin (some i) (some j) q))
def rIntS : List V → Hp → VK → Prop:=fun xs H Q=>∃ z n,xs = [.str z] ∧ PySem.intText? z = some n ∧ z.length ≤ 640 ∧ Q (.int n) H
theorem call_intS : CallR X (.type "int") rIntS:=by
  intro pins s σ H xs us Q I r h
  obtain ⟨z,n,rfl,hn,hl,q⟩:=h
  obtain ⟨u,rfl,t,rfl⟩:=vals1 r
  exact PySem.W.KIN.call_text hn hl ⟨.int n,H,I.tok _,⟨_,rfl⟩,q⟩
end
end L2
namespace L2
open PySem PySem.Spec PyProof.Rows
section
variable {M : Model} {A : Around} {EX : Value → Shared → Prop} {s : Shared} {env : Env}
end
section
variable {X : Cx} {pins : List (Addr × Obj)} {σ : St} {H : Hp} {s : Shared}
end
section
variable {prog : Program} {w : World} {A : Around} {R : Result → Shared → Prop} {s : Shared}
end
section
variable {X : Cx}
end
end L2
namespace Tx
open PySem PySem.NumText
def neg (l : List Nat) : Bool:=match l with
  | 45 :: _=>true
  | _=>false
def figs (l : List Nat) : List Nat:=match l with
  | 45 :: r=>r
  | _=>l
theorem figs_of_neg {l : List Nat} (h : neg l = true) : l = 45 :: figs l:=by
  unfold neg at h
  split at h
  · rfl
  · cases h
theorem figs_of_not {l : List Nat} (h : neg l = false) : figs l = l:=by
  unfold neg at h
  unfold figs
  split at h
  · cases h
  · rfl
structure Wr (l : List Nat) : Prop where
  one : 1 ≤ (figs l).length
  most : (figs l).length ≤ 60
  all : ∀ c ∈ figs l,48 ≤ c ∧ c ≤ 57
  head : ∀ r,figs l = 48 :: r → r = [] ∧ neg l = false
noncomputable instance (l : List Nat) : Decidable (Wr l):=Classical.propDecidable _
def valOf (l : List Nat) : Int:=if neg l then -((digitsVal (figs l) : Nat) : Int) else ((digitsVal (figs l) : Nat) : Int)
theorem Wr.len {z : Str} (w : Wr z.cps.toList) : z.length ≤ 61:=by
  have h1 : z.length = z.cps.toList.length:=by simp [Str.length]
  have h2:=w.most
  cases h : neg z.cps.toList with
  | true=>rw [h1,figs_of_neg h]; simp only [List.length_cons]; omega
  | false=>rw [h1,← figs_of_not h]; omega
theorem Wr.reads {z : Str} (w : Wr z.cps.toList) : intText? z = some (valOf z.cps.toList):=by
  have hl:=w.len
  have ne : figs z.cps.toList ≠ []:=fun e=>by
    have:=w.one
    rw [e] at this
    simp at this
  unfold valOf
  cases h : neg z.cps.toList with
  | true=>exact intText_neg (figs_of_neg h) w.all ne (by omega)
  | false=>
    have e:=figs_of_not h
    have hd:=w.all
    rw [e] at hd ne ⊢
    exact intText_digits hd ne (by omega)
end Tx
namespace L2
open PySem PySem.Spec PyProof.Rows
theorem w_tys {K : PySem.W.Frag} {z : Str} {H : Hp} : tyV K "str" (.str z) H = True:=eq_true rfl
end L2
namespace Tx
open PySem
theorem ext {a b : Str} (e : a.cps.toList = b.cps.toList) : a = b:=by
  obtain ⟨x⟩:=a
  obtain ⟨y⟩:=b
  exact congrArg Str.mk (Array.toList_inj.mp e)
theorem len_list (z : Str) : z.length = z.cps.toList.length:=by simp [Str.length]
theorem sl_from {z : Str} {i : Int} (h0 : 0 ≤ i) (h : i ≤ z.length) : (Txt.slice z (some i) none).cps.toList = z.cps.toList.drop i.toNat:=by
  rw [PyProof.Rows.slice_from_eq h0 h rfl]
  show List.take _ _ = _
  rw [List.take_of_length_le]
  rw [List.length_drop,← len_list]
  omega
theorem starts_one {z : Str} {c : Nat} : Txt.startswith z ⟨#[c]⟩ = decide (z.cps.toList.head? = some c):=by
  obtain ⟨⟨l⟩⟩:=z
  cases l with
  | nil=>simp [Txt.startswith,Str.length]
  | cons a r=>
    unfold Txt.startswith Builtin.Str.subAt
    simp only [Str.length,List.size_toArray,List.length_cons,List.length_nil,Nat.zero_add,List.head?_cons,Option.some.injEq]
    rw [Bool.eq_iff_iff]
    simp
theorem minus : (Str.ofString "-") = ⟨#[45]⟩:=by decide +kernel
theorem nought : (Str.ofString "0") = ⟨#[48]⟩:=by decide +kernel
theorem neg_head {l : List Nat} : neg l = decide (l.head? = some 45):=by
  cases l with
  | nil=>rfl
  | cons a r=>
    by_cases h : a = 45
    · subst h
      simp [neg]
    · simp only [List.head?_cons,Option.some.injEq,h,decide_false]
      unfold neg
      split
      · rename_i z
        cases z
        exact absurd rfl h
      · rfl
theorem starts_minus {z : Str} : Txt.startswith z (Str.ofString "-") = neg z.cps.toList:=by rw [minus,starts_one,neg_head]
end Tx
namespace Tx
open PySem
def words (z : Str) : List Str:=Txt.split z (Str.ofString ",")
noncomputable def poly (z : Str) : Option (List Int):=if (words z).length ≤ 13 ∧ ∀ w,w ∈ words z → Wr w.cps.toList then some ((words z).map fun w=>valOf w.cps.toList) else none
theorem poly_some {z : Str} {ms : List Int} (h : poly z = some ms) : (words z).length ≤ 13 ∧ (∀ w,w ∈ words z → Wr w.cps.toList) ∧ ms = (words z).map fun w=>valOf w.cps.toList:=by
  unfold poly at h
  split at h
  · rename_i c
    exact ⟨c.1,c.2,(Option.some.inj h).symm⟩
  · cases h
theorem poly_of {z : Str} (h1 : (words z).length ≤ 13) (h2 : ∀ w,w ∈ words z → Wr w.cps.toList) : poly z = some ((words z).map fun w=>valOf w.cps.toList):=if_pos ⟨h1,h2⟩
end Tx
namespace Tx
open PySem PySem.NumText
theorem fold_lt : ∀ (l : List Nat) (a : Nat),(∀ c ∈ l,48 ≤ c ∧ c ≤ 57) → l.foldl (fun acc c=>acc * 10 + (c - 48)) a < (a + 1) * 10 ^ l.length
  | [],a,_=>by simp
  | c :: l,a,h=>by
    have hc:=h c (.head _)
    have ih:=fold_lt l (a * 10 + (c - 48)) fun x hx=>h x (.tail _ hx)
    refine Nat.lt_of_lt_of_le ih ?_
    rw [List.length_cons,Nat.pow_succ,Nat.mul_comm (10 ^ l.length) 10,← Nat.mul_assoc]
    exact Nat.mul_le_mul_right _ (by omega)
theorem str_len {x : Int} (h : x.natAbs < 10 ^ 60) : (Str.ofString (toString x)).length ≤ 61:=by
  rw [ofString_length]
  exact int_text_length_le10 (by decide) h
theorem texts_sum : ∀ (ms : List Int),(∀ x,x ∈ ms → x.natAbs < 10 ^ 60) → ((ms.map fun x=>Str.ofString (toString x)).map (·.length)).sum ≤ 61 * ms.length
  | [],_=>Nat.le_refl _
  | x :: ms,h=>by
    have ih:=texts_sum ms fun y hy=>h y (.tail _ hy)
    have hx:=str_len (h x (.head _))
    simp only [List.map_cons,List.sum_cons,List.length_cons]
    omega
theorem comma : (Str.ofString ",").length = 1:=by decide +kernel
theorem join_ok {ms : List Int} (hl : ms.length ≤ 14) (h : ∀ x,x ∈ ms → x.natAbs < 10 ^ 60) : JoinOk (Str.ofString ",") (ms.map fun x=>Str.ofString (toString x)) = true:=by
  have:=texts_sum ms h
  refine PyProof.Rows.joinOk_of ?_
  rw [comma,List.length_map]
  omega
theorem join_len {ms : List Int} (hl : ms.length ≤ 14) (h : ∀ x,x ∈ ms → x.natAbs < 10 ^ 60) : (Txt.join (Str.ofString ",") (ms.map fun x=>Str.ofString (toString x))).length ≤ 868:=by
  have h1:=texts_sum ms h
  have h2:=StrLaws.join_length_le (Str.ofString ",") (ms.map fun x=>Str.ofString (toString x))
  rw [comma,List.length_map] at h2
  unfold Txt.join
  rw [StrLaws.glued_eq_join]
  omega
end Tx
namespace L2
open PySem PySem.Spec PyProof.Rows
@[irreducible] def PAj (X : Cx) (es : List Expr) (ta : TA) : Prop:=PA X es ta
theorem PAj.of {X : Cx} {es : List Expr} {ta : TA} (h : PA X es ta) : PAj X es ta:=by unfold PAj; exact h
end L2
namespace L2
open PySem
theorem seqX {t u : TS} {D : Ends} {σ : St} {H : Hp} (h : ∀ X : St → Hp → Prop,(∀ σ' H',u D σ' H' → X σ' H') → t { D with nx:=X } σ H) : tSeq t u D σ H:=h (u D) fun _ _ z=>z
theorem byX {G : Prop} (h : ∀ X : Prop,(G → X) → X) : G:=h G id
end L2
namespace L2
open PySem PySem.Spec PyProof.Rows
def entsOf (w : World) (l : List (Str × Tok × Value)) : Array DictEntry:=(l.map fun x=>({ hash:=PyData.keyHash w.params x.1,key:=.str x.1 x.2.1,val:=x.2.2 } : DictEntry)).toArray
structure KDict (K : PySem.W.Frag) (w : World) (a : Addr) (l : List (Str × Tok × Value)) : Prop where
  at_ : ∃ ep,K.lookup a = some { cls:=.type "dict",data:=.dict (entsOf w l) ep }
  no : (a == sysModules) = false
  nd : (l.map (·.1)).Nodup
def kvsOf (l : List (Str × Tok × Value)) : List (Key × Value):=l.map fun x=>(Sum.inr x.1,x.2.2)
def atK (l : List (Str × Tok × Value)) (z : Str) : Option Value:=(l.find? fun x=>x.1 = z).map (·.2.2)
theorem kvs_at (l : List (Str × Tok × Value)) (z : Str) : valueAt (kvsOf l) (Sum.inr z : Key) = atK l z:=by
  induction l with
  | nil=>rfl
  | cons x l ih=>
    unfold valueAt kvsOf atK at *
    simp only [List.map_cons,List.find?_cons]
    by_cases c : x.1 = z
    · have : (Sum.inr x.1 : Key) = Sum.inr z:=by rw [c]
      simp [c]
    · have : ¬ (Sum.inr x.1 : Key) = Sum.inr z:=fun e=>c (Sum.inr.inj e)
      simp only [decide_eq_false c,decide_eq_false this]
      exact ih
theorem kvs_pairs {P : Program} {w : World} : ∀ l : List (Str × Tok × Value),Pairs (mixKind P w) (l.map fun x=>({ hash:=PyData.keyHash w.params x.1,key:=.str x.1 x.2.1,val:=x.2.2 } : DictEntry)) (kvsOf l)
  | []=>.nil
  | x :: l=>.cons (mixKind_str P w x.1 x.2.1) rfl (kvs_pairs l)
theorem KDict.dict {P : Program} {w : World} {K : PySem.W.Frag} {a : Addr} {l : List (Str × Tok × Value)} {h : Heap} (d : KDict K w a l) (k : K.In h) : h.DictOf (mixKind P w) a (kvsOf l):=by
  obtain ⟨ep,e⟩:=d.at_
  refine ⟨_,_,ep,k _ _ e,⟨rfl,rfl,rfl⟩,rfl,fun x hx=>?_,?_,?_⟩
  · unfold entsOf at hx
    rw [List.mem_toArray,List.mem_map] at hx
    obtain ⟨y,_,rfl⟩:=hx
    exact ⟨Sum.inr y.1,mixKind_str P w y.1 y.2.1,rfl⟩
  · unfold entsOf
    exact kvs_pairs l
  · have e2 : (kvsOf l).map (·.1) = (l.map (·.1)).map (Sum.inr : Str → Key):=by
      unfold kvsOf
      rw [List.map_map,List.map_map]
      rfl
    rw [e2]
    exact List.Pairwise.map _ (fun _ _ n z=>n (Sum.inr.inj z)) d.nd
def tKGet (l : List (Str × Tok × Value)) (ti : TE) : TE:=fun σ H Q=>ti σ H fun y H1=>∃ z b,y = .str z ∧ atK l z = some (.ref b) ∧ Q (.ref b) H1
def tKIn (l : List (Str × Tok × Value)) (ti : TE) : TE:=fun σ H Q=>ti σ H fun y H1=>∃ z,y = .str z ∧ Q (.bl (atK l z).isSome) H1
def tKNot (l : List (Str × Tok × Value)) (ti : TE) : TE:=fun σ H Q=>ti σ H fun y H1=>∃ z,y = .str z ∧ Q (.bl (!(atK l z).isSome)) H1
section
variable {X : Cx} {x : Str} {p pos : Pos} {i : Expr} {ti : TE} {a : Addr} {l : List (Str × Tok × Value)}
theorem pe_kget (D : KDict X.K X.w a l) (hg : Gl X x) (hm : X.mg x = some (.ref a)) (hi : PE X i ti) (hs : NoSl i) (hdb : (x == ("__debug__" : Str)) = false:=by decide) : PE X (.Subscript (.Name x p) i pos) (tKGet l ti):=by
  intro pins s σ H Q I h
  refine subD_of PySem.F.slot_dict_getitem.lookup hs (ld_glob I hg hm ?_ hdb)
  refine thn (hi pins s σ H _ I h) fun iv s2 ⟨y,H2,I2,ry,z,b,ey,g,q2⟩=>?_
  subst ey
  have dd : s2.heap.DictOf (mixKind X.prog X.w) a (kvsOf l):=D.dict I2.kIn
  exact ⟨dd.typeIs,wpAny_getItem_of (kV_is (k:=Sum.inr z) ry) dd.mapOf ((kvs_at l z).trans g) ⟨.ref b,H2,I2.tok _,rfl,q2⟩⟩
theorem pc_kin (D : KDict X.K X.w a l) (hg : Gl X x) (hm : X.mg x = some (.ref a)) (hi : PE X i ti) (hdb : (x == ("__debug__" : Str)) = false:=by decide) : PC X .In i (.Name x p) (tKIn l ti):=by
  intro pins s σ H Q I h
  refine thn (hi pins s σ H _ I h) fun iv s2 ⟨y,H2,I2,ry,z,ey,q2⟩=>ld_glob I2 hg hm ?_ hdb
  subst ey
  have dd : s2.heap.DictOf (mixKind X.prog X.w) a (kvsOf l):=D.dict I2.kIn
  refine wpAny_in_of (kV_is (k:=Sum.inr z) ry) D.no dd.mapOf ?_
  rw [kvs_at]
  exact ⟨.bl _,H2,I2.tok _,rfl,q2⟩
theorem pc_knot (D : KDict X.K X.w a l) (hg : Gl X x) (hm : X.mg x = some (.ref a)) (hi : PE X i ti) (hdb : (x == ("__debug__" : Str)) = false:=by decide) : PC X .NotIn i (.Name x p) (tKNot l ti):=by
  intro pins s σ H Q I h
  refine thn (hi pins s σ H _ I h) fun iv s2 ⟨y,H2,I2,ry,z,ey,q2⟩=>ld_glob I2 hg hm ?_ hdb
  subst ey
  have dd : s2.heap.DictOf (mixKind X.prog X.w) a (kvsOf l):=D.dict I2.kIn
  refine wpAny_notIn_of (kV_is (k:=Sum.inr z) ry) D.no dd.mapOf ?_
  rw [kvs_at]
  exact ⟨.bl _,H2,I2.tok _,rfl,q2⟩
end
def tCallV (T : Addr → Sp → Prop) (E : XK) (tf : TE) (t : TA) : TE:=fun σ H Q=>tf σ H fun f H1=>∃ g sp,f = .ref g ∧ T g sp ∧ t σ H1 fun vs H2=>sp vs H2 Q E
structure TabOk (P : Program) (w : World) (K : PySem.W.Frag) (mg : Str → Option Value) (base : Heap) (CX : CXT) (k : Nat) (T : Addr → Sp → Prop) : Prop where
  ok : ∀ g sp,T g sp → ∃ fd ps,FnOk P w K mg base CX k g fd ps sp ∧ Binds K fd ps [] ∧ PySem.W.keepIn K (.ref g) = true
section
variable {X : Cx} {CX : CXT} {k j : Nat} {E : XK} {T : Addr → Sp → Prop} {pos : Pos} {fe e : Expr} {es : List Expr} {tf : TE} {t : TA}
theorem pe_callV (hT : TabOk X.prog X.w X.K X.mg X.base CX j T) (hf : PE X fe tf) (hr : Room k X.A) (hx : Passes CX X E) (ha : PA X (e :: es) t) (hjk : j ≤ k:=by decide)
    (hev : eval (.Call fe (e :: es) [] pos) X.env = (do callWith pos (← eval fe X.env) [] (backTo pos (starEach (e :: es) X.env)) (backToKw pos (keywordEach [] X.env))):=by rfl)
    (he : starEach (e :: es) X.env = (false,eval e X.env) :: starEach es X.env:=by rfl) (hpl : (backTo pos (starEach es X.env)).any (·.1) = false:=by rfl) :
    PE X (.Call fe (e :: es) [] pos) (tCallV T E tf t):=by
  intro pins s σ H Q I h
  rw [hev]
  refine wpAny_bind (thn (hf pins s σ H _ I h) fun u s1 ⟨v,H1,I1,rv,g,sp,ev,tg,q⟩=>?_)
  subst ev
  obtain rfl : u = Value.ref g:=rv
  obtain ⟨fd,ps,F,b,kp⟩:=hT.ok g sp tg
  refine PySem.W.callWith_K (h₀:=X.base) I.ok.mod.kin kp (thn (ha pos pins s1 σ H1 _ I1 q) fun us s2 ⟨vs,H2,I2,r,q2⟩=>⟨I2.kIn,?_⟩) he hpl
  exact run_fn F (hr.mono hjk) b .nil hx I2 r (by rw [List.append_nil]; exact q2)
end
end L2
namespace Tx
open PySem PySem.NumText
theorem cut_eq {c : Nat} : ∀ {a b X Y : List Nat},c ∉ a → c ∉ b → a ++ c :: X = b ++ c :: Y → a = b ∧ X = Y
  | [],[],X,Y,_,_,h=>⟨rfl,(List.cons.inj h).2⟩
  | [],y :: b,X,Y,_,hb,h=>absurd (by rw [← (List.cons.inj h).1]; exact .head _) hb
  | x :: a,[],X,Y,ha,_,h=>absurd (by rw [(List.cons.inj h).1]; exact .head _) ha
  | x :: a,y :: b,X,Y,ha,hb,h=>by
    obtain ⟨e1,e2⟩:=List.cons.inj h
    obtain ⟨e3,e4⟩:=cut_eq (fun z=>ha (.tail _ z)) (fun z=>hb (.tail _ z)) e2
    exact ⟨by rw [e1,e3],e4⟩
theorem app_list (a b : Str) : (a ++ b).cps.toList = a.cps.toList ++ b.cps.toList:=by
  show (a.cps ++ b.cps).toList = _
  simp
theorem join_cons (c : Nat) (w v : Str) (r : List Str) : (Str.join ⟨#[c]⟩ (w :: v :: r)).cps.toList = w.cps.toList ++ c :: (Str.join ⟨#[c]⟩ (v :: r)).cps.toList:=by
  show (w ++ (⟨#[c]⟩ : Str) ++ Str.join ⟨#[c]⟩ (v :: r)).cps.toList = _
  rw [app_list,app_list,List.append_assoc]
  rfl
theorem join_inj {c : Nat} : ∀ (A B : List Str),A ≠ [] → B ≠ [] → (∀ w ∈ A,c ∉ w.cps.toList) → (∀ w ∈ B,c ∉ w.cps.toList) → (Str.join ⟨#[c]⟩ A).cps.toList = (Str.join ⟨#[c]⟩ B).cps.toList → A = B
  | [],_,h,_,_,_,_=>absurd rfl h
  | _,[],_,h,_,_,_=>absurd rfl h
  | [a],[b],_,_,_,_,h=>by rw [ext (a:=a) (b:=b) h]
  | [a],b :: v :: r,_,_,ha,_,h=>by
    rw [join_cons] at h
    have h : a.cps.toList = b.cps.toList ++ c :: (Str.join ⟨#[c]⟩ (v :: r)).cps.toList:=h
    exact absurd (by rw [h]; simp) (ha a (.head _))
  | a :: v :: r,[b],_,_,_,hb,h=>by
    rw [join_cons] at h
    have h : a.cps.toList ++ c :: (Str.join ⟨#[c]⟩ (v :: r)).cps.toList = b.cps.toList:=h
    exact absurd (by rw [← h]; simp) (hb b (.head _))
  | a :: v :: r,b :: u :: t,_,_,ha,hb,h=>by
    rw [join_cons,join_cons] at h
    obtain ⟨e1,e2⟩:=cut_eq (ha a (.head _)) (hb b (.head _)) h
    rw [ext e1,join_inj (v :: r) (u :: t) (List.cons_ne_nil _ _) (List.cons_ne_nil _ _) (fun w hw=>ha w (.tail _ hw)) (fun w hw=>hb w (.tail _ hw)) e2]
theorem split_ne (z : Str) (y : Str) : Txt.split z y ≠ []:=by
  unfold Txt.split
  split
  · exact List.cons_ne_nil _ _
  · split
    · exact List.cons_ne_nil _ _
    · rw [StrLaws.partsBetween_eq]
      obtain ⟨p,q,e⟩:=StrLaws.partsFrom_ne z y.length 0 (Builtin.Str.occurrences z y 0 z.length (z.length + 1))
      rw [e]
      exact List.cons_ne_nil _ _
theorem split_of {c : Nat} {ws : List Str} (h0 : ws ≠ []) (h : ∀ w ∈ ws,c ∉ w.cps.toList) : Txt.split (Str.join ⟨#[c]⟩ ws) ⟨#[c]⟩ = ws:=by
  refine join_inj (c:=c) _ _ (split_ne _ _) h0 (StrLaws.split_free _ c) h ?_
  rw [StrLaws.join_split]
def dg (m : Nat) : List Nat:=(Nat.toDigits 10 m).map Char.toNat
theorem digit_all : ∀ d : Nat,d < 10 → 48 ≤ (Nat.digitChar d).toNat ∧ (Nat.digitChar d).toNat ≤ 57:=by decide
theorem dg_all (m : Nat) : ∀ c ∈ dg m,48 ≤ c ∧ c ≤ 57:=by
  unfold dg
  induction m using Nat.strongRecOn with
  | _ m ih=>
    by_cases h : m < 10
    · rw [Nat.toDigits_of_lt_base h]
      intro c hc
      rw [List.map_cons,List.map_nil,List.mem_singleton] at hc
      rw [hc]
      exact digit_all m h
    · have hm : m % 10 < 10:=Nat.mod_lt m (by decide)
      have t : Nat.toDigits 10 (m / 10) ++ Nat.toDigits 10 (m % 10) = Nat.toDigits 10 (10 * (m / 10) + m % 10):=Nat.toDigits_append_toDigits (by decide) (by omega) hm
      rw [Nat.div_add_mod] at t
      rw [← t,List.map_append,Nat.toDigits_of_lt_base hm]
      intro c hc
      rcases List.mem_append.mp hc with z | z
      · exact ih (m / 10) (by omega) c z
      · rw [List.map_cons,List.map_nil,List.mem_singleton] at z
        rw [z]
        exact digit_all _ hm
theorem dg_val (m : Nat) : digitsVal (dg m) = m:=PySem.W.KIN.val_back m
theorem dg_len {k m : Nat} (hk : 1 ≤ k) (h : m < 10 ^ k) : (dg m).length ≤ k:=by
  unfold dg
  rw [List.length_map]
  exact PyProof.Rows.digits10_le hk h
theorem dg_one (m : Nat) : 1 ≤ (dg m).length:=by
  unfold dg
  rw [List.length_map]
  exact PyProof.Rows.tDigits_len_ge 10 m
theorem dg_head {m : Nat} {r : List Nat} (h : dg m = 48 :: r) : r = []:=by
  have h1:=dg_val m
  rw [h,digitsVal_zero] at h1
  have h2 : digitsVal r < 10 ^ r.length:=by
    have:=fold_lt r 0 fun c hc=>dg_all m c (by rw [h]; exact .tail _ hc)
    rw [Nat.zero_add,Nat.one_mul] at this
    exact this
  cases r with
  | nil=>rfl
  | cons c r=>
    rw [h1] at h2
    have:=dg_len (k:=(c :: r).length) (by simp) h2
    rw [h] at this
    simp at this
    omega
theorem not_neg {l : List Nat} (h : ∀ c ∈ l,48 ≤ c ∧ c ≤ 57) : neg l = false:=by
  unfold neg
  split
  · have:=h 45 (.head _)
    omega
  · rfl
def tx (x : Int) : Str:=Str.ofString (toString x)
theorem tx_nat (m : Nat) : (tx (m : Int)).cps.toList = dg m:=PySem.W.KIN.signs_num m
theorem tx_neg (m : Nat) : (tx (-((m + 1 : Nat) : Int))).cps.toList = 45 :: dg (m + 1):=by
  unfold tx
  have e1 : toString (-((m + 1 : Nat) : Int)) = "-" ++ toString ((m + 1 : Nat) : Int):=rfl
  rw [e1]
  have e2 : (Str.ofString ("-" ++ toString ((m + 1 : Nat) : Int))).cps.toList = 45 :: (Str.ofString (toString ((m + 1 : Nat) : Int))).cps.toList:=by
    simp [Str.ofString_eq_toList]
  rw [e2,PySem.W.KIN.signs_num]
  rfl
theorem tx_wr {x : Int} (h : x.natAbs < 10 ^ 60) : Wr (tx x).cps.toList ∧ valOf (tx x).cps.toList = x:=by
  rcases (show (∃ m : Nat,x = m) ∨ ∃ m : Nat,x = -((m + 1 : Nat) : Int) from by
    rcases (show x < 0 ∨ 0 ≤ x by omega) with z | z
    · exact .inr ⟨x.natAbs - 1,by omega⟩
    · exact .inl ⟨x.toNat,by omega⟩) with ⟨m,rfl⟩ | ⟨m,rfl⟩
  · rw [tx_nat]
    have nn:=not_neg (dg_all m)
    have ef:=figs_of_not nn
    refine ⟨⟨by rw [ef]; exact dg_one m,by rw [ef]; exact dg_len (by decide) (by simpa using h),by rw [ef]; exact dg_all m,fun r e=>⟨dg_head (by rw [← ef]; exact e),nn⟩⟩,?_⟩
    unfold valOf
    rw [nn,if_neg (by decide),ef,dg_val]
  · rw [tx_neg]
    have ef : figs (45 :: dg (m + 1)) = dg (m + 1):=rfl
    refine ⟨⟨by rw [ef]; exact dg_one _,by rw [ef]; exact dg_len (by decide) (by rw [Int.natAbs_neg,Int.natAbs_natCast] at h; exact h),by rw [ef]; exact dg_all _,fun r e=>?_⟩,?_⟩
    · rw [ef] at e
      have h1:=dg_head e
      have h2:=dg_val (m + 1)
      rw [e,h1] at h2
      exact absurd h2 (by show ¬ (0 * 10 + (48 - 48) = m + 1); omega)
    · show (if true = true then -((digitsVal (figs (45 :: dg (m + 1))) : Nat) : Int) else _) = _
      rw [if_pos rfl,ef,dg_val]
theorem tx_signs (x : Int) : ∀ c ∈ (tx x).cps.toList,c = 45 ∨ (48 ≤ c ∧ c ≤ 57):=by
  rcases (show (∃ m : Nat,x = m) ∨ ∃ m : Nat,x = -((m + 1 : Nat) : Int) from by
    rcases (show x < 0 ∨ 0 ≤ x by omega) with z | z
    · exact .inr ⟨x.natAbs - 1,by omega⟩
    · exact .inl ⟨x.toNat,by omega⟩) with ⟨m,rfl⟩ | ⟨m,rfl⟩
  · rw [tx_nat]
    exact fun c hc=>.inr (dg_all m c hc)
  · rw [tx_neg]
    intro c hc
    rcases List.mem_cons.mp hc with z | z
    · exact .inl z
    · exact .inr (dg_all _ c z)
def shown (f : List Int) : Str:=Txt.join (Str.ofString ",") (f.map tx)
theorem comma_is : (Str.ofString ",") = ⟨#[44]⟩:=by decide +kernel
theorem space_is : (Str.ofString " ") = ⟨#[32]⟩:=by decide +kernel
theorem join_eq (y : Str) (ws : List Str) : Txt.join y ws = Str.join y ws:=by
  unfold Txt.join
  exact StrLaws.glued_eq_join y ws
theorem shown_words {f : List Int} (h0 : f ≠ []) : words (shown f) = f.map tx:=by
  unfold words shown
  rw [join_eq,comma_is]
  refine split_of (by simpa using h0) fun w hw z=>?_
  obtain ⟨x,_,rfl⟩:=List.mem_map.mp hw
  rcases tx_signs x 44 z with e | e <;> omega
theorem shown_poly {f : List Int} (h0 : f ≠ []) (hl : f.length ≤ 13) (h : ∀ x,x ∈ f → x.natAbs < 10 ^ 60) : poly (shown f) = some f:=by
  have e:=poly_of (z:=shown f) (by rw [shown_words h0,List.length_map]; exact hl) (fun w hw=>by
    rw [shown_words h0] at hw
    obtain ⟨x,hx,rfl⟩:=List.mem_map.mp hw
    exact (tx_wr (h x hx)).1)
  rw [e,shown_words h0,List.map_map]
  refine congrArg some ((List.map_congr_left fun x hx=>?_).trans (List.map_id f))
  exact (tx_wr (h x hx)).2
theorem join_signs {c : Nat} {P : Nat → Prop} (hc : P c) : ∀ (ws : List Str),(∀ w ∈ ws,∀ x ∈ w.cps.toList,P x) → ∀ x ∈ (Str.join ⟨#[c]⟩ ws).cps.toList,P x
  | [],_,x,hx=>by cases hx
  | [w],h,x,hx=>h w (.head _) x hx
  | w :: v :: r,h,x,hx=>by
    rw [join_cons] at hx
    rcases List.mem_append.mp hx with z | z
    · exact h w (.head _) x z
    · rcases List.mem_cons.mp z with z | z
      · rw [z]; exact hc
      · exact join_signs hc (v :: r) (fun u hu=>h u (.tail _ hu)) x z
theorem shown_free (f : List Int) : 32 ∉ (shown f).cps.toList:=fun z=>by
  unfold shown at z
  rw [join_eq,comma_is] at z
  have:=join_signs (c:=44) (P:=fun x=>x ≠ 32) (by decide) (f.map tx) (fun w hw x hx=>by
    obtain ⟨y,_,rfl⟩:=List.mem_map.mp hw
    rcases tx_signs y x hx with e | e <;> omega) 32 z
  exact this rfl
theorem tx_free (x : Int) : 32 ∉ (tx x).cps.toList:=fun z=>by
  rcases tx_signs x 32 z with e | e <;> omega
end Tx
namespace L2
open PySem PySem.Spec PyProof.Rows
section
variable {prog : Program} {w : World} {A : Around} {E : Value → Shared → Prop} {s : Shared}
theorem nx_tup {i t : Addr} {k : Nat} {its : Array Value} {v : Value} {Q : Value → Shared → Prop} (ii : IsTupIter s.heap i t k) (tt : IsTup s.heap t its) (hv : its[k]? = some v)
    (go : ∀ g,IsTupIter g i t (k + 1) → Heap.SameBut i s.heap g → Q v { s with heap:=g }) : wpAny (model prog w) A (Builtin.SmallTypes.nextOf (.ref i)) Q E s:=by
  obtain ⟨u,gu,cu,du⟩:=id ii
  obtain ⟨y,gy,_,n,dy⟩:=tt
  unfold Builtin.SmallTypes.nextOf
  refine wpAny_bind (wpAny_callSpecial?_slot (name:=Str.ofString "__next__") ii.typeIs slot_tupleiter_next (wpAny_call_entry slot_tupleiter_next ii.typeIs entry_tupleiter_next ?_ (args_tupleiter_next _)))
  show wpAny _ _ (field (.ref i) 0 >>= _) _ _ s
  refine wpAny_bind (wpAny_field gu du (x:=.ref t) rfl ?_)
  show wpAny _ _ (if (Value.ref t == Value.none) = true then _ else _) _ _ s
  rw [if_neg (by intro z; cases z)]
  show wpAny _ _ (field (.ref i) 1 >>= _) _ _ s
  refine wpAny_bind (wpAny_field gu du (x:=.int k 0) rfl (wpAny_bind (wpAny_seqItems gy dy ?_)))
  simp only [Int.toNat_natCast,hv]
  refine wpAny_bind (wpAny_setField gu du (by simp) (wpAny_pure ⟨v,rfl,wpAny_pure (go _ ⟨_,Heap.get?_update_self _ gu (Obj.isFreed_of_fields (Obj.data_mapFields du _)),(Obj.cls_mapFields ..).trans cu,?_⟩ (Heap.SameBut.update ..))⟩))
  rw [Obj.data_mapFields du]
  simp [rawInt]
theorem nxe_tup {i t : Addr} {k : Nat} {its : Array Value} {Q : Value → Shared → Prop} (hh : A.handled = none) (ii : IsTupIter s.heap i t k) (tt : IsTup s.heap t its) (hv : its[k]? = none)
    (go : ∀ g e,Heap.ExtBut i s.heap g → (∃ o,g.get? e = some o ∧ o.cls = .type "StopIteration") → E (.ref e) { s with heap:=g }) : wpAny (model prog w) A (Builtin.SmallTypes.nextOf (.ref i)) Q E s:=by
  obtain ⟨u,gu,cu,du⟩:=id ii
  obtain ⟨y,gy,_,n,dy⟩:=tt
  unfold Builtin.SmallTypes.nextOf
  refine wpAny_bind (wpAny_callSpecial?_slot (name:=Str.ofString "__next__") ii.typeIs slot_tupleiter_next (wpAny_call_entry slot_tupleiter_next ii.typeIs entry_tupleiter_next ?_ (args_tupleiter_next _)))
  show wpAny _ _ (field (.ref i) 0 >>= _) _ _ s
  refine wpAny_bind (wpAny_field gu du (x:=.ref t) rfl ?_)
  show wpAny _ _ (if (Value.ref t == Value.none) = true then _ else _) _ _ s
  rw [if_neg (by intro z; cases z)]
  show wpAny _ _ (field (.ref i) 1 >>= _) _ _ s
  refine wpAny_bind (wpAny_field gu du (x:=.int k 0) rfl (wpAny_bind (wpAny_seqItems gy dy ?_)))
  simp only [Int.toNat_natCast,hv]
  refine wpAny_bind (wpAny_rule (wpAny_bind (wpAny_setField gu du (by simp) (wpAny_bind ?_))))
  simp only [newExc,newTuple]
  refine wpAny_bind (wpAny_newObj_type (wpAny_bind (m:=firstArgMember _ _) (wpAny_of_eq (a:=Value.none) (by first | rfl | (simp only [firstArgMember]; rfl)) (wpAny_newObj_type ?_ (by size_fits)))) (by size_fits))
  simp only [raiseNew]
  refine wpAny_bind (wpAny_handled ?_)
  first | rw [show A.in1.handled = none from hh] | rw [hh]
  exact wpAny_bind (wpAny_pure (wpAny_throw (go _ _ (((Heap.SameBut.update ..).extBut.push _).push _) ⟨_,Heap.get?_push_size _ rfl,rfl⟩)))
theorem zipT_item {z TI TO i1 i2 l1 l2 : Addr} {k : Nat} {xs ys : Array Value} {x y a b : Value} {Q : Option Value → Shared → Prop} (D : ZipApart z TI TO i1 i2 l1 l2)
    (zz : IsZip s.heap z TI TO .none) (pI : IsPair s.heap TI (.ref i1) (.ref i2)) (pO : IsPair s.heap TO a b)
    (j1 : IsTupIter s.heap i1 l1 k) (j2 : s.heap.IsListIter i2 l2 k) (m1 : IsTup s.heap l1 xs) (m2 : s.heap.IsList l2 ys) (hx : xs[k]? = some x) (hy : ys[k]? = some y)
    (go : ∀ g,IsZip g z TI TO (rawInt s.heap.objs.size) → IsPair g TO x y → IsTupIter g i1 l1 (k + 1) → g.IsListIter i2 l2 (k + 1) → IsPair g s.heap.objs.size x y →
      (∀ c o,c ≠ z → c ≠ TO → c ≠ i1 → c ≠ i2 → s.heap.get? c = some o → g.get? c = some o) → Q (some (.ref s.heap.objs.size)) { s with heap:=g }) :
    wpAny (model prog w) A (pyNext (.ref z)) Q E s:=by
  have ty : s.TypeIs (.ref z) "zip":=⟨_,zz,rfl⟩
  unfold pyNext
  refine wpAny_bind (wpAny_attempt (wpAny_callSpecial?_slot (name:=Str.ofString "__next__") ty F.slot_zip_next (wpAny_call_entry F.slot_zip_next ty F.entry_zip_next ?_ (F.args_zip_next_1 _))))
  show wpAny _ _ (field (.ref z) 2 >>= _) _ _ _
  refine wpAny_bind (wpAny_field zz rfl (x:=.bool false) rfl ?_)
  show wpAny _ _ (field (.ref z) 3 >>= _) _ _ _
  refine wpAny_bind (wpAny_field zz rfl (x:=.ref TI) rfl (wpAny_bind (wpAny_seqItems pI rfl ?_)))
  show wpAny _ _ (Builtin.SmallTypes.ownedTupleIsFree (.ref z) >>= _) _ _ _
  refine wpAny_bind ?_
  unfold Builtin.SmallTypes.ownedTupleIsFree
  refine wpAny_bind (wpAny_field zz rfl (x:=.none) rfl (wpAny_pure ?_))
  simp only [if_true]
  refine wpAny_bind (wpAny_rule (wpAny_bind (wpAny_field zz rfl (x:=.ref TO) rfl (wpAny_bind (wpAny_setField_rec zz (by simp) fun g1 z1 s1=>?_)))))
  have z1 : IsZip g1 z TI TO .ellipsis:=z1
  refine wpAny_bind ?_
  simp only [List.zipIdx_cons,List.zipIdx_nil,List.forIn_cons,List.forIn_nil]
  refine wpAny_bind (wpAny_bind (wpAny_onRaise ?_))
  show wpAny _ _ (Builtin.SmallTypes.nextOf (.ref i1) >>= _) _ _ _
  refine wpAny_bind (nx_tup (j1.extBut s1.extBut D.i1z) (m1.extBut s1.extBut D.l1z) hx fun g2 n2 s2=>wpAny_pure ?_)
  have o2 : IsPair g2 TO a b:=s2.extBut _ _ D.TOi1 (s1.extBut _ _ D.TOz pO)
  refine wpAny_bind (wpAny_seqItems o2 rfl (wpAny_bind (wpAny_updateSeq_pair o2 fun g3 o3 s3=>wpAny_bind (wpAny_letGo (wpAny_pure ?_)))))
  have o3 : IsPair g3 TO x b:=o3
  refine wpAny_bind (wpAny_bind (wpAny_onRaise ?_))
  show wpAny _ _ (Builtin.SmallTypes.nextOf (.ref i2) >>= _) _ _ _
  refine wpAny_bind (wpAny_nextOf_list_item (((j2.extBut s1.extBut D.i2z).extBut s2.extBut D.i12.symm).extBut s3.extBut D.TOi2.symm) (((m2.extBut s1.extBut D.l2z).extBut s2.extBut D.l2i1).extBut s3.extBut D.l2TO) hy fun g4 n4 s4=>wpAny_pure ?_)
  have o4 : IsPair g4 TO x b:=s4.extBut _ _ D.TOi2 o3
  refine wpAny_bind (wpAny_seqItems o4 rfl (wpAny_bind (wpAny_updateSeq_pair o4 fun g5 o5 s5=>wpAny_bind (wpAny_letGo (wpAny_pure (wpAny_pure ?_))))))
  have o5 : IsPair g5 TO x y:=o5
  refine wpAny_bind (wpAny_seqItems o5 rfl (wpAny_bind (wpAny_newTuple ?_)))
  have z5 : IsZip g5 z TI TO .ellipsis:=s5.extBut _ _ D.TOz.symm (s4.extBut _ _ D.i2z.symm (s3.extBut _ _ D.TOz.symm (s2.extBut _ _ D.i1z.symm z1)))
  have len5 : g5.objs.size = s.heap.objs.size:=by rw [s5.1,s4.1,s3.1,s2.1,s1.1]
  have old5 : ∀ c o,c ≠ z → c ≠ TO → c ≠ i1 → c ≠ i2 → s.heap.get? c = some o → g5.get? c = some o:=fun c o q1 q2 q3 q4 e=>s5.extBut _ _ q2 (s4.extBut _ _ q4 (s3.extBut _ _ q2 (s2.extBut _ _ q3 (s1.extBut _ _ q1 e))))
  have a5 : IsTupIter g5 i1 l1 (k + 1):=((n2.extBut s3.extBut D.TOi1.symm).extBut s4.extBut D.i12).extBut s5.extBut D.TOi1.symm
  have b5 : g5.IsListIter i2 l2 (k + 1):=n4.extBut s5.extBut D.TOi2.symm
  have lz : z < g5.objs.size:=Heap.lt_size z5
  show wpAny _ _ (Builtin.SmallTypes.ownedTupleHandOut (.ref z) (.ref g5.objs.size) >>= _) _ _ _
  refine wpAny_bind ?_
  unfold Builtin.SmallTypes.ownedTupleHandOut
  have z6 : IsZip (g5.push { cls:=.type "tuple",data:=.seq #[x,y] }) z TI TO .ellipsis:=Heap.get?_push_of_some _ z5
  refine wpAny_bind (wpAny_setField_rec z6 (by simp) fun g7 z7 s7=>?_)
  have z7 : IsZip g7 z TI TO (rawInt g5.objs.size):=z7
  refine wpAny_setField_rec z7 (by simp) fun g8 z8 s8=>?_
  have z8 : IsZip g8 z TI TO (rawInt g5.objs.size):=z8
  have up : ∀ c o,c ≠ z → g5.get? c = some o → g8.get? c = some o:=fun c o q e=>s8.extBut _ _ q (s7.extBut _ _ q (Heap.get?_push_of_some _ e))
  have t8 : IsPair g8 g5.objs.size x y:=s8.extBut _ _ (Nat.ne_of_gt lz) (s7.extBut _ _ (Nat.ne_of_gt lz) (Heap.get?_push_size _ rfl))
  rw [len5] at z8 t8
  refine wpAny_pure ⟨_,rfl,wpAny_pure ?_⟩
  rw [len5]
  refine go g8 z8 (up _ _ D.TOz o5) ?_ (b5.at fun o e=>up _ o D.i2z e) t8 fun c o q1 q2 q3 q4 e=>up c o q1 (old5 c o q1 q2 q3 q4 e)
  obtain ⟨o,e,r⟩:=a5
  exact ⟨o,up _ o D.i1z e,r⟩
theorem zipT_end {z TI TO i1 i2 l1 l2 : Addr} {k : Nat} {xs ys : Array Value} {a b : Value} {Q : Option Value → Shared → Prop} (hh : A.handled = none) (D : ZipApart z TI TO i1 i2 l1 l2)
    (zz : IsZip s.heap z TI TO .none) (pI : IsPair s.heap TI (.ref i1) (.ref i2)) (pO : IsPair s.heap TO a b)
    (j1 : IsTupIter s.heap i1 l1 k) (j2 : s.heap.IsListIter i2 l2 k) (m1 : IsTup s.heap l1 xs) (m2 : s.heap.IsList l2 ys) (hx : xs[k]? = none ∨ ys[k]? = none)
    (go : ∀ g,(∀ c o,c ≠ z → c ≠ TO → c ≠ i1 → c ≠ i2 → s.heap.get? c = some o → g.get? c = some o) → Q none { s with heap:=g }) : wpAny (model prog w) A (pyNext (.ref z)) Q E s:=by
  have ty : s.TypeIs (.ref z) "zip":=⟨_,zz,rfl⟩
  have stop : ∀ g e,(∀ c o,c ≠ z → c ≠ TO → c ≠ i1 → c ≠ i2 → s.heap.get? c = some o → g.get? c = some o) → (∃ o,g.get? e = some o ∧ o.cls = .type "StopIteration") →
      wpAny (model prog w) A (do if ← isInstance (.ref e) (.type "StopIteration") then pure none else throw (.ref e)) Q E { s with heap:=g }:=fun g e kk ⟨o,ho,hc⟩=>
    wpAny_bind (wpAny_isInstance (T:="StopIteration") (b:=true) ⟨o,ho,hc⟩ isSubtype_stop (wpAny_pure (go g kk)))
  unfold pyNext
  refine wpAny_bind (wpAny_attempt (wpAny_callSpecial?_slot (name:=Str.ofString "__next__") ty F.slot_zip_next (wpAny_call_entry F.slot_zip_next ty F.entry_zip_next ?_ (F.args_zip_next_1 _))))
  show wpAny _ _ (field (.ref z) 2 >>= _) _ _ _
  refine wpAny_bind (wpAny_field zz rfl (x:=.bool false) rfl ?_)
  show wpAny _ _ (field (.ref z) 3 >>= _) _ _ _
  refine wpAny_bind (wpAny_field zz rfl (x:=.ref TI) rfl (wpAny_bind (wpAny_seqItems pI rfl ?_)))
  show wpAny _ _ (Builtin.SmallTypes.ownedTupleIsFree (.ref z) >>= _) _ _ _
  refine wpAny_bind ?_
  unfold Builtin.SmallTypes.ownedTupleIsFree
  refine wpAny_bind (wpAny_field zz rfl (x:=.none) rfl (wpAny_pure ?_))
  simp only [if_true]
  refine wpAny_bind (wpAny_rule (wpAny_bind (wpAny_field zz rfl (x:=.ref TO) rfl (wpAny_bind (wpAny_setField_rec zz (by simp) fun g1 z1 s1=>?_)))))
  have z1 : IsZip g1 z TI TO .ellipsis:=z1
  refine wpAny_bind ?_
  simp only [List.zipIdx_cons,List.zipIdx_nil,List.forIn_cons,List.forIn_nil]
  refine wpAny_bind (wpAny_bind (wpAny_onRaise ?_))
  show wpAny _ _ (Builtin.SmallTypes.nextOf (.ref i1) >>= _) _ _ _
  cases e1 : xs[k]? with
  | none=>
    refine wpAny_bind (nxe_tup hh (j1.extBut s1.extBut D.i1z) (m1.extBut s1.extBut D.l1z) e1 fun g2 e s2 he=>?_)
    obtain ⟨oe,hoe,hce⟩:=he
    have z2 : IsZip g2 z TI TO .ellipsis:=s2 _ _ D.i1z.symm z1
    have ne : e ≠ z:=fun q=>by subst q; rw [z2] at hoe; cases hoe; simp at hce
    exact wpAny_setField_rec z2 (by simp) fun g3 _ s3=>stop g3 e (fun c o q1 _ q3 _ q=>s3.extBut _ _ q1 (s2 _ _ q3 (s1.extBut _ _ q1 q))) ⟨oe,s3.extBut _ _ ne hoe,hce⟩
  | some x=>
    have e2 : ys[k]? = none:=by
      rcases hx with q | q
      · rw [e1] at q; cases q
      · exact q
    refine wpAny_bind (nx_tup (j1.extBut s1.extBut D.i1z) (m1.extBut s1.extBut D.l1z) e1 fun g2 n2 s2=>wpAny_pure ?_)
    have o2 : IsPair g2 TO a b:=s2.extBut _ _ D.TOi1 (s1.extBut _ _ D.TOz pO)
    refine wpAny_bind (wpAny_seqItems o2 rfl (wpAny_bind (wpAny_updateSeq_pair o2 fun g3 o3 s3=>wpAny_bind (wpAny_letGo (wpAny_pure ?_)))))
    refine wpAny_bind (wpAny_bind (wpAny_onRaise ?_))
    show wpAny _ _ (Builtin.SmallTypes.nextOf (.ref i2) >>= _) _ _ _
    refine wpAny_bind (wpAny_nextOf_list_end hh (((j2.extBut s1.extBut D.i2z).extBut s2.extBut D.i12.symm).extBut s3.extBut D.TOi2.symm) (((m2.extBut s1.extBut D.l2z).extBut s2.extBut D.l2i1).extBut s3.extBut D.l2TO) e2 fun g4 e s4 he=>?_)
    obtain ⟨oe,hoe,hce⟩:=he
    have z4 : IsZip g4 z TI TO .ellipsis:=s4 _ _ D.i2z.symm (s3.extBut _ _ D.TOz.symm (s2.extBut _ _ D.i1z.symm z1))
    have ne : e ≠ z:=fun q=>by subst q; rw [z4] at hoe; cases hoe; simp at hce
    exact wpAny_setField_rec z4 (by simp) fun g5 _ s5=>stop g5 e (fun c o q1 q2 q3 q4 q=>s5.extBut _ _ q1 (s4 _ _ q4 (s3.extBut _ _ q2 (s2.extBut _ _ q3 (s1.extBut _ _ q1 q))))) ⟨oe,s5.extBut _ _ ne hoe,hce⟩
end
end L2
namespace L2
open PySem PySem.Spec PyProof.Rows
abbrev zT1 (h : Heap) (a : Addr) : Heap:=h.push { cls:=.type "tuple_iterator",data:=.fields #[.ref a,.int 0 0] }
abbrev zT2 (h : Heap) (a b : Addr) : Heap:=(zT1 h a).push { cls:=.type "list_iterator",data:=.fields #[.ref b,.int 0 0] }
abbrev zT3 (h : Heap) (a b : Addr) : Heap:=(zT2 h a b).push { cls:=.type "tuple",data:=.seq #[.ref h.objs.size,.ref (zT1 h a).objs.size] }
abbrev zT4 (h : Heap) (a b : Addr) : Heap:=(zT3 h a b).push { cls:=.type "tuple",data:=.seq #[.none,.none] }
abbrev zT5 (h : Heap) (a b : Addr) : Heap:=(zT4 h a b).push { cls:=.type "zip",data:=.fields #[.none,.bool false,.bool false,.ref (zT2 h a b).objs.size,.ref (zT3 h a b).objs.size] }
theorem zT_meets (a b : Addr) (xs ys : Array Value) : Meets (Builtin.«zip.__new__» ⟨[.type "zip",.ref a,.ref b],[]⟩) (fun _ R s=>IsTup s.heap a xs ∧ s.heap.IsList b ys ∧ R (.ok (.ret (.ref (zT4 s.heap a b).objs.size))) { s with heap:=zT5 s.heap a b }):=
  .of_wp fun prog w A R s q=>by
    obtain ⟨hp,g,d,tk,os⟩:=s
    obtain ⟨q1,q2,q⟩:=q
    have hsub:=sub_zip
    have M1 : IsTup (Shared.heap ⟨hp,g,d,tk,os⟩) a xs:=q1
    have M2 : Heap.IsList (Shared.heap ⟨hp.push { cls:=.type "tuple_iterator",data:=.fields #[.ref a,.int 0 0] },g,d,tk,os⟩) b ys:=Heap.IsList.push q2 _
    wp_walk using iter_tuple M1,wpAny_pyIter_list M2
    exact ⟨_,rfl,q⟩
section
variable {prog : Program} {w : World} {A : Around} {E : Value → Shared → Prop} {s : Shared}
theorem zT_call {a b : Addr} {xs ys : Array Value} {Q : Value → Shared → Prop} (q1 : IsTup s.heap a xs) (q2 : s.heap.IsList b ys)
    (go : ∀ g,IsZip g (s.heap.objs.size + 4) (s.heap.objs.size + 2) (s.heap.objs.size + 3) .none → IsPair g (s.heap.objs.size + 2) (.ref s.heap.objs.size) (.ref (s.heap.objs.size + 1)) → IsPair g (s.heap.objs.size + 3) .none .none →
      IsTupIter g s.heap.objs.size a 0 → g.IsListIter (s.heap.objs.size + 1) b 0 → (∀ c o,s.heap.get? c = some o → g.get? c = some o) → Q (.ref (s.heap.objs.size + 4)) { s with heap:=g }) :
    wpAny (model prog w) A (call (.type "zip") [.ref a,.ref b]) Q E s:=by
  refine callType_new F.called_zip (by decide) (F.typeCall_zip_2 _ _) (F.newCall_zip_2 _ _) (fun obj=>F.args_object_init_3 obj _ _) F.entry_zip_new (zT_meets a b xs ys) ⟨q1,q2,?_⟩
  have n1 : (zT1 s.heap a).objs.size = s.heap.objs.size + 1:=Heap.size_push ..
  have n2 : (zT2 s.heap a b).objs.size = s.heap.objs.size + 2:=by rw [Heap.size_push,n1]
  have n3 : (zT3 s.heap a b).objs.size = s.heap.objs.size + 3:=by rw [Heap.size_push,n2]
  have n4 : (zT4 s.heap a b).objs.size = s.heap.objs.size + 4:=by rw [Heap.size_push,n3]
  have e5 : (zT5 s.heap a b).get? (zT4 s.heap a b).objs.size = some _:=Heap.get?_push_size _ rfl
  have e4 : (zT5 s.heap a b).get? (zT3 s.heap a b).objs.size = some _:=Heap.get?_push_of_some _ (Heap.get?_push_size _ rfl)
  have e3 : (zT5 s.heap a b).get? (zT2 s.heap a b).objs.size = some _:=Heap.get?_push_of_some _ (Heap.get?_push_of_some _ (Heap.get?_push_size _ rfl))
  have e2 : (zT5 s.heap a b).get? (zT1 s.heap a).objs.size = some _:=Heap.get?_push_of_some _ (Heap.get?_push_of_some _ (Heap.get?_push_of_some _ (Heap.get?_push_size _ rfl)))
  have e1 : (zT5 s.heap a b).get? s.heap.objs.size = some _:=Heap.get?_push_of_some _ (Heap.get?_push_of_some _ (Heap.get?_push_of_some _ (Heap.get?_push_of_some _ (Heap.get?_push_size _ rfl))))
  show _ ∧ _
  rw [n2,n3,n4] at e5
  rw [n1,n2] at e3
  rw [n3] at e4
  rw [n1] at e2
  rw [n4]
  exact ⟨⟨_,e5,rfl⟩,go _ e5 e3 e4 ⟨_,e1,rfl,rfl⟩ ⟨_,e2,rfl,rfl⟩ fun c o q=>Heap.get?_push_of_some _ (Heap.get?_push_of_some _ (Heap.get?_push_of_some _ (Heap.get?_push_of_some _ (Heap.get?_push_of_some _ q))))⟩
end
def Itzt (K : PySem.W.Frag) (a b : Addr) : It:=
  ⟨fun i H=>∃ xs ys x y,SqT K H a xs ∧ SqL K H b ys ∧ xs[i]? = some x ∧ ys[i]? = some y,fun i H x H'=>∃ y z t,(∀ xs,SqT K H a xs → xs[i]? = some y) ∧ (∀ xs,SqL K H b xs → xs[i]? = some z) ∧ H t = none ∧ x = .ref t ∧ H' = upd H t (.tup [y,z]),fun i H=>∃ xs ys,SqT K H a xs ∧ SqL K H b ys ∧ (xs.length ≤ i ∨ ys.length ≤ i)⟩
theorem ne_tupI {h : Heap} {l c : Addr} {xs : Array Value} (hl : IsTup h l xs) (hc : ∃ o,h.get? c = some o ∧ o.cls ≠ .type "tuple") : l ≠ c:=by
  obtain ⟨o,ho,n⟩:=hc
  obtain ⟨u,hu,cu,_⟩:=hl
  intro z
  rw [z,ho] at hu
  cases hu
  exact n cu
theorem turn_zipT {P : Program} {w : World} {K : PySem.W.Frag} {elts : List Expr} {x1} {tp : Pos} (a b : Addr) (n : Nat) : Turn P w K (.Tuple elts x1 tp) (Itzt K a b) [n + 4,n + 2,n + 3,n,n + 1] (n + 4) (fun i h=>IsZip h (n + 4) (n + 2) (n + 3) .none ∧ IsPair h (n + 2) (.ref n) (.ref (n + 1)) ∧ (∃ u v,IsPair h (n + 3) u v) ∧ IsTupIter h n a i ∧ h.IsListIter (n + 1) b i ∧ a ≠ n + 3) where
  mem:=by simp
  obj:=fun i h st c hc=>by
    obtain ⟨h1,h2,⟨u,v,h3⟩,⟨o4,q4,c4,d4⟩,⟨o5,q5,c5,d5⟩,_⟩:=st
    simp only [List.mem_cons,List.not_mem_nil,or_false] at hc
    rcases hc with z | z | z | z | z
    · subst z
      exact ⟨_,h1,fun v z=>by
        have z' : Data.fields _ = Data.cell v:=z
        cases z'⟩
    · subst z
      exact ⟨_,h2,fun v z=>by
        have z' : Data.seq _ = Data.cell v:=z
        cases z'⟩
    · subst z
      exact ⟨_,h3,fun v z=>by
        have z' : Data.seq _ = Data.cell v:=z
        cases z'⟩
    · subst z
      exact ⟨o4,q4,fun v z=>by rw [d4] at z; cases z⟩
    · subst z
      exact ⟨o5,q5,fun v z=>by rw [d5] at z; cases z⟩
  keep:=fun i h h' st k=>by
    obtain ⟨h1,h2,⟨u,v,h3⟩,⟨o4,q4,r4⟩,h5,nn⟩:=st
    exact ⟨k _ (by simp) _ h1,k _ (by simp) _ h2,⟨u,v,k _ (by simp) _ h3⟩,⟨o4,k n (by simp) o4 q4,r4⟩,h5.at fun o q=>k (n + 1) (by simp) o q,nn⟩
  item:=by
    intro X hP hw hK hc i pins s σ H E I hf st hg
    subst hP hw hK
    obtain ⟨xs,ys,x,y,hq1,hq2,hx,hy⟩:=hg
    obtain ⟨its,rv,pl,hz⟩:=I.tuple hq1
    obtain ⟨u,hu,ru⟩:=rv.get hx
    obtain ⟨its2,rv2,pl2,hz2⟩:=I.list hq2
    obtain ⟨u2,hu2,ru2⟩:=rv2.get hy
    obtain ⟨h1,h2,⟨v1,v2,h3⟩,h4,h5,nn⟩:=st
    have c1 : ∃ o,s.heap.get? (n + 4) = some o ∧ o.cls ≠ .type "list":=⟨_,h1,by show Value.type "zip" ≠ Value.type "list"; decide⟩
    have c3 : ∃ o,s.heap.get? (n + 3) = some o ∧ o.cls ≠ .type "list":=⟨_,h3,by show Value.type "tuple" ≠ Value.type "list"; decide⟩
    have c4 : ∃ o,s.heap.get? n = some o ∧ o.cls ≠ .type "list":=by obtain ⟨o,q,c,_⟩:=h4; exact ⟨o,q,by rw [c]; decide⟩
    have c5 : ∃ o,s.heap.get? (n + 1) = some o ∧ o.cls ≠ .type "list":=by obtain ⟨o,q,c,_⟩:=h5; exact ⟨o,q,by rw [c]; decide⟩
    have d1 : ∃ o,s.heap.get? (n + 4) = some o ∧ o.cls ≠ .type "tuple":=⟨_,h1,by show Value.type "zip" ≠ Value.type "tuple"; decide⟩
    have d4 : ∃ o,s.heap.get? n = some o ∧ o.cls ≠ .type "tuple":=by obtain ⟨o,q,c,_⟩:=h4; exact ⟨o,q,by rw [c]; decide⟩
    have d5 : ∃ o,s.heap.get? (n + 1) = some o ∧ o.cls ≠ .type "tuple":=by obtain ⟨o,q,c,_⟩:=h5; exact ⟨o,q,by rw [c]; decide⟩
    have D : ZipApart (n + 4) (n + 2) (n + 3) n (n + 1) a b:=⟨ane (by omega),ane (by omega),ane (by omega),ane (by omega),ane (by omega),ane (by omega),ane (by omega),ane (by omega),ane (by omega),ane (by omega),ne_tupI pl d1,nn,ne_tupI pl d4,ne_tupI pl d5,ne_list pl2.isList c1,ne_list pl2.isList c3,ne_list pl2.isList c4,ne_list pl2.isList c5⟩
    have hel : n + 4 < s.heap.objs.size:=Heap.lt_size h1
    refine zipT_item D h1 h2 h3 h4 h5 pl pl2.isList (x:=u) (y:=u2) (by simpa using hu) (by simpa using hu2) fun g1 a1 a2 a3 a4 a5 a7=>⟨_,rfl,?_⟩
    refine wpAny_letOwnedTupleGo_zip a1 fun g2 b1 hs2=>?_
    have hs2' : Heap.SameBut (n + 4) g1 g2:=hs2
    have hnone : H s.heap.objs.size = none:=I.hok.fresh (Nat.le_refl _)
    have kk : ∀ c o,c ∉ [n + 4,n + 2,n + 3,n,n + 1] → s.heap.get? c = some o → g2.get? c = some o:=fun c o hc q=>by
      simp only [List.mem_cons,List.not_mem_nil,or_false,not_or] at hc
      exact (hs2'.2 c hc.1).trans (a7 c o hc.1 hc.2.2.1 hc.2.2.2.1 hc.2.2.2.2 q)
    refine ⟨.ref s.heap.objs.size,upd H s.heap.objs.size (.tup [x,y]),I.turnedN (t':=s.toks) kk rfl ?_ hf,rfl,⟨x,y,_,fun zs hz=>by rw [I.tuple_inj hz hq1]; exact hx,fun zs hz=>by rw [I.list_inj hz hq2]; exact hy,hnone,rfl,rfl⟩,⟨b1,?_,⟨_,_,(hs2'.2 _ (ane (by omega))).trans a2⟩,a3.extBut hs2'.extBut (ane (by omega)),a4.extBut hs2'.extBut (ane (by omega)),nn⟩,fun c hc=>?_⟩
    · exact ⟨by show 2 ≤ sizeLine; decide,[u,u2],.cons ru (.cons ru2 .nil),⟨_,(hs2'.2 _ (ane (by omega))).trans a5,rfl,_,rfl⟩⟩
    · exact (hs2'.2 _ (ane (by omega))).trans (a7 _ _ (ane (by omega)) (ane (by omega)) (ane (by omega)) (ane (by omega)) h2)
    · have hb0 : H c = none:=(hf c hc).1
      have hbl : c < s.heap.objs.size:=by
        simp only [List.mem_cons,List.not_mem_nil,or_false] at hc
        have hel' : (n : Nat) + 4 < s.heap.objs.size:=hel
        rcases hc with z | z | z | z | z <;> rw [z] <;> show (_ : Nat) < s.heap.objs.size <;> omega
      rw [upd_ne (Nat.ne_of_lt hbl)]
      exact hb0
  done:=by
    intro X hP hw hK hc i pins s σ H E I hf st hg
    subst hP hw hK
    obtain ⟨xs,ys,hq1,hq2,hx⟩:=hg
    obtain ⟨its,rv,pl,hz⟩:=I.tuple hq1
    obtain ⟨its2,rv2,pl2,hz2⟩:=I.list hq2
    obtain ⟨h1,h2,⟨v1,v2,h3⟩,h4,h5,nn⟩:=st
    have l1:=rv.length
    have l2:=rv2.length
    have c1 : ∃ o,s.heap.get? (n + 4) = some o ∧ o.cls ≠ .type "list":=⟨_,h1,by show Value.type "zip" ≠ Value.type "list"; decide⟩
    have c3 : ∃ o,s.heap.get? (n + 3) = some o ∧ o.cls ≠ .type "list":=⟨_,h3,by show Value.type "tuple" ≠ Value.type "list"; decide⟩
    have c4 : ∃ o,s.heap.get? n = some o ∧ o.cls ≠ .type "list":=by obtain ⟨o,q,c,_⟩:=h4; exact ⟨o,q,by rw [c]; decide⟩
    have c5 : ∃ o,s.heap.get? (n + 1) = some o ∧ o.cls ≠ .type "list":=by obtain ⟨o,q,c,_⟩:=h5; exact ⟨o,q,by rw [c]; decide⟩
    have d1 : ∃ o,s.heap.get? (n + 4) = some o ∧ o.cls ≠ .type "tuple":=⟨_,h1,by show Value.type "zip" ≠ Value.type "tuple"; decide⟩
    have d4 : ∃ o,s.heap.get? n = some o ∧ o.cls ≠ .type "tuple":=by obtain ⟨o,q,c,_⟩:=h4; exact ⟨o,q,by rw [c]; decide⟩
    have d5 : ∃ o,s.heap.get? (n + 1) = some o ∧ o.cls ≠ .type "tuple":=by obtain ⟨o,q,c,_⟩:=h5; exact ⟨o,q,by rw [c]; decide⟩
    have D : ZipApart (n + 4) (n + 2) (n + 3) n (n + 1) a b:=⟨ane (by omega),ane (by omega),ane (by omega),ane (by omega),ane (by omega),ane (by omega),ane (by omega),ane (by omega),ane (by omega),ane (by omega),ne_tupI pl d1,nn,ne_tupI pl d4,ne_tupI pl d5,ne_list pl2.isList c1,ne_list pl2.isList c3,ne_list pl2.isList c4,ne_list pl2.isList c5⟩
    refine zipT_end (I.ok.hd hc) D h1 h2 h3 h4 h5 pl pl2.isList ?_ fun g1 a7=>⟨rfl,I.turnedS (t':=s.toks) (ch:=[n + 4,n + 2,n + 3,n,n + 1]) (fun c o hc q=>?_) hf⟩
    · rcases hx with z | z
      · exact .inl (by simp; omega)
      · exact .inr (by simp; omega)
    · simp only [List.mem_cons,List.not_mem_nil,or_false,not_or] at hc
      exact a7 c o hc.1 hc.2.2.1 hc.2.2.2.1 hc.2.2.2.2 q
  self:=fun _ _ _ _ _ ⟨hz,_⟩ h=>wpAny_pyIter_zip hz h
section
variable {X : Cx} {e e2 : Expr} {te te2 : TE} {p pos : Pos}
def iZipT (K : PySem.W.Frag) (tl tl2 : TE) : TI:=fun σ H R=>tl σ H fun x H1=>tl2 σ H1 fun y H2=>∃ a b,x = .ref a ∧ y = .ref b ∧ (∃ xs,SqT K H2 a xs) ∧ (∃ ys,SqL K H2 b ys) ∧ R (Itzt K a b) H2
theorem pi_zipT {elts : List Expr} {x1} {tp : Pos} (hg : Gl X "zip") (hm : X.mg "zip" = none) (he : PE X e te) (he2 : PE X e2 te2) (hs : starEach [e,e2] X.env = (false,eval e X.env) :: starEach [e2] X.env:=by rfl) (hs2 : starEach [e2] X.env = (false,eval e2 X.env) :: starEach [] X.env:=by rfl) : PI X (.Tuple elts x1 tp) (.Call (.Name "zip" p) [e,e2] [] pos) (iZipT X.K te te2):=by
  intro pins s σ H R I h
  refine wpAny_Call_Name_kw (ld_blt I hg hm PyProof.Rows.boot_zip ?_ (by decide) (by decide))
  refine PyProof.Rows.callWith_type1 (thn (pa_cons he (pa_cons he2 pa_nil hs2) hs pos pins s σ H (fun vs H2=>∃ a b,vs = [.ref a,.ref b] ∧ (∃ xs,SqT X.K H2 a xs) ∧ (∃ ys,SqL X.K H2 b ys) ∧ R (Itzt X.K a b) H2) I ?_) fun us s1 ⟨vs,H1,I1,r1,q1⟩=>?_) hs (by rw [hs2]; rfl)
  · show te σ H fun x H1=>te2 σ H1 fun y H2=>_
    have e3 : (fun x H1=>te2 σ H1 fun y H2=>tNil σ H2 fun xs H3=>(fun vs H2=>∃ a b,vs = [V.ref a,V.ref b] ∧ (∃ xs,SqT X.K H2 a xs) ∧ (∃ ys,SqL X.K H2 b ys) ∧ R (Itzt X.K a b) H2) (x :: y :: xs) H3) = fun x H1=>te2 σ H1 fun y H2=>∃ a b,x = V.ref a ∧ y = V.ref b ∧ (∃ xs,SqT X.K H2 a xs) ∧ (∃ ys,SqL X.K H2 b ys) ∧ R (Itzt X.K a b) H2:=by
      funext x H1
      congr 1
      funext y H2
      simp only [tNil,List.cons.injEq,and_true,and_assoc]
    have:=h
    unfold iZipT at this
    rw [← e3] at this
    exact this
  · obtain ⟨a,b,rfl,⟨xs,hq⟩,⟨ys,hq2⟩,hR⟩:=q1
    obtain ⟨u,u2,rfl,ru,ru2⟩:=vals2 r1
    cases ru
    cases ru2
    obtain ⟨its,rv,pl,hz⟩:=I1.tuple hq
    obtain ⟨its2,rv2,pl2,hz2⟩:=I1.list hq2
    refine zT_call pl pl2.isList fun h' a1 a2 a3 a4 a5 hk=>?_
    refine wpAny_pyIter_zip a1 ?_
    have la : a < s1.heap.objs.size:=pl.lt
    refine ⟨s1.heap.objs.size + 4,[s1.heap.objs.size + 4,s1.heap.objs.size + 2,s1.heap.objs.size + 3,s1.heap.objs.size,s1.heap.objs.size + 1],_,_,H1,rfl,I1.kept (t':=s1.toks) hk,turn_zipT a b _,⟨a1,a2,⟨_,_,a3⟩,a4,a5,fun z=>by
      have la' : @LT.lt Nat instLTNat a s1.heap.objs.size:=la
      have z' : @Eq Nat a (s1.heap.objs.size + 3):=z
      omega⟩,fun c hc=>?_,hR⟩
    have : s1.heap.objs.size ≤ c:=by
      simp only [List.mem_cons,List.not_mem_nil,or_false] at hc
      rcases hc with z | z | z | z | z <;> rw [z] <;> show s1.heap.objs.size ≤ (_ : Nat) <;> omega
    exact I1.fpOk this (I1.hok.fresh this)
end
end L2
namespace L2
open PySem PySem.Spec PyProof.Rows
def KTup (K : PySem.W.Frag) (a : Addr) (xs : List V) : Prop:=∃ (o : Obj) (its : Array Value) (n : Nat),K.lookup a = some o ∧ o.cls = .type "tuple" ∧ o.data = .seq its n ∧ its.size ≤ sizeLine ∧ Vals xs its.toList
theorem KTup.sq {K : PySem.W.Frag} {a : Addr} {xs : List V} (h : KTup K a xs) (H : Hp) : SqT K H a xs:=.inr h
structure Met (P : Program) (w : World) (K : PySem.W.Frag) (mg : Str → Option Value) (base : Heap) (CX : CXT) (C : Addr) (m : Str) (k : Nat) (ps : List Str) (sp : Sp) : Prop where
  ex : ∃ (f : Addr) (fd : FuncData),FnOk P w K mg base CX k f fd ps sp ∧ Binds K fd ps [] ∧ Meth K C m f
structure MkD (P : Program) (w : World) (K : PySem.W.Frag) (mg : Str → Option Value) (base : Heap) (C : Addr) (k : Nat) (ps : List Str) (sp : Sp) : Prop where
  ex : ∃ (f : Addr) (fd : FuncData),FnOk P w K mg base CX0 k f fd ps sp ∧ Binds K fd ps [] ∧ Mk K C f
def tMethX (C : Addr) (m : Str) (sp : Sp) (EE : St → XK) (ta : TE) (t : TA) : TE:=fun σ H Q=>ta σ H fun x H1=>∃ a dx fs,x = .ref a ∧ H1 a = some (.ins C dx fs) ∧ fs.lookup m = none ∧ t σ H1 fun vs H2=>sp (x :: vs) H2 Q (EE σ)
section
variable {X : Cx} {CX : CXT} {C : Addr} {x m : Str} {j k : Nat} {ps : List Str} {sp : Sp} {p pos apos : Pos} {o e : Expr} {es : List Expr} {ta : TE} {t : TA} {E : XK} {EE : St → XK}
theorem pe_met {pl : Sem Bool} (hx : Passes CX X E) (c : Cls X.K C) (M : Met X.prog X.w X.K X.mg X.base CX C m j ps sp) (hr : Room k X.A) (ho : PE X o ta) (ha : PA X (e :: es) t) (hjk : j ≤ k:=by decide)
    (hst : starEach (e :: es) X.env = (false,eval e X.env) :: starEach es X.env:=by rfl) (hpl : (backTo pos (starEach es X.env)).any (·.1) = false:=by rfl)
    (ht : eval (.Call (.Attribute o m apos) (e :: es) [] pos) X.env = (do
      let ov ← eval o X.env
      standAt apos.atName
      let (f,first) ← holding [ov] (getMethod ov m pl)
      callWith pos f first (backTo pos (starEach (e :: es) X.env)) (backToKw pos (keywordEach [] X.env))):=by rfl) :
    PE X (.Call (.Attribute o m apos) (e :: es) [] pos) (tMeth C m sp [] E ta t):=by
  obtain ⟨f,fd,F,b,hm⟩:=M.ex
  exact pe_meth ho c hm F (hr.mono hjk) b .nil hx ha hst hpl ht
theorem pe_mk (D : MkD X.prog X.w X.K X.mg X.base C j ps sp) (hr : Room k X.A) (hg : Gl X x) (hm : X.mg x = some (.ref C)) (ha : PA X (e :: es) t) (hjk : j + 1 ≤ k:=by decide) (hdb : (x == ("__debug__" : Str)) = false:=by decide)
    (he : starEach (e :: es) X.env = (false,eval e X.env) :: starEach es X.env:=by rfl) (hpl : (backTo pos (starEach es X.env)).any (·.1) = false:=by rfl) : PE X (.Call (.Name x p) (e :: es) [] pos) (tMake C sp [] E0 t):=by
  obtain ⟨f,fd,F,b,M⟩:=D.ex
  exact pe_make M F (hr.mono hjk) hg hm b .nil pass0 ha hdb he hpl
theorem tab_one {P : Program} {w : World} {K : PySem.W.Frag} {mg : Str → Option Value} {base : Heap} {CX : CXT} {y : Str} {g : Addr} {n : Nat} (hm : mg y = some (.ref g))
    (D : ∃ (f : Addr) (fd : FuncData),FnOk P w K mg base CX n f fd ps sp ∧ Binds K fd ps [] ∧ PySem.W.keepIn K (.ref f) = true ∧ mg y = some (.ref f)) : TabOk P w K mg base CX n (fun h s=>h = g ∧ s = sp):=⟨fun h s ⟨e1,e2⟩=>by
  subst e1 e2
  obtain ⟨f,fd,F,b,kp,m⟩:=D
  rw [hm] at m
  cases m
  exact ⟨fd,ps,F,b,kp⟩⟩
end
end L2
namespace L2
open PySem PySem.Spec PyProof.Rows
theorem comp2ZT {K : PySem.W.Frag} {a b : Addr} {caps : List Nat} {tt : TT} {te : TE} {σ : St} {H : Hp} {Q : VK} (xs zs : List V) (Pv : Nat → List V → Hp → Prop) (hn : xs.length ≤ sizeLine) (hnm : xs.length = zs.length) (h0 : Pv 0 [] H) (hl : ∀ i ys H,Pv i ys H → SqT K H a xs ∧ SqL K H b zs)
    (hs : ∀ i (x y : V) ys H H',xs[i]? = some x → zs[i]? = some y → Pv i ys H → Same H H' → tt (some x :: some y :: capV caps σ) H' fun t H4=>if t = true then te (some x :: some y :: capV caps σ) H4 fun v H5=>Pv (i + 1) (ys ++ [v]) H5 else Pv (i + 1) ys H4)
    (hd : ∀ ys H,Pv xs.length ys H → ∀ p,H p = none → Q (.ref p) (upd H p (.lst ys))) : CompIt2 (Itzt K a b) caps (gTup K 2 (gCons (gName 0) (gCons (gName 1) gNil))) tt te σ H Q:=by
  refine ⟨xs.length,fun i ys H=>i ≤ xs.length ∧ Pv i ys H,hn,⟨Nat.zero_le _,h0⟩,?_⟩
  rintro i ys H2 ⟨hi,p⟩
  obtain ⟨hS,hS2⟩:=hl i ys H2 p
  by_cases hlt : i < xs.length
  · have hv : xs[i]? = some xs[i]:=List.getElem?_eq_getElem hlt
    have hlt2 : i < zs.length:=by omega
    have hv2 : zs[i]? = some zs[i]:=List.getElem?_eq_getElem hlt2
    refine .inr ⟨⟨_,_,_,_,hS,hS2,hv,hv2⟩,hlt,?_⟩
    rintro y H3 ⟨y,z,t,hy,hz,ht,rfl,rfl⟩ o1 o2
    have hy:=hy _ hS
    rw [hv] at hy
    cases hy
    have hz:=hz _ hS2
    rw [hv2] at hz
    cases hz
    refine ⟨t,_,rfl,SqT.of upd_same,rfl,_,_,rfl,_,_,rfl,rfl,⟨_,_,rfl⟩,?_⟩
    have key:=hs i _ _ ys H2 _ hv hv2 p (same_new ht (.tup [xs[i],zs[i]]))
    have e2 : (fun (t : Bool) (H4 : Hp)=>if t = true then te (some xs[i] :: some zs[i] :: capV caps σ) H4 fun v H5=>Pv (i + 1) (ys ++ [v]) H5 else Pv (i + 1) ys H4) = fun t H4=>if t = true then te (some xs[i] :: some zs[i] :: capV caps σ) H4 fun v H5=>i + 1 ≤ xs.length ∧ Pv (i + 1) (ys ++ [v]) H5 else i + 1 ≤ xs.length ∧ Pv (i + 1) ys H4:=by
      funext t H4
      have z : i + 1 ≤ xs.length:=hlt
      simp only [z,true_and]
    rw [e2] at key
    exact key
  · have e : i = xs.length:=by omega
    subst e
    exact .inl ⟨⟨_,_,hS,hS2,.inl (Nat.le_refl _)⟩,hd ys H2 p⟩
end L2
namespace L2
open PySem PySem.Spec PyProof.Rows
section
variable {X : Cx} {tg : Expr}
def iRngD (ta : TA) : TI:=fun σ H R=>ta σ H fun vs H1=>∃ i j : Int,vs = [.int i,.int j,.int (-1)] ∧ (-(2 ^ 60) ≤ i ∧ i < 2 ^ 60 ∧ -(2 ^ 60) ≤ j ∧ j < 2 ^ 60) ∧ R (Itc i (-1) (i - j).toNat) H1
end
theorem tab_or {P : Program} {w : World} {K : PySem.W.Frag} {mg : Str → Option Value} {base : Heap} {CX : CXT} {n m : Nat} {S T : Addr → Sp → Prop} (h : TabOk P w K mg base CX n S) (h' : TabOk P w K mg base CX m T) : TabOk P w K mg base CX (max n m) (fun g s=>S g s ∨ T g s):=⟨fun g s z=>by
  rcases z with z | z
  · obtain ⟨fd,ps,F,b,kp⟩:=h.ok g s z
    exact ⟨fd,ps,F.mono (Nat.le_max_left ..),b,kp⟩
  · obtain ⟨fd,ps,F,b,kp⟩:=h'.ok g s z
    exact ⟨fd,ps,F.mono (Nat.le_max_right ..),b,kp⟩⟩
end L2
namespace L2
open PySem PySem.Spec PyProof.Rows
section
variable {X : Cx} {a b : Expr} {ta tb : TE} {z : Str}
def tFmt (z : Str) (ta tb : TE) : TE:=fun σ H Q=>ta σ H fun x H1=>∃ i : Int,x = .int i ∧ i.natAbs.log2 < 1920 ∧ (Str.ofString (toString i) ++ z).length ≤ sizeLine ∧ tb σ H1 fun y H2=>∃ j : Int,y = .int j ∧ j.natAbs.log2 < 1920 ∧ (Str.ofString (toString i) ++ z ++ Str.ofString (toString j)).length ≤ sizeLine ∧ Q (.str (Str.ofString (toString i) ++ z ++ Str.ofString (toString j))) H2
theorem empty_app (a : Str) : Str.empty ++ a = a:=congrArg Str.mk Array.empty_append
theorem pe_fmt {k : Nat} {p1 p2 p3 p4 : Pos} (ha : PE X a ta) (hb : PE X b tb) : PE X (.JoinedStr [.FormattedValue a (-1) none p1,.Constant (.str z) k p2,.FormattedValue b (-1) none p3] p4) (tFmt z ta tb):=by
  intro pins s σ H Q I h
  refine wpAny_JoinedStr (wpAny_FormattedValue_plain (thn (ha pins s σ H _ I h) fun u s1 ⟨x,H1,I1,r1,i,e,hi,hz,q1⟩=>?_))
  subst e
  obtain ⟨t,rfl⟩:=r1
  refine wpAny_formatField_int hi ⟨_,_,rfl,?_,?_⟩
  · rw [empty_app]
    exact int_text_fits hi
  refine Calls.Constant_str ?_
  have I2 : Inv X pins σ H1 { s1 with toks:=s1.toks + 1 + 1 }:=I1.tok _
  have I3:=I2.tok (s1.toks + 1 + 1 + 1)
  have key:=hb pins { s1 with toks:=s1.toks + 1 + 1 + 1 } σ H1 _ I3 q1
  refine ⟨_,_,rfl,?_,wpAny_FormattedValue_plain (thn key fun u s2 ⟨y,H2,I4,r2,j,e,hj,hl,q2⟩=>?_)⟩
  · rw [empty_app]
    exact hz
  subst e
  obtain ⟨t2,rfl⟩:=r2
  refine wpAny_formatField_int hj ⟨_,_,rfl,?_,?_,?_⟩
  · rw [empty_app]
    exact hl
  · rw [empty_app]
    exact hl
  · rw [empty_app]
    exact ⟨.str (Str.ofString (toString i) ++ z ++ Str.ofString (toString j)),H2,(I4.tok _).tok _,⟨_,rfl⟩,q2⟩
def rPart : V → List V → Hp → VK → Prop:=fun x vs H Q=>∃ z y,x = .str z ∧ vs = [.str y] ∧ 0 < y.length ∧ z.length ≤ sizeLine ∧ ∃ (i : Nat) (r : List Nat),Builtin.Str.occurrences z y 0 z.length 1 = i :: r ∧ ∀ l,H l = none → Q (.ref l) (upd H l (.tup [.str (Builtin.Str.strSub z 0 i),.str y,.str (Builtin.Str.strSub z (i + y.length) z.length)]))
theorem mt_partition : MtM X "str.partition" rPart:=by
  intro pins s σ H x xs v us Q I rx rs h
  obtain ⟨z,y,rfl,rfl,hy,hz,i,r,e,q⟩:=h
  obtain ⟨t,rfl⟩:=rx
  obtain ⟨u,rfl,t',rfl⟩:=Vals.one rs
  have hy' : (y.length == 0) = false:=by simpa using Nat.ne_of_gt hy
  refine call_meets F.slot_str_partition (typeIs_str _ _ _) F.entry_str_partition (F.args_str_partition_2 _ _) (meets_str_partition z y t t' hy' hz) ?_
  rw [e]
  exact ⟨.ref s.heap.objs.size,_,I.laid (t':=s.toks + 1 + 1) (fun b o e=>Heap.get?_push_of_some _ e) (Nat.le_refl _) (show ObjOk X.prog X.w _ _ _ (.tup [.str (Builtin.Str.strSub z 0 i),.str y,.str (Builtin.Str.strSub z (i + y.length) z.length)]) from ⟨by show 3 ≤ sizeLine; decide,_,.cons ⟨_,rfl⟩ (.cons ⟨_,rfl⟩ (.cons ⟨_,rfl⟩ .nil)),⟨_,Heap.get?_push_size _ rfl,rfl,0,rfl⟩⟩),rfl,q _ (I.hok.fresh (Nat.le_refl _))⟩
end
end L2
namespace Tx
open PySem PySem.Spec PyProof.Rows Builtin.Str
theorem app_len (a b : Str) : (a ++ b).length = a.length + b.length:=Array.size_append
theorem sub_one (z : Str) (c i : Nat) (hi : i < z.length) : subAt z ⟨#[c]⟩ i = true ↔ z.cps[i]? = some c:=by
  unfold subAt
  have e : (⟨#[c]⟩ : Str).length = 1:=rfl
  rw [e]
  have h : z.cps.extract i (i + 1) = #[z.cps[i]'hi]:=by
    apply Array.ext
    · simp
      have : i < z.cps.size:=hi
      omega
    · intro j h1 h2
      have h3 : j = 0:=by simpa using h2
      subst h3
      rw [Array.getElem_extract]
      rfl
  rw [h,Array.getElem?_eq_getElem hi]
  constructor
  · intro q
    have q : #[z.cps[i]'hi] = #[c]:=eq_of_beq q
    have : z.cps[i]'hi = c:=by simpa using q
    rw [this]
  · intro q
    have : z.cps[i]'hi = c:=Option.some.inj q
    rw [this]
    exact beq_self_eq_true _
theorem part_at {a b : Str} {c : Nat} (h : c ∉ a.cps.toList) : ∃ r,occurrences (a ++ ⟨#[c]⟩ ++ b) ⟨#[c]⟩ 0 (a ++ ⟨#[c]⟩ ++ b).length 1 = a.length :: r:=by
  have lz : (a ++ (⟨#[c]⟩ : Str) ++ b).length = a.length + 1 + b.length:=by
    rw [app_len,app_len]
    rfl
  have ez : (a ++ (⟨#[c]⟩ : Str) ++ b).cps = a.cps ++ #[c] ++ b.cps:=rfl
  have at1 : StrLaws.At (a ++ (⟨#[c]⟩ : Str) ++ b) ⟨#[c]⟩ (a ++ (⟨#[c]⟩ : Str) ++ b).length a.length:=by
    refine ⟨by rw [lz]; show a.length + 1 ≤ _; omega,(sub_one _ c _ (by omega)).mpr ?_⟩
    rw [ez]
    show (a.cps ++ #[c] ++ b.cps)[a.cps.size]? = some c
    rw [Array.append_assoc,Array.getElem?_append_right (Nat.le_refl _),Nat.sub_self,Array.getElem?_append_left (by simp)]
    rfl
  rcases StrLaws.occ_head (a ++ (⟨#[c]⟩ : Str) ++ b) ⟨#[c]⟩ 1 (by decide) with ⟨_,n⟩ | ⟨i,r,e,hi,n⟩
  · exact absurd at1 (n _)
  · have le : i ≤ a.length:=Nat.le_of_not_lt fun z=>n _ z at1
    have : ¬ i < a.length:=fun lt=>by
      have:=(sub_one _ c i (by omega)).mp hi.2
      rw [ez] at this
      have hs : i < a.cps.size:=lt
      rw [Array.append_assoc,Array.getElem?_append_left hs,Array.getElem?_eq_getElem hs] at this
      exact h (by rw [← Option.some.inj this]; exact Array.getElem_mem_toList hs)
    have : i = a.length:=by omega
    subst this
    exact ⟨r,e⟩
theorem part_left (a y b : Str) : strSub (a ++ y ++ b) 0 a.length = a:=by
  have : (a ++ y ++ b).cps = a.cps ++ (y.cps ++ b.cps):=Array.append_assoc
  unfold strSub
  rw [this]
  have e : a.length = a.cps.size:=rfl
  rw [e]
  exact congrArg Str.mk (by simp)
theorem part_right (a y b : Str) : strSub (a ++ y ++ b) (a.length + y.length) (a ++ y ++ b).length = b:=by
  unfold strSub
  have e : (a ++ y ++ b).cps = (a.cps ++ y.cps) ++ b.cps:=rfl
  have l : (a ++ y ++ b).length = a.cps.size + y.cps.size + b.cps.size:=by rw [app_len,app_len]; rfl
  have e2 : a.length + y.length = a.cps.size + y.cps.size:=rfl
  rw [l,e,e2]
  exact congrArg Str.mk (by
    have h1 : a.cps.size + y.cps.size = (a.cps ++ y.cps).size:=by rw [Array.size_append]
    rw [h1]
    apply Array.toList_inj.mp
    rw [Array.toList_extract,Array.toList_append,List.extract_eq_take_drop,← Array.length_toList,List.drop_append,Nat.sub_self,List.drop_length,List.nil_append]
    simp only [Array.length_toList,Nat.add_sub_cancel_left,List.drop_zero]
    exact List.take_of_length_le (by simp))
theorem tx_reads {x : Int} (h0 : 0 ≤ x) (h : x.natAbs < 10 ^ 182) : intText? (tx x) = some x:=by
  obtain ⟨m,rfl⟩ : ∃ m : Nat,x = m:=⟨x.toNat,by omega⟩
  have e:=tx_nat m
  have ne : dg m ≠ []:=fun z=>by have:=dg_one m; rw [z] at this; simp at this
  have hl : (tx (m : Int)).length ≤ 183:=by
    unfold tx
    rw [PySem.ofString_length]
    exact int_text_length_le10 (by decide) h
  have:=intText_digits (x:=tx (m : Int)) (by rw [e]; exact dg_all m) (by rw [e]; exact ne) (by omega)
  rw [e,dg_val] at this
  exact this
end Tx
namespace L2
open PySem PySem.Spec PyProof.Rows
section
variable {X : Cx}
def rInN (K : PySem.W.Frag) : R2:=fun x y H Q=>x = .non ∧ ∃ (p : Addr) (as : List Addr),y = .ref p ∧ SqL K H p (as.map V.ref) ∧ (∀ a,a ∈ as → ∃ xs,H a = some (.tup xs)) ∧ Q (.bl false) H
theorem op_inN (hu : X.A.units + 1 < cLine) : OpR X (compareOp .In) (rInN X.K):=by
  intro pins s σ H x y v u Q I rx ry h
  obtain ⟨rfl,p,as,rfl,hq,ht,q⟩:=h
  cases rx
  cases ry
  obtain ⟨its,r,pl,hz⟩:=I.list hq
  have ei:=vals_refs r
  refine SeqAt.in_listAt (fun _=>false) pl.isList (fun w hw=>?_) ⟨.bl false,H,I,?_,q⟩
  · have hw : w ∈ its:=by simpa using hw
    rw [ei] at hw
    obtain ⟨a,ha,rfl⟩:=List.mem_map.mp hw
    obtain ⟨xs,e⟩:=ht a ha
    obtain ⟨its2,_,pt,_⟩:=I.tuple (SqT.of e)
    exact SeqAt.EqAt.tuple_none pt hu
  · show Value.bool (its.toArray.any fun _=>false) = Value.bool false
    rw [Array.any_eq_false'.mpr (by simp)]
end
end L2
namespace HT
open PySem PyProof.Rows
def lexLe : List Int → List Int → Bool
  | [],[]=>true
  | [],_ :: _=>true
  | _ :: _,[]=>false
  | x :: xs,y :: ys=>if x = y then lexLe xs ys else decide (x ≤ y)
theorem lexLe_cons (x y : Int) (xs ys : List Int) : lexLe (x :: xs) (y :: ys) = if x = y then lexLe xs ys else decide (x ≤ y):=rfl
theorem lexLe_nil_nil : lexLe [] [] = true:=rfl
theorem lexLe_nil_cons (y : Int) (ys : List Int) : lexLe [] (y :: ys) = true:=rfl
theorem lexLe_cons_nil (x : Int) (xs : List Int) : lexLe (x :: xs) [] = false:=rfl
theorem rcLe_int (A : Around) (s : Shared) (a : Int) (t : Tok) (c : Int) (u : Tok) (prog : Program) (w : World) (E : Value → Shared → Prop) (Q : Value → Shared → Prop) (h : Q (.bool (decide (a ≤ c))) s) :
    wpAny (model prog w) A (richCompare .LtE (.int a t) (.int c u)) Q E s:=
  (PyProof.Rows.le_int h : wpAny (model prog w) A (compareOp .LtE (.int a t) (.int c u)) Q E s)
section
open PySem.SeqAt
open PySem.AutoSeq1 (wpAny_loadPart')
open PySem.MeetsSeq PySem.MeetsSeq2 PySem.MeetsSeq3
theorem tuple_le_ints (l b : Addr) (items items2 : Array Value) (n n2 : Nat) (dd dd2 : Option Addr) (sl sl2 : Array (Option Value)) (ns ms : List Int) (hi : IntsAre items.toList ns) (hj : IntsAre items2.toList ms) :
    Meets (Builtin.«tuple.__le__» ⟨[.ref l,.ref b],[]⟩)
      (fun _ R s=>s.heap.get? l = some { cls:=.type "tuple",dict:=dd,data:=.seq items n,slots:=sl } ∧ s.heap.get? b = some { cls:=.type "tuple",dict:=dd2,data:=.seq items2 n2,slots:=sl2 } ∧
        R (.ok (.ret (.bool (lexLe ns ms)))) s):=
  .of_wp fun prog w A R s h=>by
    obtain ⟨hp,g,d,tk,os⟩:=s; obtain ⟨hl,hb,h⟩:=h
    have f2:=AutoSeq1.sub_tuple_tuple
    have z1 : items.size = ns.length:=by rw [← hi.length]; simp
    have z2 : items2.size = ms.length:=by rw [← hj.length]; simp
    wp_walk using wpAny_loadPart' hl,wpAny_loadPart' hb,wpAny_forIn_list _ (fun rest b s'=>b.1 = none ∧ s' = ⟨hp,g,d,tk,os⟩ ∧ ∃ (vs ws : List Value) (ns' ms' : List Int),rest = vs.zip ws ∧
      IntsAre vs ns' ∧ IntsAre ws ms' ∧ ns'.length + items2.size = ms'.length + items.size ∧ R (.ok (.ret (.bool (lexLe ns' ms')))) ⟨hp,g,d,tk,os⟩) _
    case turn=>
      rintro ⟨y,x⟩ rest b s' ⟨hb',rfl,vs,ws,ns',ms',hz,hvi,hwi,hlen,hR⟩
      cases hvi with
      | nil=>rw [List.zip_nil_left] at hz; cases hz
      | cons a t hvi'=>
        cases hwi with
        | nil=>rw [List.zip_nil_right] at hz; cases hz
        | cons c u hwi'=>
          rw [List.zip_cons_cons] at hz
          injection hz with hyx hrest
          injection hyx with hy hx
          subst hy hx
          rw [lexLe_cons] at hR
          simp only [List.length_cons] at hlen
          obtain ⟨e,he,hiff⟩:=eqAt_int A.in1 ⟨hp,g,d,tk,os⟩ a t c u
          refine wpAny_bind (he prog w _ _ ?_)
          cases e with
          | true=>
            rw [if_pos (hiff.mp rfl)] at hR
            wp_walk
            exact ⟨rfl,rfl,_,_,_,_,hrest,hvi',hwi',by omega,hR⟩
          | false=>
            rw [if_neg (fun q=>absurd (hiff.mpr q) Bool.false_ne_true)] at hR
            have hri:=rcLe_int A.in1 ⟨hp,g,d,tk,os⟩ a t c u prog w
            wp_walk using hri
            exact ⟨_,rfl,by simpa using hR⟩
    case fin=>
      rintro ⟨b1,b2⟩ s' ⟨hb',rfl,vs,ws,ns',ms',hz,hvi,hwi,hlen,hR⟩
      simp only at hb'
      subst hb'
      have hv : lexLe ns' ms' = decide (items.size ≤ items2.size):=by
        cases hvi with
        | nil=>
          cases hwi with
          | nil=>
            simp only [List.length_nil] at hlen
            rw [lexLe_nil_nil]
            exact (decide_eq_true (by omega)).symm
          | cons c u hw=>
            simp only [List.length_nil,List.length_cons] at hlen
            rw [lexLe_nil_cons]
            exact (decide_eq_true (by omega)).symm
        | cons a t hv=>
          cases hwi with
          | nil=>
            simp only [List.length_nil,List.length_cons] at hlen
            rw [lexLe_cons_nil]
            exact (decide_eq_false (by omega)).symm
          | cons c u hw=>
            rw [List.zip_cons_cons] at hz
            cases hz
      rw [hv] at hR
      wp_walk
      exact ⟨_,rfl,by simpa [Builtin.Tuple.tupleCompareSizes] using hR⟩
    case h=>
      exact ⟨rfl,rfl,items.toList,items2.toList,ns,ms,rfl,hi,hj,by omega,h⟩
end
section
variable {prog : Program} {w : World} {A : Around} {E : Value → Shared → Prop} {s : Shared}
theorem le_tupInts {l b : Addr} {items items2 : Array Value} {ns ms : List Int} {Q : Value → Shared → Prop} (hl : IsTup s.heap l items) (hb : IsTup s.heap b items2) (hi : IntsAre items.toList ns) (hj : IntsAre items2.toList ms)
    (hu : A.units < cLine) (h : Q (.bool (lexLe ns ms)) s) : wpAny (model prog w) A (compareOp .LtE (.ref l) (.ref b)) Q E s:=by
  obtain ⟨⟨cls,dd,data,sl⟩,ho,hc,n,hd⟩:=id hl
  obtain ⟨⟨cls2,dd2,data2,sl2⟩,ho2,hc2,n2,hd2⟩:=id hb
  simp only at hc hd hc2 hd2
  subst hc hd hc2 hd2
  exact richCompare_meets_room (op:=.LtE) ⟨_,ho,rfl⟩ ⟨_,ho2,rfl⟩ PySem.F.slot_tuple_le PySem.F.entry_tuple_le (PySem.F.args_tuple_le_2 _ _) (tuple_le_ints l b items items2 n n2 dd dd2 sl sl2 ns ms hi hj)
    ⟨ho,ho2,show Value.bool (lexLe ns ms) ≠ Value.notImplemented ∧ Q (.bool (lexLe ns ms)) s from ⟨(fun x=>nomatch x),h⟩⟩ hu
end
end HT
namespace L2
open PySem PySem.Spec PyProof.Rows
section
variable {X : Cx}
def rLeT (K : PySem.W.Frag) : R2:=fun x y H Q=>∃ a b ns ms,x = .ref a ∧ y = .ref b ∧ SqT K H a (ns.map V.int) ∧ SqT K H b (ms.map V.int) ∧ Q (.bl (HT.lexLe ns ms)) H
theorem op_leT (hu : X.A.units < cLine) : OpR X (compareOp .LtE) (rLeT X.K):=by
  intro pins s σ H x y v u Q I rx ry h
  obtain ⟨a,b,ns,ms,rfl,rfl,ha,hb,q⟩:=h
  cases rx
  cases ry
  obtain ⟨its,r1,p1,_⟩:=I.tuple ha
  obtain ⟨its2,r2,p2,_⟩:=I.tuple hb
  have i1 : IntsAre its.toArray.toList ns:=intsAre_of r1
  have i2 : IntsAre its2.toArray.toList ms:=intsAre_of r2
  exact HT.le_tupInts p1 p2 i1 i2 hu ⟨.bl (HT.lexLe ns ms),H,I,rfl,q⟩
end
end L2
namespace K91
open PySem L2
set_option maxHeartbeats 1000000
section
def top (i : Nat) : Stmt:=PySem.Challenge.pw_deeprests_k91_whole_solved_by_text.main.body.getD i (.Pass ⟨0,0,0,0⟩)
def inner (s : Stmt) (j : Nat) : Stmt:=match s with | .ClassDef _ _ _ body _ _ _ _ _ _ _=>body.getD j (.Pass ⟨0,0,0,0⟩) | _=>.Pass ⟨0,0,0,0⟩
def l_WANTED : List (Str × Tok × Value):=[("poly",803,.ref 420),("times",806,.ref 421),("seen",810,.ref 422),("slope",815,.ref 423),("drop",818,.ref 424),("names",820,.ref 425),("show",821,.ref 426),("solve",823,.ref 427),("count",826,.ref 428),("single",829,.ref 429),("root",832,.ref 430),("roots",836,.ref 431),("border",839,.ref 432),("small",841,.ref 433),("parts",845,.ref 434)]
theorem w_WANTED_poly : atK l_WANTED "poly" = some (.ref 420):=by decide +kernel
theorem w_WANTED_solve : atK l_WANTED "solve" = some (.ref 427):=by decide +kernel
theorem w_WANTED_count : atK l_WANTED "count" = some (.ref 428):=by decide +kernel
def l_MADE : List (Str × Tok × Value):=[("poly",997,.ref 469),("times",998,.ref 476),("seen",999,.ref 483),("slope",1000,.ref 490)]
theorem w_MADE_poly : atK l_MADE "poly" = some (.ref 469):=by decide +kernel
theorem w_MADE_solve : atK l_MADE "solve" = none:=by decide +kernel
theorem w_MADE_count : atK l_MADE "count" = none:=by decide +kernel
def l_TOLD : List (Str × Tok × Value):=[("show",1006,.ref 497),("solve",1007,.ref 502),("count",1008,.ref 509),("single",1009,.ref 516),("root",1010,.ref 523),("roots",1011,.ref 528),("border",1012,.ref 533),("small",1013,.ref 540),("parts",1014,.ref 545)]
theorem w_TOLD_solve : atK l_TOLD "solve" = some (.ref 502):=by decide +kernel
theorem w_TOLD_count : atK l_TOLD "count" = some (.ref 509):=by decide +kernel
abbrev s_is_prime : Stmt:=top 14
theorem S_is_prime : FnScope ["thing","divisor"] ["thing"] (defScope s_is_prime):=⟨rfl,rfl,rfl,by decide +kernel,rfl,by decide +kernel,by decide +kernel⟩
abbrev s_power_of : Stmt:=top 16
theorem S_power_of : FnScope ["p","e","power","turn"] ["p","e"] (defScope s_power_of):=⟨rfl,rfl,rfl,by decide +kernel,rfl,by decide +kernel,by decide +kernel⟩
abbrev s_worth_at : Stmt:=top 30
theorem S_worth_at : FnScope ["f","x","worth","number"] ["f","x"] (defScope s_worth_at):=⟨rfl,rfl,rfl,by decide +kernel,rfl,by decide +kernel,by decide +kernel⟩
abbrev s_degree_of : Stmt:=top 31
theorem S_degree_of : FnScope ["f","degree","place","number"] ["f"] (defScope s_degree_of):=⟨rfl,rfl,rfl,by decide +kernel,rfl,by decide +kernel,by decide +kernel⟩
abbrev s_poly_product : Stmt:=top 32
theorem S_poly_product : FnScope ["f","g","product","place","number","other_place","other_number"] ["f","g"] (defScope s_poly_product):=⟨rfl,rfl,rfl,by decide +kernel,rfl,by decide +kernel,by decide +kernel⟩
abbrev s_seen_from : Stmt:=top 34
theorem S_seen_from : FnScope ["p","f","a","e","place_seen","seen","number"] ["p","f","a","e"] (defScope s_seen_from):=⟨rfl,rfl,rfl,by decide +kernel,rfl,by decide +kernel,by decide +kernel⟩
abbrev s_content_of : Stmt:=top 35
theorem S_content_of : FnScope ["p","f","content","left"] ["p","f"] (defScope s_content_of):=⟨rfl,rfl,rfl,by decide +kernel,rfl,by decide +kernel,by decide +kernel⟩
abbrev s_without_content : Stmt:=top 36
theorem S_without_content : FnScope ["p","f","power"] ["p","f"] (defScope s_without_content):=⟨rfl,rfl,rfl,by decide +kernel,rfl,by decide +kernel,by decide +kernel⟩
abbrev s_rests_by_prime : Stmt:=top 37
theorem S_rests_by_prime : FnScope ["p","f","small"] ["p","f"] (defScope s_rests_by_prime):=⟨rfl,rfl,rfl,by decide +kernel,rfl,by decide +kernel,by decide +kernel⟩
abbrev s_endless_roots : Stmt:=top 51
theorem S_endless_roots : FnScope ["p","f","N"] ["p","f","N"] (defScope s_endless_roots):=⟨rfl,rfl,rfl,by decide +kernel,rfl,by decide +kernel,by decide +kernel⟩
abbrev s_divides_every_worth : Stmt:=top 53
theorem S_divides_every_worth : FnScope ["p","f","N","power"] ["p","f","N"] (defScope s_divides_every_worth):=⟨rfl,rfl,rfl,by decide +kernel,rfl,by decide +kernel,by decide +kernel⟩
abbrev s_solving_balls_within : Stmt:=top 54
theorem S_solving_balls_within : FnScope ["p","a","e","seen","N","left","freed","power","balls","r"] ["p","a","e","seen","N"] (defScope s_solving_balls_within):=⟨rfl,rfl,rfl,by decide +kernel,rfl,by decide +kernel,by decide +kernel⟩
abbrev s_solving_balls : Stmt:=top 55
theorem S_solving_balls : FnScope ["p","f","N"] ["p","f","N"] (defScope s_solving_balls):=⟨rfl,rfl,rfl,by decide +kernel,rfl,by decide +kernel,by decide +kernel⟩
abbrev s_solving_rests : Stmt:=top 56
theorem S_solving_rests : FnScope ["p","f","N"] ["p","f","N"] (defScope s_solving_rests):=⟨rfl,rfl,rfl,by decide +kernel,rfl,by decide +kernel,by decide +kernel⟩
abbrev s_is_made_of : Stmt:=top 61
theorem S_is_made_of : FnScope ["text","signs"] ["text","signs"] (defScope s_is_made_of):=⟨rfl,rfl,rfl,by decide +kernel,rfl,by decide +kernel,by decide +kernel⟩
abbrev s_is_written_number : Stmt:=top 62
theorem S_is_written_number : FnScope ["text","below","figures"] ["text"] (defScope s_is_written_number):=⟨rfl,rfl,rfl,by decide +kernel,rfl,by decide +kernel,by decide +kernel⟩
abbrev s_can_be_written : Stmt:=top 63
theorem S_can_be_written : FnScope ["number"] ["number"] (defScope s_can_be_written):=⟨rfl,rfl,rfl,by decide +kernel,rfl,by decide +kernel,by decide +kernel⟩
abbrev s_read_number : Stmt:=top 64
theorem S_read_number : FnScope ["text"] ["text"] (defScope s_read_number):=⟨rfl,rfl,rfl,by decide +kernel,rfl,by decide +kernel,by decide +kernel⟩
abbrev s_read_poly : Stmt:=top 65
theorem S_read_poly : FnScope ["text","words"] ["text"] (defScope s_read_poly):=⟨rfl,rfl,rfl,by decide +kernel,rfl,by decide +kernel,by decide +kernel⟩
abbrev s_words_of : Stmt:=top 72
theorem S_words_of : FnScope ["row","words"] ["row"] (defScope s_words_of):=⟨rfl,rfl,rfl,by decide +kernel,rfl,by decide +kernel,by decide +kernel⟩
abbrev s_read_name : Stmt:=top 73
theorem S_read_name : FnScope ["word"] ["word"] (defScope s_read_name):=⟨rfl,rfl,rfl,by decide +kernel,rfl,by decide +kernel,by decide +kernel⟩
abbrev s_read_depth : Stmt:=top 74
theorem S_read_depth : FnScope ["word","depth"] ["word"] (defScope s_read_depth):=⟨rfl,rfl,rfl,by decide +kernel,rfl,by decide +kernel,by decide +kernel⟩
abbrev s_listed : Stmt:=top 75
theorem S_listed : FnScope ["texts","without"] ["texts","without"] (defScope s_listed):=⟨rfl,rfl,rfl,by decide +kernel,rfl,by decide +kernel,by decide +kernel⟩
abbrev s_made_poly : Stmt:=top 76
theorem S_made_poly : FnScope ["p","things"] ["p","things"] (defScope s_made_poly):=⟨rfl,rfl,rfl,by decide +kernel,rfl,by decide +kernel,by decide +kernel⟩
abbrev s_told_solve : Stmt:=top 81
theorem S_told_solve : FnScope ["p","things","balls"] ["p","things"] (defScope s_told_solve):=⟨rfl,rfl,rfl,by decide +kernel,rfl,by decide +kernel,by decide +kernel⟩
abbrev s_told_count : Stmt:=top 82
theorem S_told_count : FnScope ["p","things"] ["p","things"] (defScope s_told_count):=⟨rfl,rfl,rfl,by decide +kernel,rfl,by decide +kernel,by decide +kernel⟩
abbrev s___init__ : Stmt:=inner (top 91) 0
theorem S___init__ : FnScope ["self","p"] ["self","p"] (defScope s___init__):=⟨rfl,rfl,rfl,by decide +kernel,rfl,by decide +kernel,by decide +kernel⟩
abbrev s_say : Stmt:=inner (top 91) 1
theorem S_say : FnScope ["self","row","words","deed","things"] ["self","row"] (defScope s_say):=⟨rfl,rfl,rfl,by decide +kernel,rfl,by decide +kernel,by decide +kernel⟩
abbrev s_thing_of : Stmt:=inner (top 91) 2
theorem S_thing_of : FnScope ["self","wanted","word"] ["self","wanted","word"] (defScope s_thing_of):=⟨rfl,rfl,rfl,by decide +kernel,rfl,by decide +kernel,by decide +kernel⟩
abbrev s_standing : Stmt:=inner (top 91) 3
theorem S_standing : FnScope ["self","name"] ["self","name"] (defScope s_standing):=⟨rfl,rfl,rfl,by decide +kernel,rfl,by decide +kernel,by decide +kernel⟩
abbrev s_keep : Stmt:=inner (top 91) 4
theorem S_keep : FnScope ["self","name","polynomial"] ["self","name","polynomial"] (defScope s_keep):=⟨rfl,rfl,rfl,by decide +kernel,rfl,by decide +kernel,by decide +kernel⟩
abbrev s__law_cell : Stmt:=top 93
theorem S__law_cell : FnScope ["script","k"] ["script","k"] (defScope s__law_cell):=⟨rfl,rfl,rfl,by decide +kernel,rfl,by decide +kernel,by decide +kernel⟩
abbrev s__law_prime : Stmt:=top 94
theorem S__law_prime : FnScope ["cell","some"] ["cell"] (defScope s__law_prime):=⟨rfl,rfl,rfl,by decide +kernel,rfl,by decide +kernel,by decide +kernel⟩
abbrev s__law_times : Stmt:=top 96
theorem S__law_times : FnScope ["f","g","found","i","j"] ["f","g"] (defScope s__law_times):=⟨rfl,rfl,rfl,by decide +kernel,rfl,by decide +kernel,by decide +kernel⟩
abbrev s__law_root : Stmt:=top 97
theorem S__law_root : FnScope ["p","one","other","root","part","k"] ["p","one","other"] (defScope s__law_root):=⟨rfl,rfl,rfl,by decide +kernel,rfl,by decide +kernel,by decide +kernel⟩
abbrev s__law_free : Stmt:=top 98
theorem S__law_free : FnScope ["p","one","other","found","k","number","j"] ["p","one","other"] (defScope s__law_free):=⟨rfl,rfl,rfl,by decide +kernel,rfl,by decide +kernel,by decide +kernel⟩
abbrev s__law_parts : Stmt:=top 99
theorem S__law_parts : FnScope ["p","script","parts","k","one","other"] ["p","script"] (defScope s__law_parts):=⟨rfl,rfl,rfl,by decide +kernel,rfl,by decide +kernel,by decide +kernel⟩
abbrev s__law_pair : Stmt:=top 100
theorem S__law_pair : FnScope ["word","rest","sign","deep","figures","one"] ["word"] (defScope s__law_pair):=⟨rfl,rfl,rfl,by decide +kernel,rfl,by decide +kernel,by decide +kernel⟩
abbrev s__law_balls : Stmt:=top 101
theorem S__law_balls : FnScope ["desk","deep","answer"] ["desk","deep"] (defScope s__law_balls):=⟨rfl,rfl,rfl,by decide +kernel,rfl,by decide +kernel,by decide +kernel⟩
abbrev s__law_power : Stmt:=top 102
theorem S__law_power : FnScope ["p","e","found","k"] ["p","e"] (defScope s__law_power):=⟨rfl,rfl,rfl,by decide +kernel,rfl,by decide +kernel,by decide +kernel⟩
abbrev s__law_apart : Stmt:=top 103
theorem S__law_apart : FnScope ["p","balls","deep","rests","ups","k","a","e","up","b","d"] ["p","balls","deep"] (defScope s__law_apart):=⟨rfl,rfl,rfl,by decide +kernel,rfl,by decide +kernel,by decide +kernel⟩
abbrev s__law_worth : Stmt:=top 104
theorem S__law_worth : FnScope ["f","x","total","number"] ["f","x"] (defScope s__law_worth):=⟨rfl,rfl,rfl,by decide +kernel,rfl,by decide +kernel,by decide +kernel⟩
abbrev s__law_deep : Stmt:=top 105
theorem S__law_deep : FnScope ["script","p","cell"] ["script","p"] (defScope s__law_deep):=⟨rfl,rfl,rfl,by decide +kernel,rfl,by decide +kernel,by decide +kernel⟩
abbrev s__law_numbers : Stmt:=top 106
theorem S__law_numbers : FnScope ["script","p","parts","balls","found","k","cell","number","step"] ["script","p","parts","balls"] (defScope s__law_numbers):=⟨rfl,rfl,rfl,by decide +kernel,rfl,by decide +kernel,by decide +kernel⟩
abbrev s_law : Stmt:=top 107
theorem S_law : FnScope ["script","p","parts","f","part","deep","desk","balls","more","whole","x","inside","b","d"] ["script"] (defScope s_law):=⟨rfl,rfl,rfl,by decide +kernel,rfl,by decide +kernel,by decide +kernel⟩
structure Bi (mg : Str → Option Value) (K : PySem.W.Frag) (w : World) : Prop where
  kd_WANTED : KDict K w 419 l_WANTED
  gd_WANTED : mg "WANTED" = some (.ref 419)
  kd_MADE : KDict K w 546 l_MADE
  gd_MADE : mg "MADE" = some (.ref 546)
  kd_TOLD : KDict K w 547 l_TOLD
  gd_TOLD : mg "TOLD" = some (.ref 547)
  tu_420 : KTup K 420 [.str "new",.str "poly"]
  tu_427 : KTup K 427 [.str "name",.str "depth"]
  tu_428 : KTup K 428 [.str "name",.str "depth"]
  fa_made_poly : mg "made_poly" = some (.ref 469)
  fa_told_solve : mg "told_solve" = some (.ref 502)
  fa_told_count : mg "told_count" = some (.ref 509)
  cl_Desk : Cls K (clK K "Desk")
  na_prime : NoAttr K (clK K "Desk") "prime"
  na_kept : NoAttr K (clK K "Desk") "kept"
  b_abs : mg "abs" = none
  b_all : mg "all" = none
  b_bool : mg "bool" = none
  b_enumerate : mg "enumerate" = none
  b_int : mg "int" = none
  b_isinstance : mg "isinstance" = none
  b_len : mg "len" = none
  b_list : mg "list" = none
  b_max : mg "max" = none
  b_min : mg "min" = none
  b_range : mg "range" = none
  b_reversed : mg "reversed" = none
  b_sorted : mg "sorted" = none
  b_str : mg "str" = none
  b_sum : mg "sum" = none
  b_zip : mg "zip" = none
  g_FIGURES : ∃ t,mg "FIGURES" = some (.str "0123456789" t)
  g_GREATEST_DEPTH : ∃ t,mg "GREATEST_DEPTH" = some (.int 60 t)
  g_GREATEST_PRIME : ∃ t,mg "GREATEST_PRIME" = some (.int 97 t)
  g_LETTERS : ∃ t,mg "LETTERS" = some (.str "abcdefghijklmnopqrstuvwxyz" t)
  g_MOST_FIGURES : ∃ t,mg "MOST_FIGURES" = some (.int 60 t)
  g_MOST_LETTERS : ∃ t,mg "MOST_LETTERS" = some (.int 8 t)
  g_MOST_NUMBERS : ∃ t,mg "MOST_NUMBERS" = some (.int 13 t)
  c_Desk : mg "Desk" = some (.ref (clK K "Desk"))
  c_NoDepth : mg "NoDepth" = some (.ref (clK K "NoDepth"))
  c_NoInverse : mg "NoInverse" = some (.ref (clK K "NoInverse"))
  c_NoName : mg "NoName" = some (.ref (clK K "NoName"))
  c_NoParts : mg "NoParts" = some (.ref (clK K "NoParts"))
  c_NoPrime : mg "NoPrime" = some (.ref (clK K "NoPrime"))
  c_NoRow : mg "NoRow" = some (.ref (clK K "NoRow"))
  c_NoSingle : mg "NoSingle" = some (.ref (clK K "NoSingle"))
  c_NoSmall : mg "NoSmall" = some (.ref (clK K "NoSmall"))
  c_NoText : mg "NoText" = some (.ref (clK K "NoText"))
  c_TooDeep : mg "TooDeep" = some (.ref (clK K "TooDeep"))
  c_TooGreat : mg "TooGreat" = some (.ref (clK K "TooGreat"))
  x_NoDepth : ExcK K (clK K "NoDepth")
variable {P : Program} {w : World} {K : PySem.W.Frag} {mg : Str → Option Value} {base : Heap} {f : Addr} {fd : FuncData}
theorem log_small {p : Int} (h : 2 ≤ p ∧ p < 1000) : CDivW 0 p:=⟨by omega,by
  have h1 : p.natAbs < 1000:=by omega
  have h2 : p.natAbs.log2 < 10:=(Nat.log2_lt (by omega)).mpr (Nat.lt_trans h1 (by decide))
  omega⟩
theorem atI_ints {ns : List Int} {i : Int} (h0 : 0 ≤ i) (h1 : i < (ns.length : Int)) : atI (ns.map V.int) i = some (.int (ns.getD i.toNat 0)):=by
  have hk : i.toNat < ns.length:=by omega
  have ek : i = ((i.toNat : Nat) : Int):=by omega
  have g : atI (ns.map V.int) ((i.toNat : Nat) : Int) = some (.int (ns.getD i.toNat 0)):=atI_nat (by rw [List.getElem?_map,List.getElem?_eq_getElem hk,List.getD_eq_getElem?_getD,List.getElem?_eq_getElem hk]; rfl)
  rw [← ek] at g
  exact g
theorem getD_in {ns : List Int} {i : Int} (h0 : 0 ≤ i) (h1 : i < (ns.length : Int)) : ns.getD i.toNat 0 ∈ ns:=by
  rw [List.getD_eq_getElem?_getD,List.getElem?_eq_getElem (by omega)]
  exact List.getElem_mem _
theorem mod_in (x : Int) {m : Int} (h : 0 < m) : 0 ≤ x % m ∧ x % m < m:=⟨Int.emod_nonneg x (by omega),Int.emod_lt_of_pos x h⟩
theorem pow_bits {p : Int} (hp : 2 ≤ p ∧ p < 1000) (n : Nat) : (p ^ n).natAbs < 2 ^ (10 * n + 1):=by
  have h1 : p ^ n ≤ 1024 ^ n:=int_pow_le (by omega) (by omega) _
  have h2 : (1024 : Int) ^ n = ((2 ^ (10 * n) : Nat) : Int):=by
    rw [Nat.pow_mul]
    simp
  have h3:=Dr.pow_pos hp.1 n
  rw [Nat.pow_succ]
  omega
theorem us1 {us : List Value} (h : us.length = 1) : ∃ a0,us = [a0]:=List.length_eq_one_iff.mp h
theorem us2 : ∀ {us : List Value},us.length = 2 → ∃ a0 a1,us = [a0,a1]
  | [],h=>(by cases h)
  | a0 :: r,h=>by
    obtain ⟨a1,rfl⟩:=us1 (us:=r) (by simpa using h)
    exact ⟨a0,a1,rfl⟩
theorem us3 : ∀ {us : List Value},us.length = 3 → ∃ a0 a1 a2,us = [a0,a1,a2]
  | [],h=>(by cases h)
  | a0 :: r,h=>by
    obtain ⟨a1,a2,rfl⟩:=us2 (us:=r) (by simpa using h)
    exact ⟨a0,a1,a2,rfl⟩
theorem us4 : ∀ {us : List Value},us.length = 4 → ∃ a0 a1 a2 a3,us = [a0,a1,a2,a3]
  | [],h=>(by cases h)
  | a0 :: r,h=>by
    obtain ⟨a1,a2,a3,rfl⟩:=us3 (us:=r) (by simpa using h)
    exact ⟨a0,a1,a2,a3,rfl⟩
theorem us5 : ∀ {us : List Value},us.length = 5 → ∃ a0 a1 a2 a3 a4,us = [a0,a1,a2,a3,a4]
  | [],h=>(by cases h)
  | a0 :: r,h=>by
    obtain ⟨a1,a2,a3,a4,rfl⟩:=us4 (us:=r) (by simpa using h)
    exact ⟨a0,a1,a2,a3,a4,rfl⟩
def sp_is_made_of (_ : PySem.W.Frag) : Sp:=fun vs H Q _=>∃ z y : Str,vs = [.str z,.str y] ∧ z.length ≤ 2000 ∧ ∀ (b : Bool) (H' : Hp),Same H H' → (b = true ↔ ∀ c,c ∈ z.cps.toList → c ∈ y.cps.toList) → Q (.bl b) H'
theorem take_next {α : Type} {l : List α} {i : Nat} {c : α} (h : l[i]? = some c) : l.take (i + 1) = l.take i ++ [c]:=by
  rw [List.take_add_one,h]
  rfl
theorem strs_at {l : List Str} {i : Nat} {x : V} (h : (l.map V.str)[i]? = some x) : ∃ w,l[i]? = some w ∧ x = .str w:=by
  rw [List.getElem?_map] at h
  cases e : l[i]? with
  | none=>rw [e] at h; cases h
  | some w=>
    rw [e] at h
    exact ⟨w,rfl,(Option.some.inj h).symm⟩
theorem none_of {H H' : Hp} {l : Addr} (g : Same H H') (n : H' l = none) : H l = none:=by
  cases e : H l with
  | none=>rfl
  | some o=>
    have:=g _ _ e
    rw [n] at this
    cases this
theorem newS {H : Hp} {l : Addr} {o : _} (n : H l = none) : Same H (upd H l o):=(newH rfl n).1
theorem figure_in {c : Nat} : decide (c ∈ (Str.ofString "0123456789").cps.toList) = decide (48 ≤ c ∧ c ≤ 57):=by
  rw [show (Str.ofString "0123456789").cps.toList = [48,49,50,51,52,53,54,55,56,57] by decide +kernel]
  rw [decide_eq_decide]
  simp only [List.mem_cons,List.not_mem_nil,or_false]
  omega
local macro_rules | `(tactic| walk_at "dr1")=>`(tactic| simp only [tSeq,tNext,tRet,tRetN,tDrop,tIfS,tIf,tTest,tB,tAnd,tOr,tNot,tAndV,tOrV,tNotV,tAsg,gName,gTup,gLst,gCons,gNil,tPar,tAug,tVar,tC,tOp,tUn,rI,rI0,rU,rEq,rNe,rAdd,rSub,ipI,tCons,tNil,tTup,tLst,tCall,tCB,tSl,tNoPart,tPart,gSub,tAugS,rGetL,iEnum,tSlK,tListRng,rExtend,rClear,iZip,tDNewT,tDGet,tDGet2,sDPut,iDict,rSlL,rSlT,rIxL,rIxT,rSetL,rIn,tBM,tBM0,rAppend,rCat,rRep,tNever,tRaise,tTry,tTryAs,Ends.gone,tCallX,cx_K,cc_K,w_tyl,Int.reduceLT,Int.reduceLE,Nat.reduceLT,Nat.reduceLeDiff,tChain,w_for,w_comp,w_comp2,capV,Option.getD_some,iRng1,iRng2,iRng3,iList,iTup,iRev,tListRev,L2.start,sc_ii,sc_bb,sc_in,sc_ni,sc_ss,sc_nn,sc_bn,sc_is,isv_int_int,isv_int_bool,isv_int_str,isv_int_list,isv_int_tuple,isv_int_dict,isv_bool_int,isv_bool_bool,isv_bool_str,isv_bool_list,isv_bool_tuple,isv_bool_dict,isv_NoneType_int,isv_NoneType_bool,isv_NoneType_str,isv_NoneType_list,isv_NoneType_tuple,isv_NoneType_dict,isv_str_int,isv_str_bool,isv_str_str,isv_str_list,isv_str_tuple,isv_str_dict,iso_list_int,iso_list_bool,iso_list_str,iso_list_list,iso_list_tuple,iso_list_dict,iso_tuple_int,iso_tuple_bool,iso_tuple_str,iso_tuple_list,iso_tuple_tuple,iso_tuple_dict,iso_dict_int,iso_dict_bool,iso_dict_str,iso_dict_list,iso_dict_tuple,iso_dict_dict,isCls,clsV,List.getElem?_cons_zero,List.getElem?_cons_succ,List.set_cons_zero,List.set_cons_succ,List.map_cons,List.map_nil,List.cons_append,List.nil_append,List.append_nil,List.replicate_succ,List.replicate_zero,List.length_cons,List.length_nil,Option.some.injEq,exists_eq,exists_eq',exists_eq_left,exists_eq_left',exists_and_left,exists_and_right,List.cons.injEq,V.int.injEq,V.bl.injEq,V.ref.injEq,V.str.injEq,V.ty.injEq,reduceCtorEq,and_true,true_and,and_assoc,false_and,and_false,or_false,false_or,exists_false,decide_eq_true_eq,Bool.not_eq_true',decide_eq_false_iff_not,Bool.not_eq_false',Bool.not_eq_true,Bool.false_eq_true,Bool.true_eq_false,ite_true,ite_false,if_true,if_false,Bool.not_true,Bool.not_false,Bool.true_eq,Bool.or_true,Bool.or_false,Bool.true_or,Bool.false_or,Bool.and_true,Bool.and_false,beq_self_eq_true,decide_true,decide_false,eq_self_iff_true,not_true_eq_false,not_false_eq_true,tKGet,tKIn,tKNot,tCallV,tMeth,tMethX,tMake,tFld,sFld,tDIn,tDNotIn,tDNewK,iZipT,iRngD,tFmt])
theorem ok_is_made_of (B : Bi mg K w) (F : Fun K "is_made_of" "is_made_of" s_is_made_of f fd) : FnOk P w K mg base CX0 1 f fd ["text","signs"] (sp_is_made_of K):=by
  refine F.ok S_is_made_of (fun vs H Q E h=>?_) (fun cdv A outer s H vs Q E hr h=>?_)
  · obtain ⟨z,y,rfl,_⟩:=h
    rfl
  obtain ⟨z,y,rfl,hz,q⟩:=h
  have S:=S_is_made_of
  refine ⟨_,((pss_one (ps_ret (pe_callB (call_allB rfl) rfl B.b_all bt_all (pa_cons (pe_comp [1] ["signs"] rfl rfl ⟨rfl,trivial⟩ ⟨rfl,rfl,rfl,rfl,trivial⟩ rfl rfl (by decide) (by decide) rfl rfl (by decide) (pi_str (pv 0)) (fun _ _ _ _=>pts_nil) (fun _ _ _ _=>(pe_cmpR op_in_str (pv 0) (pv 1) rfl))) pa_nil))))),?_⟩
  (first | refine hX _ _ ?_ | skip); (try dsimp only); try walk_at "dr1"; (try simp only [iStr]); try walk_at "dr1"
  obtain ⟨Pv,hPv⟩ : ∃ Pv : Nat → List V → Hp → Prop,∀ i ys H',Pv i ys H' ↔ (H' = H ∧ ys = (((z.cps.toList.take i).map fun c=>decide (c ∈ y.cps.toList)).map V.bl)):=⟨_,fun _ _ _=>Iff.rfl⟩
  have hz' : z.cps.toList.length ≤ 2000:=by simpa [Str.length] using hz
  refine compS z Pv (Nat.le_trans hz' (by decide)) ((hPv _ _ _).mpr ⟨rfl,by simp⟩) (fun i c ys H2 hc p=>?_) (fun ys H2 p l n_l=>?_)
  · obtain ⟨rfl,rfl⟩:=(hPv _ _ _).mp p
    (first | refine hX _ _ ?_ | skip); (try dsimp only); try walk_at "dr1"
    refine (hPv _ _ _).mpr ⟨rfl,?_⟩
    rw [StrLaws.found_one,take_next hc,List.map_append,List.map_append]
    rfl
  · obtain ⟨rfl,rfl⟩:=(hPv _ _ _).mp p
    refine ⟨l,rfl,_,SqL.of upd_same,?_⟩
    refine q _ _ (newS n_l) ?_
    rw [List.take_length,List.all_map,List.all_eq_true]
    simp
def sp_is_written_number (_ : PySem.W.Frag) : Sp:=fun vs H Q _=>∃ z : Str,vs = [.str z] ∧ z.length ≤ 2000 ∧ ∀ (b : Bool) (H' : Hp),Same H H' → (b = true ↔ Tx.Wr z.cps.toList) → Q (.bl b) H'
local macro_rules | `(tactic| walk_at "dr2")=>`(tactic| simp only [tNext,tRet,tRetN,tDrop,tIfS,tIf,tTest,tB,tAnd,tOr,tNot,tAndV,tOrV,tNotV,tAsg,gName,gTup,gLst,gCons,gNil,tPar,tAug,tVar,tC,tOp,tUn,rI,rI0,rU,rEq,rNe,rAdd,rSub,ipI,tCons,tNil,tTup,tLst,tCall,tCB,tSl,tNoPart,tPart,gSub,tAugS,rGetL,iEnum,tSlK,tListRng,rExtend,rClear,iZip,tDNewT,tDGet,tDGet2,sDPut,iDict,rSlL,rSlT,rIxL,rIxT,rSetL,rIn,tBM,tBM0,rAppend,rCat,rRep,tNever,tRaise,tTry,tTryAs,Ends.gone,tCallX,cx_K,cc_K,w_tyl,Int.reduceLT,Int.reduceLE,Nat.reduceLT,Nat.reduceLeDiff,tChain,w_for,w_comp,w_comp2,capV,Option.getD_some,iRng1,iRng2,iRng3,iList,iTup,iRev,tListRev,L2.start,sc_ii,sc_bb,sc_in,sc_ni,sc_ss,sc_nn,sc_bn,sc_is,isv_int_int,isv_int_bool,isv_int_str,isv_int_list,isv_int_tuple,isv_int_dict,isv_bool_int,isv_bool_bool,isv_bool_str,isv_bool_list,isv_bool_tuple,isv_bool_dict,isv_NoneType_int,isv_NoneType_bool,isv_NoneType_str,isv_NoneType_list,isv_NoneType_tuple,isv_NoneType_dict,isv_str_int,isv_str_bool,isv_str_str,isv_str_list,isv_str_tuple,isv_str_dict,iso_list_int,iso_list_bool,iso_list_str,iso_list_list,iso_list_tuple,iso_list_dict,iso_tuple_int,iso_tuple_bool,iso_tuple_str,iso_tuple_list,iso_tuple_tuple,iso_tuple_dict,iso_dict_int,iso_dict_bool,iso_dict_str,iso_dict_list,iso_dict_tuple,iso_dict_dict,isCls,clsV,List.getElem?_cons_zero,List.getElem?_cons_succ,List.set_cons_zero,List.set_cons_succ,List.map_cons,List.map_nil,List.cons_append,List.nil_append,List.append_nil,List.replicate_succ,List.replicate_zero,List.length_cons,List.length_nil,Option.some.injEq,exists_eq,exists_eq',exists_eq_left,exists_eq_left',exists_and_left,exists_and_right,List.cons.injEq,V.int.injEq,V.bl.injEq,V.ref.injEq,V.str.injEq,V.ty.injEq,reduceCtorEq,and_true,true_and,and_assoc,false_and,and_false,or_false,false_or,exists_false,decide_eq_true_eq,Bool.not_eq_true',decide_eq_false_iff_not,Bool.not_eq_false',Bool.not_eq_true,Bool.false_eq_true,Bool.true_eq_false,ite_true,ite_false,if_true,if_false,Bool.not_true,Bool.not_false,Bool.true_eq,Bool.or_true,Bool.or_false,Bool.true_or,Bool.false_or,Bool.and_true,Bool.and_false,beq_self_eq_true,decide_true,decide_false,eq_self_iff_true,not_true_eq_false,not_false_eq_true,tKGet,tKIn,tKNot,tCallV,tMeth,tMethX,tMake,tFld,sFld,tDIn,tDNotIn,tDNewK,iZipT,iRngD,tFmt])
theorem ok_is_written_number (B : Bi mg K w) (d_is_made_of : Def P w K mg base "is_made_of" 1 ["text","signs"] (sp_is_made_of K)) (F : Fun K "is_written_number" "is_written_number" s_is_written_number f fd) : FnOk P w K mg base CX0 2 f fd ["text"] (sp_is_written_number K):=by
  refine F.ok S_is_written_number (fun vs H Q E h=>?_) (fun cdv A outer s H vs Q E hr h=>?_)
  · obtain ⟨z,rfl,_⟩:=h
    rfl
  obtain ⟨z,rfl,hz,q⟩:=h
  have S:=S_is_written_number
  obtain ⟨t1,g_FIGURES⟩:=B.g_FIGURES
  obtain ⟨t2,g_MOST_FIGURES⟩:=B.g_MOST_FIGURES
  refine ⟨_,((pss_cons (ps_set (i:=1) S.nd rfl (Or.inl rfl) (pe_bm PySem.F.plainAttrs_str PySem.F.slot_str_startswith PySem.F.type_str_startswith mt_starts (pv 0) (pa_cons pe_str pa_nil)))
    (pss_cons (ps_join (ps_set (i:=2) S.nd rfl (Or.inl rfl) (pe_ifExp (pt_val (pv 1)) (pe_slice sl_str (pv 0) (po_some pe_int) po_none) (pv 0))))
    (pss_cons (ps_if (PW.pt (pw_or (pt_cmpR op_lt (pe_callB call_len_str rfl B.b_len PySem.boot_len (pa_cons (pv 2) pa_nil)) pe_int (nomark _)) (pw_or (pt_cmpR op_gt (pe_callB call_len_str rfl B.b_len PySem.boot_len (pa_cons (pv 2) pa_nil)) (pe_glob (v:=.int 60) rfl g_MOST_FIGURES ⟨_,rfl⟩) (nomark _)) (pw_or1 (pt_not (pt_val (pe_def d_is_made_of hr rfl (pa_cons (pv 2) (pa_cons (pe_glob (v:=.str "0123456789") rfl g_FIGURES ⟨_,rfl⟩) pa_nil))))))))) (pss_one (ps_ret pe_bl)) pss_nil)
    (pss_cons (ps_if (pt_cmpR op_eq (pv 2) pe_str (nomark _)) (pss_one (ps_ret (pe_not (pv 1)))) pss_nil)
    (pss_one (ps_ret (pe_not (pe_bm PySem.F.plainAttrs_str PySem.F.slot_str_startswith PySem.F.type_str_startswith mt_starts (pv 2) (pa_cons pe_str pa_nil)))))))))),?_⟩
  (try dsimp only); (first | refine hX _ _ ?_ | skip); (try dsimp only); (first | refine seqX (fun X hX=>?_) | skip); try walk_at "dr2"; (try simp only [sp_is_made_of]); try walk_at "dr2"
  refine ⟨rfl,z,_,rfl,rfl,?_⟩
  rw [Tx.starts_minus]
  have hz':=Tx.len_list z
  obtain ⟨R,hR⟩ : ∃ R : St → Hp → Prop,∀ σ' H2,R σ' H2 ↔ (∃ y : Str,y.cps.toList = Tx.figs z.cps.toList ∧ H2 = H ∧ σ' = [some (.str z),some (.bl (Tx.neg z.cps.toList)),some (.str y)]):=⟨_,fun _ _=>Iff.rfl⟩
  dsimp only
  (first | refine hX _ _ ?_ | skip); refine seqI ?_
  (first | refine hX _ _ ?_ | skip); refine joinB R ?_ ?_
  · (first | refine hX _ _ ?_ | skip); (try dsimp only); try walk_at "dr1"; (try simp only [sp_is_made_of]); try walk_at "dr1"
    cases hn : Tx.neg z.cps.toList with
    | true=>
      rw [if_pos rfl]
      have e:=Tx.figs_of_neg hn
      have l1 : 1 ≤ z.length:=by rw [hz',e]; simp
      refine ⟨z,rfl,Nat.le_trans hz (by decide),(hR _ _).mpr ⟨_,?_,rfl,by rw [hn]⟩⟩
      rw [Tx.sl_from (by decide) (by omega),e]
      rfl
    | false=>
      rw [if_neg (by decide)]
      exact (hR _ _).mpr ⟨z,(Tx.figs_of_not hn).symm,rfl,by rw [hn]⟩
  intro σ' H2 w0
  obtain ⟨y,hy,rfl,rfl⟩:=(hR _ _).mp w0
  clear hR w0
  have hyl : y.length ≤ 2000:=by
    rw [Tx.len_list,hy]
    rw [hz'] at hz
    cases hn : Tx.neg z.cps.toList with
    | true=>
      rw [Tx.figs_of_neg hn] at hz
      simp only [List.length_cons] at hz
      omega
    | false=>rw [Tx.figs_of_not hn]; exact hz
  have hyn:=Tx.len_list y
  rw [hy] at hyn
  (try dsimp only); (first | refine hX _ _ ?_ | skip); (try dsimp only); (first | refine seqX (fun X hX=>?_) | skip); try walk_at "dr2"; (try simp only [sp_is_made_of]); try walk_at "dr2"
  refine ⟨Nat.le_trans hyl (by decide),ite2 (fun c1=>q false _ (Same.refl _) ⟨nofun,fun w=>absurd w.one (by omega)⟩) (fun c1=>⟨Nat.le_trans hyl (by decide),ite2 (fun c2=>q false _ (Same.refl _) ⟨nofun,fun w=>absurd w.most (by omega)⟩) (fun c2=>⟨hyl,fun b H' g hb0=>?_⟩)⟩)⟩
  rw [hy] at hb0
  have hb : b = true ↔ ∀ c,c ∈ Tx.figs z.cps.toList → 48 ≤ c ∧ c ≤ 57:=hb0.trans (forall_congr' fun c=>imp_congr_right fun _=>by have:=figure_in (c:=c); rwa [decide_eq_decide] at this)
  cases b with
  | false=>exact q false _ g ⟨nofun,fun w=>absurd (hb.mpr w.all) (by decide)⟩
  | true=>
    rw [if_neg (by decide)]
    have hall:=hb.mp rfl
    (first | refine hX _ _ ?_ | skip); (try dsimp only); try walk_at "dr1"; (try simp only [sp_is_made_of,rStarts,w_tys]); try walk_at "dr1"
    refine ite2 (fun c3=>q _ _ g ?_) (fun c3=>q _ _ g ?_)
    · have e : Tx.figs z.cps.toList = [48]:=by rw [← hy,c3,Tx.nought]
      constructor
      · intro hn
        refine ⟨by omega,by omega,hall,fun r hr=>?_⟩
        rw [e] at hr
        cases hr
        exact ⟨rfl,by simpa using hn⟩
      · intro w
        rw [(w.head [] e).2]
        rfl
    · rw [Tx.nought,Tx.starts_one,hy]
      constructor
      · intro hn
        refine ⟨by omega,by omega,hall,fun r hr=>?_⟩
        rw [hr] at hn
        simp at hn
      · intro w
        have : (Tx.figs z.cps.toList).head? ≠ some 48:=fun hh=>by
          cases hf : Tx.figs z.cps.toList with
          | nil=>rw [hf] at hh; cases hh
          | cons a r=>
            rw [hf] at hh
            cases hh
            have:=(w.head r hf).1
            subst this
            exact c3 (Tx.ext (by rw [hy,hf,Tx.nought]))
        simpa using this
def sp_read_number (_ : PySem.W.Frag) : Sp:=fun vs H Q _=>∃ z : Str,vs = [.str z] ∧ Tx.Wr z.cps.toList ∧ ∀ H',Same H H' → Q (.int (Tx.valOf z.cps.toList)) H'
theorem ok_read_number (B : Bi mg K w) (d_is_written_number : Def P w K mg base "is_written_number" 2 ["text"] (sp_is_written_number K)) (F : Fun K "read_number" "read_number" s_read_number f fd) : FnOk P w K mg base CX0 3 f fd ["text"] (sp_read_number K):=by
  refine F.ok S_read_number (fun vs H Q E h=>?_) (fun cdv A outer s H vs Q E hr h=>?_)
  · obtain ⟨z,rfl,_⟩:=h
    rfl
  obtain ⟨z,rfl,hw,q⟩:=h
  have S:=S_read_number
  have wl:=hw.len
  refine ⟨_,((pss_cons (ps_if (PW.pt (pw_or (pt_not (pt_val (pe_callB call_isiS rfl B.b_isinstance L2.bt_isinstance (pa_cons (pv 0) (pa_cons (pe_bltn (v:=.ty "str") rfl B.b_str L2.bt_str rfl) pa_nil))))) (pw_or1 (pt_not (pt_val (pe_def d_is_written_number hr rfl (pa_cons (pv 0) pa_nil))))))) (pss_one ps_never) pss_nil)
    (pss_one (ps_ret (pe_callTy call_intS rfl B.b_int L2.bt_int (pa_cons (pv 0) pa_nil)))))),?_⟩
  (first | refine hX _ _ ?_ | skip); (try dsimp only); try walk_at "dr1"; (try simp only [sp_is_written_number,rIntS]); try walk_at "dr1"
  refine ⟨by omega,fun b H' g hb=>?_⟩
  cases b with
  | false=>exact absurd (hb.mpr hw) (by decide)
  | true=>
    rw [if_neg (by decide)]
    exact ⟨_,hw.reads,by omega,q H' g⟩
def sp_read_poly (_ : PySem.W.Frag) : Sp:=fun vs H Q _=>∃ (z : Str) (ms : List Int),vs = [.str z] ∧ z.length ≤ 2000 ∧ Tx.poly z = some ms ∧ ∀ c H',Same H H' → H c = none → H' c = some (.lst (ms.map V.int)) → Q (.ref c) H'
theorem ok_read_poly (B : Bi mg K w) (d_read_number : Def P w K mg base "read_number" 3 ["text"] (sp_read_number K)) (F : Fun K "read_poly" "read_poly" s_read_poly f fd) : FnOk P w K mg base CX0 4 f fd ["text"] (sp_read_poly K):=by
  refine F.ok S_read_poly (fun vs H Q E h=>?_) (fun cdv A outer s H vs Q E hr h=>?_)
  · obtain ⟨z,ms,rfl,_⟩:=h
    rfl
  obtain ⟨z,ms,rfl,hz,hp,q⟩:=h
  have S:=S_read_poly
  obtain ⟨t1,g_MOST_NUMBERS⟩:=B.g_MOST_NUMBERS
  obtain ⟨w13,wall,wms⟩:=Tx.poly_some hp
  refine ⟨_,((pss_cons (ps_if (pt_not (pt_val (pe_callB call_isiS rfl B.b_isinstance L2.bt_isinstance (pa_cons (pv 0) (pa_cons (pe_bltn (v:=.ty "str") rfl B.b_str L2.bt_str rfl) pa_nil))))) (pss_one ps_never) pss_nil)
    (pss_cons (ps_set (i:=1) S.nd rfl (Or.inl rfl) (pe_bm PySem.F.plainAttrs_str PySem.F.slot_str_split PySem.F.type_str_split mt_split (pv 0) (pa_cons pe_str pa_nil)))
    (pss_cons (ps_if (pt_cmpR op_gt (pe_callB call_len_seq rfl B.b_len PySem.boot_len (pa_cons (pv 1) pa_nil)) (pe_glob (v:=.int 13) rfl g_MOST_NUMBERS ⟨_,rfl⟩) (nomark _)) (pss_one ps_never) pss_nil)
    (pss_one (ps_ret (pe_comp [] [] rfl rfl trivial trivial rfl rfl (by decide) (by decide) rfl rfl (by decide) (pi_list (pv 1)) (fun _ _ _ _=>pts_nil) (fun _ _ _ _=>(pe_def d_read_number hr rfl (pa_cons (pv 0) pa_nil)))))))))),?_⟩
  (try dsimp only); (first | refine hX _ _ ?_ | skip); (try dsimp only); (first | refine seqX (fun X hX=>?_) | skip); try walk_at "dr2"; (try simp only [sp_read_number]); try walk_at "dr2"
  (try dsimp only); (first | refine hX _ _ ?_ | skip); (try dsimp only); (first | refine seqX (fun X hX=>?_) | skip); try walk_at "dr2"; (try simp only [sp_read_number]); try walk_at "dr2"
  refine ⟨rfl,z,_,rfl,rfl,by decide +kernel,Nat.le_trans (Nat.add_le_add_right hz 2) (by decide),?_⟩
  intro l1 n_l1; generalize e_l1 : upd _ l1 _ = H1; obtain ⟨g1,k1⟩:=newH e_l1 n_l1; clear e_l1
  have k1 : H1 l1 = some (.lst ((Tx.words z).map V.str)):=k1
  (try dsimp only); (first | refine hX _ _ ?_ | skip); (try dsimp only); (first | refine seqX (fun X hX=>?_) | skip); try walk_at "dr2"; (try simp only [sp_read_number]); try walk_at "dr2"
  refine ⟨_,.inl (SqL.of k1),ite2 (fun c=>?_) (fun c=>?_)⟩
  · rw [List.length_map] at c
    omega
  (first | refine hX _ _ ?_ | skip); (try dsimp only); try walk_at "dr1"; (try simp only [sp_read_number]); try walk_at "dr1"
  obtain ⟨Pv,hPv⟩ : ∃ Pv : Nat → List V → Hp → Prop,∀ i ys H',Pv i ys H' ↔ (Same H1 H' ∧ ys = ((((Tx.words z).take i).map fun w=>Tx.valOf w.cps.toList).map V.int)):=⟨_,fun _ _ _=>Iff.rfl⟩
  refine ⟨⟨_,SqL.of k1⟩,?_⟩
  (first | refine hX _ _ ?_ | skip); refine compL ((Tx.words z).map V.str) Pv (by rw [List.length_map]; exact Nat.le_trans w13 (by decide)) ((hPv _ _ _).mpr ⟨Same.refl _,rfl⟩) (fun i ys H2 p=>?_) (fun i x ys H2 hx p=>?_) (fun ys H2 p l n_l=>?_)
  · exact SqL.of (((hPv _ _ _).mp p).1 _ _ k1)
  · obtain ⟨g2,rfl⟩:=(hPv _ _ _).mp p
    obtain ⟨w,hw',rfl⟩:=strs_at hx
    (first | refine hX _ _ ?_ | skip); (try dsimp only); try walk_at "dr1"; (try simp only [sp_read_number]); try walk_at "dr1"
    refine ⟨wall w (List.mem_of_getElem? hw'),fun H3 g3=>(hPv _ _ _).mpr ⟨g2.trans g3,?_⟩⟩
    rw [take_next hw',List.map_append,List.map_append]
    rfl
  · rw [List.length_map] at p
    obtain ⟨g2,rfl⟩:=(hPv _ _ _).mp p
    rw [List.take_length,← wms]
    exact q l _ (g1.trans (g2.trans (newS n_l))) (none_of (g1.trans g2) n_l) upd_same
def sp_words_of (K : PySem.W.Frag) : Sp:=fun vs H Q _=>∃ (z w0 : Str) (ws : List Str) (a : Addr) (xs : List V),vs = [.str z] ∧ z.length ≤ 2000 ∧ Txt.split z (Str.ofString " ") = w0 :: ws ∧ atK l_WANTED w0 = some (.ref a) ∧ KTup K a xs ∧ xs.length = ws.length ∧ ∀ l H',Same H H' → H l = none → H' l = some (.lst ((w0 :: ws).map V.str)) → Q (.ref l) H'
theorem ok_words_of (B : Bi mg K w) (F : Fun K "words_of" "words_of" s_words_of f fd) : FnOk P w K mg base CX0 1 f fd ["row"] (sp_words_of K):=by
  refine F.ok S_words_of (fun vs H Q E h=>?_) (fun cdv A outer s H vs Q E hr h=>?_)
  · obtain ⟨z,w0,ws,a,xs,rfl,_⟩:=h
    rfl
  obtain ⟨z,w0,ws,a,xs,rfl,hz,hsp,hat,htu,hlen,q⟩:=h
  have S:=S_words_of
  refine ⟨_,((pss_cons (ps_if (pt_not (pt_val (pe_callB call_isiS rfl B.b_isinstance L2.bt_isinstance (pa_cons (pv 0) (pa_cons (pe_bltn (v:=.ty "str") rfl B.b_str L2.bt_str rfl) pa_nil))))) (pss_one ps_never) pss_nil)
    (pss_cons (ps_set (i:=1) S.nd rfl (Or.inl rfl) (pe_bm PySem.F.plainAttrs_str PySem.F.slot_str_split PySem.F.type_str_split mt_split (pv 0) (pa_cons pe_str pa_nil)))
    (pss_cons (ps_if (PW.pt (pw_or (pt_cmp (pc_knot B.kd_WANTED rfl B.gd_WANTED (pe_ix ix_list (pv 1) pe_int (fun _ _=>rfl)))) (pw_or1 (pt_cmpR op_ne (pe_callB call_len_seq rfl B.b_len PySem.boot_len (pa_cons (pv 1) pa_nil)) (pe_op op_add (pe_callB call_len_seq rfl B.b_len PySem.boot_len (pa_cons (pe_kget B.kd_WANTED rfl B.gd_WANTED (pe_ix ix_list (pv 1) pe_int (fun _ _=>rfl)) (fun _ _=>rfl)) pa_nil)) pe_int) (nomark _))))) (pss_one ps_never) pss_nil)
    (pss_one (ps_ret (pv 1))))))),?_⟩
  (try dsimp only); (first | refine hX _ _ ?_ | skip); (try dsimp only); (first | refine seqX (fun X hX=>?_) | skip); try walk_at "dr2"
  (try dsimp only); (first | refine hX _ _ ?_ | skip); (try dsimp only); (first | refine seqX (fun X hX=>?_) | skip); try walk_at "dr2"
  refine ⟨rfl,z,_,rfl,rfl,by decide +kernel,Nat.le_trans (Nat.add_le_add_right hz 2) (by decide),?_⟩
  intro l1 n_l1; generalize e_l1 : upd _ l1 _ = H1; obtain ⟨g1,k1⟩:=newH e_l1 n_l1; clear e_l1
  have k1 : H1 l1 = some (.lst ((w0 :: ws).map V.str)):=by rw [k1,hsp]
  (try dsimp only); (first | refine hX _ _ ?_ | skip); (try dsimp only); (first | refine seqX (fun X hX=>?_) | skip); try walk_at "dr2"
  refine ⟨_,SqL.of k1,_,atI_nat (j:=0) rfl,w0,rfl,?_⟩
  rw [hat,if_neg (by intro z; cases z)]
  refine ⟨_,.inl (SqL.of k1),_,SqL.of k1,_,atI_nat (j:=0) rfl,w0,rfl,a,hat,_,.inr (htu.sq _),?_⟩
  rw [if_neg (fun n=>n (by rw [hlen,List.length_map,List.length_cons]; rfl))]
  (first | refine hX _ _ ?_ | skip); (try dsimp only); try walk_at "dr1"
  exact q l1 H1 g1 n_l1 k1
structure Nm (z : Str) : Prop where
  one : 1 ≤ z.length
  most : z.length ≤ 8
  all : ∀ c,c ∈ z.cps.toList → c ∈ (Str.ofString "abcdefghijklmnopqrstuvwxyz").cps.toList
def sp_read_name (_ : PySem.W.Frag) : Sp:=fun vs H Q _=>∃ z : Str,vs = [.str z] ∧ Nm z ∧ ∀ H',Same H H' → Q (.str z) H'
theorem ok_read_name (B : Bi mg K w) (d_is_made_of : Def P w K mg base "is_made_of" 1 ["text","signs"] (sp_is_made_of K)) (F : Fun K "read_name" "read_name" s_read_name f fd) : FnOk P w K mg base CX0 2 f fd ["word"] (sp_read_name K):=by
  refine F.ok S_read_name (fun vs H Q E h=>?_) (fun cdv A outer s H vs Q E hr h=>?_)
  · obtain ⟨z,rfl,_⟩:=h
    rfl
  obtain ⟨z,rfl,hn,q⟩:=h
  have S:=S_read_name
  obtain ⟨t1,g_LETTERS⟩:=B.g_LETTERS
  obtain ⟨t2,g_MOST_LETTERS⟩:=B.g_MOST_LETTERS
  have h1:=hn.one
  have h2:=hn.most
  refine ⟨_,((pss_cons (ps_if (PW.pt (pw_or (pt_cmpR op_lt (pe_callB call_len_str rfl B.b_len PySem.boot_len (pa_cons (pv 0) pa_nil)) pe_int (nomark _)) (pw_or (pt_cmpR op_gt (pe_callB call_len_str rfl B.b_len PySem.boot_len (pa_cons (pv 0) pa_nil)) (pe_glob (v:=.int 8) rfl g_MOST_LETTERS ⟨_,rfl⟩) (nomark _)) (pw_or1 (pt_not (pt_val (pe_def d_is_made_of hr rfl (pa_cons (pv 0) (pa_cons (pe_glob (v:=.str "abcdefghijklmnopqrstuvwxyz") rfl g_LETTERS ⟨_,rfl⟩) pa_nil))))))))) (pss_one ps_never) pss_nil)
    (pss_one (ps_ret (pv 0))))),?_⟩
  (try dsimp only); (first | refine hX _ _ ?_ | skip); (try dsimp only); (first | refine seqX (fun X hX=>?_) | skip); try walk_at "dr2"; (try simp only [sp_is_made_of]); try walk_at "dr2"
  refine ⟨Nat.le_trans h2 (by decide),ite2 (fun c=>by omega) (fun _=>⟨Nat.le_trans h2 (by decide),ite2 (fun c=>by omega) (fun _=>⟨by omega,fun b H' g hb=>?_⟩)⟩)⟩
  cases b with
  | false=>exact absurd (hb.mpr hn.all) (by decide)
  | true=>
    rw [if_neg (by decide)]
    (first | refine hX _ _ ?_ | skip); (try dsimp only); try walk_at "dr1"; (try simp only [sp_is_made_of]); try walk_at "dr1"
    exact q H' g
def sp_read_depth (_ : PySem.W.Frag) : Sp:=fun vs H Q _=>∃ z : Str,vs = [.str z] ∧ Tx.Wr z.cps.toList ∧ (0 ≤ Tx.valOf z.cps.toList ∧ Tx.valOf z.cps.toList ≤ 60) ∧ ∀ H',Same H H' → Q (.int (Tx.valOf z.cps.toList)) H'
theorem ok_read_depth (B : Bi mg K w) (d_read_number : Def P w K mg base "read_number" 3 ["text"] (sp_read_number K)) (F : Fun K "read_depth" "read_depth" s_read_depth f fd) : FnOk P w K mg base CX0 4 f fd ["word"] (sp_read_depth K):=by
  refine F.ok S_read_depth (fun vs H Q E h=>?_) (fun cdv A outer s H vs Q E hr h=>?_)
  · obtain ⟨z,rfl,_⟩:=h
    rfl
  obtain ⟨z,rfl,hw,hd,q⟩:=h
  have S:=S_read_depth
  obtain ⟨t1,g_GREATEST_DEPTH⟩:=B.g_GREATEST_DEPTH
  refine ⟨_,((pss_cons (ps_set (i:=1) S.nd rfl (Or.inl rfl) (pe_def d_read_number hr rfl (pa_cons (pv 0) pa_nil)))
    (pss_cons (ps_if (PW.pt (pw_or (pt_cmpR op_lt (pv 1) pe_int (nomark _)) (pw_or1 (pt_cmpR op_gt (pv 1) (pe_glob (v:=.int 60) rfl g_GREATEST_DEPTH ⟨_,rfl⟩) (nomark _))))) (pss_one ps_never) pss_nil)
    (pss_one (ps_ret (pv 1)))))),?_⟩
  (try dsimp only); (first | refine hX _ _ ?_ | skip); (try dsimp only); (first | refine seqX (fun X hX=>?_) | skip); try walk_at "dr2"; (try simp only [sp_read_number]); try walk_at "dr2"
  refine ⟨hw,fun H' g=>?_⟩
  (try dsimp only); (first | refine hX _ _ ?_ | skip); (try dsimp only); (first | refine seqX (fun X hX=>?_) | skip); try walk_at "dr2"; (try simp only [sp_read_number]); try walk_at "dr2"
  refine ite2 (fun c=>by omega) (fun _=>ite2 (fun c=>by omega) (fun _=>?_))
  (first | refine hX _ _ ?_ | skip); (try dsimp only); try walk_at "dr1"; (try simp only [sp_read_number]); try walk_at "dr1"
  exact q H' g
def sp_power_of (_ : PySem.W.Frag) : Sp:=fun vs H Q _=>∃ (p e : Int),vs = [.int p,.int e] ∧ (2 ≤ p ∧ p < 1000) ∧ (0 ≤ e ∧ e < 100000) ∧ Q (.int (p ^ e.toNat)) H
theorem ok_power_of (B : Bi mg K w) (F : Fun K "power_of" "power_of" s_power_of f fd) : FnOk P w K mg base CX0 1 f fd ["p","e"] (sp_power_of K):=by
  refine F.ok S_power_of (fun vs H Q E h=>?_) (fun cdv A outer s H vs Q E hr h=>?_)
  · obtain ⟨p,e,rfl,_⟩:=h
    rfl
  obtain ⟨p,e,rfl,hp,he,q⟩:=h
  have S:=S_power_of
  refine ⟨_,((pss_cons (ps_set (i:=2) S.nd rfl (Or.inl rfl) pe_int)
    (pss_cons (ps_for PassesOwn.never rfl (pi_range1 rfl B.b_range (pa_cons (pv 1) pa_nil)) (pg_name (i:=3) S.nd rfl (Or.inl rfl)) (pss_one (ps_set (i:=2) S.nd rfl (Or.inl rfl) (pe_op op_mulW (pv 2) (pv 0)))))
    (pss_one (ps_ret (pv 2)))))),?_⟩
  refine ⟨_,rfl,e,rfl,by omega,by omega,?_⟩
  refine for_range (n:=e.toNat) (fun i σ H'=>H' = H ∧ ∃ t,σ = [some (.int p),some (.int e),some (.int (p ^ i)),t]) ⟨rfl,none,by rw [Int.pow_zero]; rfl⟩ ?_ ?_
  · rintro i σ H' hi ⟨rfl,t,rfl⟩
    refine ⟨_,rfl,_,rfl,_,_,rfl,rfl,IntMulOk.of_right (intBits_le_64 (by omega) (by omega)),rfl,some (.int (0 + (i : Int))),?_⟩
    rw [Int.pow_succ]
    rfl
  · rintro σ H' ⟨rfl,t,rfl⟩
    exact ⟨_,rfl,q⟩
def sp_can_be_written (_ : PySem.W.Frag) : Sp:=fun vs H Q _=>∃ n : Int,vs = [.int n] ∧ n.natAbs < 10 ^ 60 ∧ Q (.bl true) H
theorem ok_can_be_written (B : Bi mg K w) (d_power_of : Def P w K mg base "power_of" 1 ["p","e"] (sp_power_of K)) (F : Fun K "can_be_written" "can_be_written" s_can_be_written f fd) : FnOk P w K mg base CX0 2 f fd ["number"] (sp_can_be_written K):=by
  refine F.ok S_can_be_written (fun vs H Q E h=>?_) (fun cdv A outer s H vs Q E hr h=>?_)
  · obtain ⟨n,rfl,_⟩:=h
    rfl
  obtain ⟨n,rfl,hn,q⟩:=h
  have S:=S_can_be_written
  obtain ⟨t1,g_MOST_FIGURES⟩:=B.g_MOST_FIGURES
  refine ⟨_,((pss_one (ps_ret (pe_cmpR op_lt (pe_callB call_abs rfl B.b_abs bt_abs (pa_cons (pv 0) pa_nil)) (pe_def d_power_of hr rfl (pa_cons pe_int (pa_cons (pe_glob (v:=.int 60) rfl g_MOST_FIGURES ⟨_,rfl⟩) pa_nil))) (nomark _))))),?_⟩
  (first | refine hX _ _ ?_ | skip); (try dsimp only); try walk_at "dr1"; (try simp only [sp_power_of]); try walk_at "dr1"
  have hM : (10 : Int) ^ Int.toNat 60 = ((10 ^ 60 : Nat) : Int):=by decide +kernel
  rw [hM]
  generalize (10 ^ 60 : Nat) = M at hn ⊢
  rw [decide_eq_true (by split <;> omega)]
  exact q
def sp_made_poly (K : PySem.W.Frag) : Sp:=fun vs H Q _=>∃ (p : Int) (a : Addr) (x y : V) (xs : List V),vs = [.int p,.ref a] ∧ SqL K H a (x :: y :: xs) ∧ Q y H
theorem ok_made_poly (B : Bi mg K w) (F : Fun K "made_poly" "made_poly" s_made_poly f fd) : FnOk P w K mg base CX0 1 f fd ["p","things"] (sp_made_poly K):=by
  refine F.ok S_made_poly (fun vs H Q E h=>?_) (fun cdv A outer s H vs Q E hr h=>?_)
  · obtain ⟨p,a,x,y,xs,rfl,_⟩:=h
    rfl
  obtain ⟨p,a,x,y,xs,rfl,hS,q⟩:=h
  have S:=S_made_poly
  refine ⟨_,((pss_one (ps_ret (pe_ix ix_list (pv 1) pe_int (fun _ _=>rfl))))),?_⟩
  (first | refine hX _ _ ?_ | skip); (try dsimp only); try walk_at "dr1"
  exact ⟨_,hS,_,atI_nat (j:=1) rfl,q⟩
def sp_is_prime (_ : PySem.W.Frag) : Sp:=fun vs H Q _=>∃ (n : Int),vs = [.int n] ∧ n < 2 ^ 60 ∧ ∀ b : Bool,(b = true ↔ Dr.IsP n) → Q (.bl b) H
theorem isP_end {n d : Int} (hd : 2 ≤ d) (h : ∀ e : Int,2 ≤ e → e < d → n % e ≠ 0) (hn : 2 ≤ n) (c : ¬ d * d ≤ n) : Dr.IsP n:=by
  refine ⟨hn,fun e he hee=>h e he ?_⟩
  refine Int.lt_of_not_ge fun z=>c ?_
  exact Int.le_trans (Int.mul_le_mul z z (by omega) (by omega)) hee
theorem ok_is_prime (B : Bi mg K w) (F : Fun K "is_prime" "is_prime" s_is_prime f fd) : FnOk P w K mg base CX0 1 f fd ["thing"] (sp_is_prime K):=by
  refine F.ok S_is_prime (fun vs H Q E h=>?_) (fun cdv A outer s H vs Q E hr h=>?_)
  · obtain ⟨n,rfl,_⟩:=h
    rfl
  obtain ⟨n,rfl,hn,q⟩:=h
  have S:=S_is_prime
  refine ⟨_,((pss_cons (ps_if (PW.pt (pw_or (pt_not (pt_val (pe_callB call_isiS rfl B.b_isinstance L2.bt_isinstance (pa_cons (pv 0) (pa_cons (pe_bltn (v:=.ty "int") rfl B.b_int L2.bt_int rfl) pa_nil))))) (pw_or1 (pt_cmpR op_lt (pv 0) pe_int (nomark _))))) (pss_one (ps_ret pe_bl)) pss_nil)
    (pss_cons (ps_set (i:=1) S.nd rfl (Or.inl rfl) pe_int)
    (pss_cons (ps_while PassesOwn.never (pt_cmpR op_le (pe_op op_mulW (pv 1) (pv 1)) (pv 0) (nomark _)) (pss_cons (ps_if (pt_cmpR op_eq (pe_op op_mod (pv 0) (pv 1)) pe_int (nomark _)) (pss_one (ps_ret pe_bl)) pss_nil)
    (pss_one (ps_aug (i:=1) S.nd rfl (Or.inl rfl) pe_int ip_add))))
    (pss_one (ps_ret pe_bl)))))),?_⟩
  (first | refine hX _ _ ?_ | skip); (try dsimp only); try walk_at "dr1"
  refine ite2 (fun c=>q false ⟨fun z=>(by cases z),fun z=>absurd z.1 (by omega)⟩) (fun c=>?_)
  obtain ⟨W,hW⟩ : ∃ W : Nat → St → Hp → Prop,∀ m σ H',W m σ H' ↔ (H' = H ∧ ∃ d : Int,σ = [some (.int n),some (.int d)] ∧ 2 ≤ d ∧ (∀ e : Int,2 ≤ e → e < d → n % e ≠ 0) ∧ d ≤ n ∧ m = (n + 1 - d).toNat):=⟨_,fun _ _ _=>Iff.rfl⟩
  (first | refine hX _ _ ?_ | skip); refine whB W (n + 1 - 2).toNat ((hW _ _ _).mpr ⟨rfl,2,rfl,by omega,fun e h1 h2=>by omega,by omega,rfl⟩) ?_
  intro m σ H' z
  obtain ⟨rfl,d,rfl,hd,h1,h2,rfl⟩:=(hW _ _ _).mp z
  (first | refine hX _ _ ?_ | skip); (try dsimp only); try walk_at "dr1"
  refine ⟨IntMulOk.of_left (intBits_le_64 (by omega) (by omega)),ite2 (fun c1=>?_) (fun c1=>?_)⟩
  · refine ⟨_,fun _ _ h=>h,?_⟩
    refine ⟨by omega,ite2 (fun c2=>?_) (fun c2=>?_)⟩
    · exact q false ⟨fun z=>(by cases z),fun z=>absurd c2 (z.2 d hd c1)⟩
    · have hlt : d < n:=by
        have : d * 2 ≤ d * d:=Int.mul_le_mul_of_nonneg_left hd (by omega)
        omega
      refine ⟨(n + 1 - (d + 1)).toNat,by omega,(hW _ _ _).mpr ⟨rfl,d + 1,rfl,by omega,fun e e1 e2=>?_,by omega,rfl⟩⟩
      by_cases w : e = d
      · rw [w]; exact c2
      · exact h1 e e1 (by omega)
  · exact q true ⟨fun _=>isP_end hd h1 (by omega) c1,fun _=>rfl⟩
theorem isP_of {p : Int} (hp : p ∈ Dr.primes) : Dr.IsP p:=by
  refine ⟨(Dr.primes_ge hp).1,fun e he hee=>?_⟩
  have h97:=(Dr.primes_ge hp).2
  have h9 : e < 10:=by
    refine Int.lt_of_not_ge fun z=>?_
    have:=Int.mul_le_mul z z (by decide) (by omega)
    omega
  rcases (show e = 2 ∨ e = 3 ∨ e = 4 ∨ e = 5 ∨ e = 6 ∨ e = 7 ∨ e = 8 ∨ e = 9 by omega) with h | h | h | h | h | h | h | h <;> subst h <;> revert hee <;> clear h97 he h9 <;> revert p <;> decide
def sp___init__ (K : PySem.W.Frag) : Sp:=fun vs H Q _=>∃ (d dx : Addr) (p : Int),vs = [.ref d,.int p] ∧ H d = some (.ins (clK K "Desk") dx []) ∧ p ∈ Dr.primes ∧
  ∀ kd H',kd ≠ d → H kd = none → H' d = some (.ins (clK K "Desk") dx [("prime",.int p),("kept",.ref kd)]) → H' kd = some (.dK []) → (∀ b,b ≠ d → b ≠ kd → H' b = H b) → Q .non H'
theorem ok___init__ (B : Bi mg K w) (d_is_prime : Def P w K mg base "is_prime" 1 ["thing"] (sp_is_prime K)) (F : Fun K "__init__" "Desk.__init__" s___init__ f fd) : FnOk P w K mg base CX0 2 f fd ["self","p"] (sp___init__ K):=by
  refine F.ok S___init__ (fun vs H Q E h=>?_) (fun cdv A outer s H vs Q E hr h=>?_)
  · obtain ⟨d,dx,p,rfl,_⟩:=h
    rfl
  obtain ⟨d,dx,p,rfl,hd,hp,q⟩:=h
  have S:=S___init__
  obtain ⟨t1,g_GREATEST_PRIME⟩:=B.g_GREATEST_PRIME
  have p97:=Dr.primes_ge hp
  refine ⟨_,((pss_cons (ps_if (PW.pt (pw_or (pt_not (pt_val (pe_callB call_isiS rfl B.b_isinstance L2.bt_isinstance (pa_cons (pv 1) (pa_cons (pe_bltn (v:=.ty "int") rfl B.b_int L2.bt_int rfl) pa_nil))))) (pw_or (pt_cmpR op_gt (pv 1) (pe_glob (v:=.int 97) rfl g_GREATEST_PRIME ⟨_,rfl⟩) (nomark _)) (pw_or1 (pt_not (pt_val (pe_def d_is_prime hr rfl (pa_cons (pv 1) pa_nil)))))))) (pss_one ps_never) pss_nil)
    (pss_cons (ps_fld (pv 0) (pv 1) rfl)
    (pss_one (ps_fld (pv 0) pe_dnewK rfl))))),?_⟩
  (try dsimp only); (first | refine hX _ _ ?_ | skip); (try dsimp only); (first | refine seqX (fun X hX=>?_) | skip); try walk_at "dr2"; (try simp only [sp_is_prime]); try walk_at "dr2"
  rw [if_neg (by omega)]
  refine ⟨by omega,fun b hb=>?_⟩
  have hb : b = true:=hb.mpr (isP_of hp)
  subst hb
  rw [if_neg (by decide)]
  (try dsimp only); (first | refine hX _ _ ?_ | skip); (try dsimp only); (first | refine seqX (fun X hX=>?_) | skip); try walk_at "dr2"; (try simp only [sp_is_prime]); try walk_at "dr2"
  refine ⟨_,_,_,hd,B.cl_Desk,B.na_prime,by decide,?_⟩
  (first | refine hX _ _ ?_ | skip); (try dsimp only); try walk_at "dr1"; (try simp only [sp_is_prime]); try walk_at "dr1"
  intro kd nk
  have ne : kd ≠ d:=fun z=>by rw [z,upd_same] at nk; cases nk
  rw [upd_ne ne] at nk
  refine ⟨_,_,_,by rw [upd_ne (Ne.symm ne)]; exact upd_same,B.cl_Desk,B.na_kept,by show 1 < 1000; decide,?_⟩
  refine q kd _ ne nk ?_ ?_ ?_
  · rw [upd_same]
    exact congrArg some (congrArg (HO.ins _ _) (by rfl))
  · rw [upd_ne ne,upd_same]
  · intro b h1 h2
    rw [upd_ne h1,upd_ne h2,upd_ne h1]
def sp_standing (K : PySem.W.Frag) : Sp:=fun vs H Q _=>∃ (d dx kd : Addr) (fs : List (Str × V)) (kvs : List (Key × V)) (z : Str) (v : V),vs = [.ref d,.str z] ∧ H d = some (.ins (clK K "Desk") dx fs) ∧ fs.lookup ("kept" : Str) = some (V.ref kd) ∧ H kd = some (.dK kvs) ∧ valV kvs (Sum.inr z) = some v ∧ Q v H
theorem ok_standing (B : Bi mg K w) (F : Fun K "standing" "Desk.standing" s_standing f fd) : FnOk P w K mg base CX0 1 f fd ["self","name"] (sp_standing K):=by
  refine F.ok S_standing (fun vs H Q E h=>?_) (fun cdv A outer s H vs Q E hr h=>?_)
  · obtain ⟨d,dx,kd,fs,kvs,z,v,rfl,_⟩:=h
    rfl
  obtain ⟨d,dx,kd,fs,kvs,z,v,rfl,hd,hf,hk,hv,q⟩:=h
  have S:=S_standing
  refine ⟨_,((pss_cons (ps_if (pt_cmp (pc_dnotin (hu1 hr.units) (pv 1) (pe_fld (pv 0) rfl))) (pss_one ps_never) pss_nil)
    (pss_one (ps_ret (pe_dget (hu1 hr.units) (pe_fld (pv 0) rfl) (pv 1) (fun _ _=>rfl)))))),?_⟩
  (try dsimp only); (first | refine hX _ _ ?_ | skip); (try dsimp only); (first | refine seqX (fun X hX=>?_) | skip); try walk_at "dr2"
  refine ⟨_,_,_,hd,B.cl_Desk,B.na_kept,_,hf,kd,rfl,_,DGet.k (k:=Sum.inr z) hk,?_⟩
  rw [hv,if_neg (by intro z; cases z)]
  (first | refine hX _ _ ?_ | skip); (try dsimp only); try walk_at "dr1"
  exact ⟨_,_,_,hd,B.cl_Desk,B.na_kept,_,hf,kd,rfl,v,by rw [← hv]; exact DGet.k (k:=Sum.inr z) hk,q⟩
def sp_keep (K : PySem.W.Frag) : Sp:=fun vs H Q _=>∃ (d dx kd l : Addr) (fs : List (Str × V)) (kvs : List (Key × V)) (z : Str) (ms : List Int),vs = [.ref d,.str z,.ref l] ∧ H d = some (.ins (clK K "Desk") dx fs) ∧ fs.lookup ("kept" : Str) = some (V.ref kd) ∧ H kd = some (.dK kvs) ∧ kvs.length < 1000 ∧
  SqL K H l (ms.map V.int) ∧ ms.length ≤ 60 ∧ (∀ x,x ∈ ms → x.natAbs < 10 ^ 60) ∧ ∀ H1,Same H H1 → Q (.str "ok") (upd H1 kd (.dK (putK kvs (Sum.inr z) (.ref l))))
theorem ok_keep (B : Bi mg K w) (d_can_be_written : Def P w K mg base "can_be_written" 2 ["number"] (sp_can_be_written K)) (F : Fun K "keep" "Desk.keep" s_keep f fd) : FnOk P w K mg base CX0 3 f fd ["self","name","polynomial"] (sp_keep K):=by
  refine F.ok S_keep (fun vs H Q E h=>?_) (fun cdv A outer s H vs Q E hr h=>?_)
  · obtain ⟨d,dx,kd,l,fs,kvs,z,ms,rfl,_⟩:=h
    rfl
  obtain ⟨d,dx,kd,l,fs,kvs,z,ms,rfl,hd,hf,hk,hkl,hS,hl,hb,q⟩:=h
  have S:=S_keep
  refine ⟨_,((pss_cons (ps_if (pt_not (pt_val (pe_callB (call_allB rfl) rfl B.b_all bt_all (pa_cons (pe_comp [] [] rfl rfl trivial trivial rfl rfl (by decide) (by decide) rfl rfl (by decide) (pi_list (pv 2)) (fun _ _ _ _=>pts_nil) (fun _ _ _ _=>(pe_def d_can_be_written hr rfl (pa_cons (pv 0) pa_nil)))) pa_nil)))) (pss_one ps_never) pss_nil)
    (pss_cons (ps_dput (hu1 hr.units) (pe_fld (pv 0) rfl) (pv 1) (pv 2) rfl)
    (pss_one (ps_ret pe_str))))),?_⟩
  (try dsimp only); (first | refine hX _ _ ?_ | skip); (try dsimp only); (first | refine seqX (fun X hX=>?_) | skip); try walk_at "dr2"; (try simp only [sp_can_be_written]); try walk_at "dr2"
  refine ⟨⟨_,hS⟩,?_⟩
  obtain ⟨Pv,hPv⟩ : ∃ Pv : Nat → List V → Hp → Prop,∀ i ys H',Pv i ys H' ↔ (H' = H ∧ ys = (List.replicate i true).map V.bl):=⟨_,fun _ _ _=>Iff.rfl⟩
  (first | refine hX _ _ ?_ | skip); refine compI ms Pv (Nat.le_trans hl (by decide)) ((hPv _ _ _).mpr ⟨rfl,rfl⟩) (fun i ys H2 p=>?_) (fun i x ys H2 hx p=>?_) (fun ys H2 p r n_r=>?_)
  · obtain ⟨rfl,_⟩:=(hPv _ _ _).mp p
    exact hS
  · obtain ⟨rfl,rfl⟩:=(hPv _ _ _).mp p
    (first | refine hX _ _ ?_ | skip); (try dsimp only); try walk_at "dr1"; (try simp only [sp_can_be_written]); try walk_at "dr1"
    refine ⟨hb x (List.mem_of_getElem? hx),(hPv _ _ _).mpr ⟨rfl,?_⟩⟩
    rw [List.replicate_succ',List.map_append]
    rfl
  obtain ⟨rfl,rfl⟩:=(hPv _ _ _).mp p
  refine ⟨r,rfl,_,SqL.of upd_same,?_⟩
  rw [if_neg (by simp)]
  have g:=newS n_r (o:=HO.lst (List.map V.bl (List.replicate ms.length true)))
  generalize upd H2 r (HO.lst (List.map V.bl (List.replicate ms.length true))) = H3 at g ⊢
  (try dsimp only); (first | refine hX _ _ ?_ | skip); (try dsimp only); (first | refine seqX (fun X hX=>?_) | skip); try walk_at "dr2"; (try simp only [sp_can_be_written]); try walk_at "dr2"
  refine ⟨_,_,_,g _ _ hd,B.cl_Desk,B.na_kept,_,hf,kd,rfl,_,DPut.k (k:=Sum.inr z) (g _ _ hk) (Nat.lt_trans hkl (by decide)),?_⟩
  (first | refine hX _ _ ?_ | skip); (try dsimp only); try walk_at "dr1"; (try simp only [sp_can_be_written]); try walk_at "dr1"
  exact q _ g
structure DeskAt (K : PySem.W.Frag) (H : Hp) (d dx kd : Addr) (p : Int) (kvs : List (Key × V)) : Prop where
  ins : H d = some (.ins (clK K "Desk") dx [("prime",.int p),("kept",.ref kd)])
  kept : H kd = some (.dK kvs)
theorem DeskAt.same {K : PySem.W.Frag} {H H' : Hp} {d dx kd : Addr} {p : Int} {kvs : List (Key × V)} (h : DeskAt K H d dx kd p kvs) (g : Same H H') : DeskAt K H' d dx kd p kvs:=⟨g _ _ h.ins,g _ _ h.kept⟩
theorem nm_free {z : Str} (h : Nm z) : 32 ∉ z.cps.toList:=fun q=>by
  have:=h.all 32 q
  revert this
  decide +kernel
theorem look_no {x : Str} {a b : V} (h1 : (x == ("prime" : Str)) = false) (h2 : (x == ("kept" : Str)) = false) : List.lookup x [(("prime" : Str),a),(("kept" : Str),b)] = none:=by
  simp only [List.lookup,h1,h2]
theorem look_kept {a b : V} : List.lookup ("kept" : Str) [(("prime" : Str),a),(("kept" : Str),b)] = some b:=by
  have h1 : (("kept" : Str) == ("prime" : Str)) = false:=by decide +kernel
  simp only [List.lookup,h1,BEq.rfl]
theorem look_prime {a b : V} : List.lookup ("prime" : Str) [(("prime" : Str),a),(("kept" : Str),b)] = some a:=by
  simp only [List.lookup,BEq.rfl]
inductive Kd | new | name | poly | depth | number
def Kd.txt : Kd → Str
  | .new=>"new"
  | .name=>"name"
  | .poly=>"poly"
  | .depth=>"depth"
  | .number=>"number"
inductive Wd (kvs : List (Key × V)) : Kd → Str → Prop
  | new {z : Str} : Nm z → Wd kvs .new z
  | name {z : Str} {v : V} : Nm z → valV kvs (Sum.inr z) = some v → Wd kvs .name z
  | poly {z : Str} {ms : List Int} : z.length ≤ 2000 → Tx.poly z = some ms → Wd kvs .poly z
  | depth {z : Str} : Tx.Wr z.cps.toList → (0 ≤ Tx.valOf z.cps.toList ∧ Tx.valOf z.cps.toList ≤ 60) → Wd kvs .depth z
  | number {z : Str} : Tx.Wr z.cps.toList → Wd kvs .number z
inductive Rs (kvs : List (Key × V)) (H H' : Hp) : Kd → Str → V → Prop
  | new {z : Str} : Rs kvs H H' .new z (.str z)
  | name {z : Str} {v : V} : valV kvs (Sum.inr z) = some v → Rs kvs H H' .name z v
  | poly {z : Str} {ms : List Int} {c : Addr} : Tx.poly z = some ms → H c = none → H' c = some (.lst (ms.map V.int)) → Rs kvs H H' .poly z (.ref c)
  | depth {z : Str} : Rs kvs H H' .depth z (.int (Tx.valOf z.cps.toList))
  | number {z : Str} : Rs kvs H H' .number z (.int (Tx.valOf z.cps.toList))
theorem Rs.same {kvs : List (Key × V)} {H0 H H' H2 : Hp} {k : Kd} {z : Str} {v : V} (h : Rs kvs H H' k z v) (g0 : Same H0 H) (g : Same H' H2) : Rs kvs H0 H2 k z v:=by
  cases h with
  | new=>exact .new
  | name e=>exact .name e
  | poly e n k=>exact .poly e (none_of g0 n) (g _ _ k)
  | depth=>exact .depth
  | number=>exact .number
def sp_thing_of (K : PySem.W.Frag) : Sp:=fun vs H Q _=>∃ (d dx kd : Addr) (p : Int) (kvs : List (Key × V)) (k : Kd) (z : Str),vs = [.ref d,.str k.txt,.str z] ∧ DeskAt K H d dx kd p kvs ∧ Wd kvs k z ∧ ∀ v H',Same H H' → Rs kvs H H' k z v → Q v H'
theorem ok_thing_of (B : Bi mg K w) (d_read_number : Def P w K mg base "read_number" 3 ["text"] (sp_read_number K)) (d_read_poly : Def P w K mg base "read_poly" 4 ["text"] (sp_read_poly K)) (d_read_name : Def P w K mg base "read_name" 2 ["word"] (sp_read_name K)) (d_read_depth : Def P w K mg base "read_depth" 4 ["word"] (sp_read_depth K)) (d_standing : Met P w K mg base CX0 (clK K "Desk") "standing" 1 ["self","name"] (sp_standing K)) (F : Fun K "thing_of" "Desk.thing_of" s_thing_of f fd) : FnOk P w K mg base CX0 5 f fd ["self","wanted","word"] (sp_thing_of K):=by
  refine F.ok S_thing_of (fun vs H Q E h=>?_) (fun cdv A outer s H vs Q E hr h=>?_)
  · obtain ⟨d,dx,kd,p,kvs,k,z,rfl,_⟩:=h
    rfl
  obtain ⟨d,dx,kd,p,kvs,k,z,rfl,hd,t,q⟩:=h
  have S:=S_thing_of
  refine ⟨_,((pss_cons (ps_if (pt_cmpR op_eq (pv 1) pe_str (nomark _)) (pss_one (ps_ret (pe_def d_read_name hr rfl (pa_cons (pv 2) pa_nil)))) pss_nil)
    (pss_cons (ps_if (pt_cmpR op_eq (pv 1) pe_str (nomark _)) (pss_one (ps_ret (pe_met pass0 B.cl_Desk d_standing hr (pv 0) (pa_cons (pe_def d_read_name hr rfl (pa_cons (pv 2) pa_nil)) pa_nil)))) pss_nil)
    (pss_cons (ps_if (pt_cmpR op_eq (pv 1) pe_str (nomark _)) (pss_one (ps_ret (pe_def d_read_poly hr rfl (pa_cons (pv 2) pa_nil)))) pss_nil)
    (pss_cons (ps_if (pt_cmpR op_eq (pv 1) pe_str (nomark _)) (pss_one (ps_ret (pe_def d_read_depth hr rfl (pa_cons (pv 2) pa_nil)))) pss_nil)
    (pss_one (ps_ret (pe_def d_read_number hr rfl (pa_cons (pv 2) pa_nil))))))))),?_⟩
  cases t with
  | new hn=>
    dsimp only [Kd.txt]
    (first | refine hX _ _ ?_ | skip); (try dsimp only); try walk_at "dr1"; (try simp only [sp_read_number,sp_read_poly,sp_read_name,sp_read_depth,sp_standing]); try walk_at "dr1"
    exact ⟨hn,fun H' g=>q _ H' g .new⟩
  | name hn hv=>
    dsimp only [Kd.txt]
    (first | refine hX _ _ ?_ | skip); (try dsimp only); try walk_at "dr1"; (try simp only [sp_read_number,sp_read_poly,sp_read_name,sp_read_depth,sp_standing]); try walk_at "dr1"
    rw [if_neg (by decide +kernel)]
    exact ⟨_,_,hd.ins,look_no (by decide +kernel) (by decide +kernel),hn,fun H' g=>⟨_,_,_,g _ _ hd.ins,look_kept,_,g _ _ hd.kept,_,hv,q _ H' g (.name hv)⟩⟩
  | poly hz hp=>
    dsimp only [Kd.txt]
    (first | refine hX _ _ ?_ | skip); (try dsimp only); try walk_at "dr1"; (try simp only [sp_read_number,sp_read_poly,sp_read_name,sp_read_depth,sp_standing]); try walk_at "dr1"
    rw [if_neg (by decide +kernel),if_neg (by decide +kernel)]
    exact ⟨hz,_,hp,fun c H' g nc kc=>q _ H' g (.poly hp nc kc)⟩
  | depth hw hb=>
    dsimp only [Kd.txt]
    (first | refine hX _ _ ?_ | skip); (try dsimp only); try walk_at "dr1"; (try simp only [sp_read_number,sp_read_poly,sp_read_name,sp_read_depth,sp_standing]); try walk_at "dr1"
    rw [if_neg (by decide +kernel),if_neg (by decide +kernel),if_neg (by decide +kernel)]
    exact ⟨hw,hb.1,hb.2,fun H' g=>q _ H' g .depth⟩
  | number hw=>
    dsimp only [Kd.txt]
    (first | refine hX _ _ ?_ | skip); (try dsimp only); try walk_at "dr1"; (try simp only [sp_read_number,sp_read_poly,sp_read_name,sp_read_depth,sp_standing]); try walk_at "dr1"
    rw [if_neg (by decide +kernel),if_neg (by decide +kernel),if_neg (by decide +kernel),if_neg (by decide +kernel)]
    exact ⟨hw,fun H' g=>q _ H' g .number⟩
theorem mulSm {a b : Int} {m n : Nat} (ha : Dr.Sm a m) (hb : Dr.Sm b n) (h : m + n ≤ 134217728) : IntMulOk a b:=PyProof.Rows.mulOk_of_bits (PyProof.Rows.intBits_le ha) (PyProof.Rows.intBits_le hb) h
theorem sm_of {a : Int} {k : Nat} (B : Int) (h : -B ≤ a ∧ a ≤ B) (hB : B.natAbs < 2 ^ k) : Dr.Sm a k:=by
  unfold Dr.Sm
  omega
theorem rep_zero (n : Nat) : (List.replicate n [V.int 0]).flatten = (List.replicate n (0 : Int)).map V.int:=by
  induction n with
  | zero=>rfl
  | succ n ih=>simp [List.replicate_succ,ih]
theorem ixN_nn {n : Nat} {k : Int} (h0 : 0 ≤ k) (h1 : k < (n : Int)) : ixN n k = some k.toNat:=by
  unfold ixN
  simp only [h0,if_true,if_pos]
  rw [if_pos (by omega)]
theorem get_int {fs : List Int} {k : Int} (h0 : 0 ≤ k) (h1 : k < (fs.length : Int)) : ∃ v,fs[k.toNat]? = some v ∧ atI (fs.map V.int) k = some (.int v) ∧ ixN (fs.map V.int).length k = some k.toNat ∧ (fs.map V.int)[k.toNat]? = some (.int v):=by
  have hk : k.toNat < fs.length:=by omega
  have e : fs[k.toNat]? = some fs[k.toNat]:=List.getElem?_eq_getElem hk
  refine ⟨fs[k.toNat],e,?_,ixN_nn h0 (by rw [List.length_map]; exact h1),by rw [List.getElem?_map,e]; rfl⟩
  rw [atI_ints h0 h1,List.getD_eq_getElem?_getD,e]
  rfl
theorem set_int (fs : List Int) (k : Nat) (v : Int) : (fs.map V.int).set k (.int v) = (fs.set k v).map V.int:=by rw [List.map_set]
theorem mem_set {fs : List Int} {k : Nat} {v c : Int} (h : c ∈ fs.set k v) : c ∈ fs ∨ c = v:=List.mem_or_eq_of_mem_set h
theorem steps {i T : Nat} {v n : Int} (h : v.natAbs ≤ i * T) (h' : n.natAbs ≤ T) : (v + n).natAbs ≤ (i + 1) * T:=by
  rw [Nat.succ_mul]
  omega
theorem atI_back {xs : List Int} {d : Int} (h : xs.getLast? = some d) : atI (xs.map V.int) (-1) = some (.int d):=by
  cases xs with
  | nil=>simp at h
  | cons x ms=>
    have hh : ms.length < (x :: ms).length:=by simp
    have e : (x :: ms)[ms.length]? = some d:=by
      rw [List.getLast?_eq_getElem?] at h
      simpa using h
    unfold atI ixN
    have e1 : ¬ (0 : Int) ≤ -1:=by decide
    have e2 : -(((x :: ms).map V.int).length : Int) ≤ -1:=by
      simp only [List.length_map,List.length_cons]
      omega
    have e3 : (-1 + (((x :: ms).map V.int).length : Int)).toNat = ms.length:=by
      simp only [List.length_map,List.length_cons]
      omega
    rw [if_neg e1,if_pos e2,e3]
    show ((x :: ms).map V.int)[ms.length]? = _
    rw [List.getElem?_map,e]
    rfl
def sp_worth_at (K : PySem.W.Frag) : Sp:=fun vs H Q _=>∃ (a : Addr) (f : List Int) (x : Int) (m n : Nat),vs = [.ref a,.int x] ∧ SqL K H a (f.map V.int) ∧ f.length ≤ 100 ∧ Dr.PolyB f m ∧ Dr.Sm x n ∧ (m ≤ 1000000 ∧ n ≤ 100000) ∧ Q (.int (Dr.pev f x)) H
theorem ok_worth_at (B : Bi mg K w) (F : Fun K "worth_at" "worth_at" s_worth_at f fd) : FnOk P w K mg base CX0 1 f fd ["f","x"] (sp_worth_at K):=by
  refine F.ok S_worth_at (fun vs H Q E h=>?_) (fun cdv A outer s H vs Q E hr h=>?_)
  · obtain ⟨a,f,x,m,n,rfl,_⟩:=h
    rfl
  obtain ⟨a,f,x,m,n,rfl,hS,hl,hf,hx,hmn,q⟩:=h
  have S:=S_worth_at
  refine ⟨_,((pss_cons (ps_set (i:=2) S.nd rfl (Or.inl rfl) pe_int)
    (pss_cons (ps_for PassesOwn.never rfl (pi_rev rfl B.b_reversed (pv 0)) (pg_name (i:=3) S.nd rfl (Or.inl rfl)) (pss_one (ps_set (i:=2) S.nd rfl (Or.inl rfl) (pe_op op_add (pe_op op_mulW (pv 2) (pv 1)) (pv 3)))))
    (pss_one (ps_ret (pv 2)))))),?_⟩
  try walk_at "dr1"
  refine ⟨_,hS,?_⟩
  obtain ⟨Pv,hPv⟩ : ∃ Pv : Nat → St → Hp → Prop,∀ i σ H2,Pv i σ H2 ↔ (H2 = H ∧ ∃ t,σ = [some (.ref a),some (.int x),some (.int (Dr.pev (f.drop (f.length - i)) x)),t]):=⟨_,fun _ _ _=>Iff.rfl⟩
  refine forV f Pv (by rw [List.length_map]) ((hPv _ _ _).mpr ⟨rfl,none,by simp [Dr.pev]⟩) (fun i σ H2 z=>by obtain ⟨rfl,_⟩:=(hPv _ _ _).mp z; exact hS) ?_ ?_
  · intro i c σ H2 hc z
    obtain ⟨rfl,t,rfl⟩:=(hPv _ _ _).mp z
    try walk_at "dr1"
    have b:=(hx.pev (hf.drop (f.length - i))).mono (l:=1000000 + 100 * 100001) (by
      have h1 : (f.drop (f.length - i)).length ≤ 100:=by rw [List.length_drop]; omega
      have h2 : (f.drop (f.length - i)).length * (n + 1) ≤ 100 * 100001:=Nat.mul_le_mul h1 (by omega)
      omega)
    refine ⟨mulSm b hx (by omega),(hPv _ _ _).mpr ⟨rfl,some (.int c),?_⟩⟩
    rw [Dr.pev_rev hc]
  · intro σ H2 z
    obtain ⟨rfl,t,rfl⟩:=(hPv _ _ _).mp z
    try walk_at "dr1"
    rw [Nat.sub_self,List.drop_zero]
    exact q
def sp_degree_of (K : PySem.W.Frag) : Sp:=fun vs H Q _=>∃ (a : Addr) (f : List Int),vs = [.ref a] ∧ SqL K H a (f.map V.int) ∧ ∀ (d : Int) (H' : Hp),Dr.IsDeg f d → Same H H' → Q (.int d) H'
theorem ok_degree_of (B : Bi mg K w) (F : Fun K "degree_of" "degree_of" s_degree_of f fd) : FnOk P w K mg base CX0 1 f fd ["f"] (sp_degree_of K):=by
  refine F.ok S_degree_of (fun vs H Q E h=>?_) (fun cdv A outer s H vs Q E hr h=>?_)
  · obtain ⟨a,f,rfl,_⟩:=h
    rfl
  obtain ⟨a,f,rfl,hS,q⟩:=h
  have S:=S_degree_of
  refine ⟨_,((pss_cons (ps_set (i:=1) S.nd rfl (Or.inl rfl) (pe_un un_neg pe_int))
    (pss_cons (ps_for PassesOwn.never rfl (pi_enum rfl B.b_enumerate (pv 0)) (pg_tup rfl (pgs_cons (pg_name (i:=2) S.nd rfl (Or.inl rfl)) (pgs_cons (pg_name (i:=3) S.nd rfl (Or.inl rfl)) pgs_nil))) (pss_one (ps_if (pt_cmpR op_ne (pv 3) pe_int (nomark _)) (pss_one (ps_set (i:=1) S.nd rfl (Or.inl rfl) (pv 2))) pss_nil)))
    (pss_one (ps_ret (pv 1)))))),?_⟩
  try walk_at "dr1"
  refine ⟨⟨_,hS⟩,?_⟩
  obtain ⟨Pv,hPv⟩ : ∃ Pv : Nat → St → Hp → Prop,∀ i σ H2,Pv i σ H2 ↔ (Same H H2 ∧ ∃ (d : Int) (t2 t3 : Option V),Dr.IsDeg (f.take i) d ∧ σ = [some (.ref a),some (.int d),t2,t3]):=⟨_,fun _ _ _=>Iff.rfl⟩
  refine forE f Pv ((hPv _ _ _).mpr ⟨Same.refl _,-1,none,none,by simpa using Dr.IsDeg.nil,rfl⟩) (fun i σ H2 z=>by obtain ⟨g,_⟩:=(hPv _ _ _).mp z; exact g.seq hS) ?_ ?_
  · intro i c σ H2 t H3 hc z g3 ht
    obtain ⟨g2,d,t2,t3,hd,rfl⟩:=(hPv _ _ _).mp z
    try walk_at "dr1"
    refine ⟨_,SqT.of ht,rfl,_,_,rfl,?_⟩
    refine ⟨_,_,rfl,rfl,rfl,?_⟩
    simp only [V.int.injEq]
    have g:=g2.trans g3
    have hd':=hd.take_succ hc
    refine ite2 (fun c0=>?_) (fun c0=>?_)
    · rw [if_pos c0] at hd'
      exact (hPv _ _ _).mpr ⟨g,_,_,_,hd',rfl⟩
    · rw [if_neg c0] at hd'
      exact (hPv _ _ _).mpr ⟨g,_,_,_,hd',rfl⟩
  · intro σ H2 z
    obtain ⟨g2,d,t2,t3,hd,rfl⟩:=(hPv _ _ _).mp z
    try walk_at "dr1"
    rw [List.take_length] at hd
    exact q d H2 hd g2
def sp_poly_product (K : PySem.W.Frag) : Sp:=fun vs H Q _=>∃ (a b : Addr) (f g : List Int) (m n : Nat),vs = [.ref a,.ref b] ∧ SqL K H a (f.map V.int) ∧ SqL K H b (g.map V.int) ∧ (0 < f.length ∧ f.length ≤ 60 ∧ 0 < g.length ∧ g.length ≤ 60) ∧ Dr.PolyB f m ∧ Dr.PolyB g n ∧ (m ≤ 1000000 ∧ n ≤ 1000000) ∧
  ∀ (c : Addr) (r : List Int) (H' : Hp),Dr.IsProd f g r → Dr.PolyB r (m + n + 12) → H c = none → Same H H' → H' c = some (.lst (r.map V.int)) → Q (.ref c) H'
theorem ok_poly_product (B : Bi mg K w) (F : Fun K "poly_product" "poly_product" s_poly_product f fd) : FnOk P w K mg base CX0 1 f fd ["f","g"] (sp_poly_product K):=by
  refine F.ok S_poly_product (fun vs H Q E h=>?_) (fun cdv A outer s H vs Q E hr h=>?_)
  · obtain ⟨a,b,f,g,m,n,rfl,_⟩:=h
    rfl
  obtain ⟨a,b,f,g,m,n,rfl,hS,hS',hl,hf,hg,hmn,q⟩:=h
  have S:=S_poly_product
  refine ⟨_,((pss_cons (ps_set (i:=2) S.nd rfl (Or.inl rfl) (pe_op op_rep (pe_lst (pa_cons pe_int pa_nil)) (pe_op op_sub (pe_op op_add (pe_callB call_len_seq rfl B.b_len PySem.boot_len (pa_cons (pv 0) pa_nil)) (pe_callB call_len_seq rfl B.b_len PySem.boot_len (pa_cons (pv 1) pa_nil))) pe_int)))
    (pss_cons (ps_for PassesOwn.never rfl (pi_enum rfl B.b_enumerate (pv 0)) (pg_tup rfl (pgs_cons (pg_name (i:=3) S.nd rfl (Or.inl rfl)) (pgs_cons (pg_name (i:=4) S.nd rfl (Or.inl rfl)) pgs_nil))) (pss_one (ps_for PassesOwn.never rfl (pi_enum rfl B.b_enumerate (pv 1)) (pg_tup rfl (pgs_cons (pg_name (i:=5) S.nd rfl (Or.inl rfl)) (pgs_cons (pg_name (i:=6) S.nd rfl (Or.inl rfl)) pgs_nil))) (pss_one (ps_augS (pv 2) (pe_op op_add (pv 3) (pv 5)) get_list (pe_op op_mulW (pv 4) (pv 6)) ip_add set_list)))))
    (pss_one (ps_ret (pv 2)))))),?_⟩
  try walk_at "dr1"
  refine ⟨by decide,?_⟩
  intro l0 n_l0; generalize e_l0 : upd _ l0 _ = H1; obtain ⟨g1,k1⟩:=newH e_l0 n_l0; clear e_l0
  refine ⟨_,.inl (g1.seq hS),_,.inl (g1.seq hS'),?_⟩
  simp only [List.length_map]
  refine ⟨_,k1,by omega,by omega,by simp only [List.length_cons,List.length_nil]; unfold sizeLine; omega,?_⟩
  intro l n_l; generalize e_l : upd _ l _ = H2; obtain ⟨g2,k2⟩:=newH e_l n_l; clear e_l
  rw [rep_zero] at k2
  have g12:=g1.trans g2
  have nl : H l = none:=g1.free n_l
  refine ⟨⟨_,g12.seq hS⟩,?_⟩
  obtain ⟨M,hM⟩ : ∃ M : Nat,M = 2 ^ (m + n):=⟨_,rfl⟩
  obtain ⟨Pv,hPv⟩ : ∃ Pv : Nat → St → Hp → Prop,∀ i σ H3,Pv i σ H3 ↔ (Same H H3 ∧ ∃ (r : List Int) (t3 t4 t5 t6 : Option V),r.length + 1 = f.length + g.length ∧ (∀ c,c ∈ r → c.natAbs ≤ i * g.length * M) ∧ (∀ x,Dr.pev r x = Dr.pev (f.take i) x * Dr.pev g x) ∧ H3 l = some (.lst (r.map V.int)) ∧ σ = [some (.ref a),some (.ref b),some (.ref l),t3,t4,t5,t6]):=⟨_,fun _ _ _=>Iff.rfl⟩
  refine forE f Pv ((hPv _ _ _).mpr ⟨g12,_,none,none,none,none,by rw [List.length_replicate]; omega,fun c hc=>by rw [(List.mem_replicate.mp hc).2]; simp,fun x=>by rw [Dr.pev_zeros]; simp [Dr.pev],k2,rfl⟩) (fun i σ H3 z=>by obtain ⟨g,_⟩:=(hPv _ _ _).mp z; exact g.seq hS) ?_ ?_
  · intro i c σ H3 t H4 hc z g4 ht
    obtain ⟨g3,r,t3,t4,t5,t6,hrl,hrb,hre,k3,rfl⟩:=(hPv _ _ _).mp z
    have k4:=g4 _ _ k3
    have hi:=(List.getElem?_eq_some_iff.mp hc).1
    have G4:=g3.trans g4
    try walk_at "dr1"
    refine ⟨_,SqT.of ht,rfl,_,_,rfl,_,_,rfl,rfl,?_⟩
    try try walk_at "dr1"
    refine ⟨⟨_,G4.seq hS'⟩,?_⟩
    obtain ⟨Pw,hPw⟩ : ∃ Pw : Nat → St → Hp → Prop,∀ j σ H5,Pw j σ H5 ↔ (Same H H5 ∧ ∃ (r : List Int) (t5 t6 : Option V),r.length + 1 = f.length + g.length ∧ (∀ c,c ∈ r → c.natAbs ≤ (i * g.length + j) * M) ∧ (∀ x,Dr.pev r x = Dr.pev (f.take i) x * Dr.pev g x + c * x ^ i * Dr.pev (g.take j) x) ∧ H5 l = some (.lst (r.map V.int)) ∧ σ = [some (.ref a),some (.ref b),some (.ref l),some (.int (i : Int)),some (.int c),t5,t6]):=⟨_,fun _ _ _=>Iff.rfl⟩
    refine forE g Pw ((hPw _ _ _).mpr ⟨G4,r,t5,t6,hrl,hrb,fun x=>by rw [hre]; simp [Dr.pev],k4,rfl⟩) (fun i σ H3 z=>by obtain ⟨g,_⟩:=(hPw _ _ _).mp z; exact g.seq hS') ?_ ?_
    · intro j d σ H5 t H6 hd z g6 ht
      obtain ⟨g5,r,t5,t6,hrl,hrb,hre,k5,rfl⟩:=(hPw _ _ _).mp z
      have k6:=g6 _ _ k5
      have hj:=(List.getElem?_eq_some_iff.mp hd).1
      try walk_at "dr1"
      refine ⟨_,SqT.of ht,rfl,_,_,rfl,_,_,rfl,rfl,?_⟩
      try try walk_at "dr1"
      obtain ⟨v,e1,_,e3,e4⟩:=get_int (fs:=r) (k:=(i : Int) + (j : Int)) (by omega) (by omega)
      have hcd : (c * d).natAbs ≤ M:=by
        rw [hM]
        exact Nat.le_of_lt ((hf c (List.mem_of_getElem? hc)).mul (hg d (List.mem_of_getElem? hd)))
      refine ⟨by omega,_,SqL.of k6,_,e4,mulSm (hf c (List.mem_of_getElem? hc)) (hg d (List.mem_of_getElem? hd)) (by omega),v,rfl,_,k6,_,e3,?_⟩
      rw [set_int]
      have eij : ((i : Int) + (j : Int)).toNat = i + j:=by omega
      rw [eij] at e1 ⊢
      refine (hPw _ _ _).mpr ⟨(g5.trans g6).up nl _,_,_,_,by rw [List.length_set]; exact hrl,fun e he=>?_,fun x=>?_,upd_same,rfl⟩
      · rcases mem_set he with w | w
        · exact Nat.le_trans (hrb e w) (Nat.mul_le_mul_right _ (Nat.le_succ _))
        · rw [w]
          exact steps (hrb v (List.mem_of_getElem? e1)) hcd
      · rw [Dr.pev_set x (c * d) r (i + j) v e1,hre,Dr.pev_take_succ hd,Dr.pow_add']
        generalize x ^ i = X
        generalize x ^ j = Y
        grind
    · intro σ H5 z
      obtain ⟨g5,r,t5,t6,hrl,hrb,hre,k5,rfl⟩:=(hPw _ _ _).mp z
      refine (hPv _ _ _).mpr ⟨g5,r,_,_,_,_,hrl,fun c hc=>?_,fun x=>?_,k5,rfl⟩
      · rw [Nat.succ_mul]
        exact hrb c hc
      · rw [hre,List.take_length,Dr.pev_take_succ hc]
        grind
  · intro σ H3 z
    obtain ⟨g3,r,t3,t4,t5,t6,hrl,hrb,hre,k3,rfl⟩:=(hPv _ _ _).mp z
    try walk_at "dr1"
    rw [List.take_length] at hre
    refine q l r H3 ⟨hrl,hre⟩ (fun c hc=>?_) nl g3 k3
    have h1:=hrb c hc
    have h2 : f.length * g.length * M ≤ 3600 * M:=Nat.mul_le_mul_right _ (Nat.mul_le_mul (show f.length ≤ 60 by omega) (show g.length ≤ 60 by omega))
    show c.natAbs < 2 ^ (m + n + 12)
    rw [Nat.pow_add,← hM]
    have : (2 : Nat) ^ 12 = 4096:=by decide
    have : 0 < M:=by rw [hM]; exact Nat.pow_pos (by decide)
    omega
def sp_seen_from (K : PySem.W.Frag) : Sp:=fun vs H Q _=>∃ (p : Int) (b : Addr) (f : List Int) (a e : Int) (m n : Nat),vs = [.int p,.ref b,.int a,.int e] ∧ SqL K H b (f.map V.int) ∧ (0 < f.length ∧ f.length ≤ 60) ∧ (2 ≤ p ∧ p < 1000) ∧ (0 ≤ e ∧ e < 1000) ∧ Dr.PolyB f m ∧ Dr.Sm a n ∧ (10 * e.toNat + 1 ≤ n ∧ n ≤ 15000 ∧ m ≤ 50000) ∧
  ∀ (c : Addr) (s : List Int) (H' : Hp),Dr.IsSeen f a (p ^ e.toNat) s → Dr.PolyB s (m + f.length * (n + 13)) → H c = none → Same H H' → H' c = some (.lst (s.map V.int)) → Q (.ref c) H'
theorem drop_init {f : List Int} (h : 0 < f.length) {i : Nat} {c : Int} (hc : f.dropLast.reverse[i]? = some c) : f.drop (f.length - 1 - (i + 1)) = c :: f.drop (f.length - 1 - i):=by
  have hi : i < f.dropLast.length:=by
    have:=(List.getElem?_eq_some_iff.mp hc).1
    simpa using this
  have hi' : i < f.length - 1:=by simpa using hi
  rw [List.getElem?_reverse hi,List.length_dropLast] at hc
  have h2 : f.length - 1 - (i + 1) < f.length:=by omega
  rw [List.drop_eq_getElem_cons h2,show f.length - 1 - (i + 1) + 1 = f.length - 1 - i by omega]
  congr 1
  have h3 : f.length - 1 - 1 - i = f.length - 1 - (i + 1):=by omega
  rw [h3,List.getElem?_dropLast,if_pos (by omega),List.getElem?_eq_getElem h2] at hc
  exact Option.some.inj hc
theorem ok_seen_from (B : Bi mg K w) (d_power_of : Def P w K mg base "power_of" 1 ["p","e"] (sp_power_of K)) (d_poly_product : Def P w K mg base "poly_product" 1 ["f","g"] (sp_poly_product K)) (F : Fun K "seen_from" "seen_from" s_seen_from f fd) : FnOk P w K mg base CX0 2 f fd ["p","f","a","e"] (sp_seen_from K):=by
  refine F.ok S_seen_from (fun vs H Q E h=>?_) (fun cdv A outer s H vs Q E hr h=>?_)
  · obtain ⟨p,b,f,a,e,m,n,rfl,_⟩:=h
    rfl
  obtain ⟨p,b,f,a,e,m,n,rfl,hS,hl,hp,he,hf,ha,hmn,q⟩:=h
  have S:=S_seen_from
  refine ⟨_,((pss_cons (ps_set (i:=4) S.nd rfl (Or.inl rfl) (pe_lst (pa_cons (pv 2) (pa_cons (pe_def d_power_of hr rfl (pa_cons (pv 0) (pa_cons (pv 3) pa_nil))) pa_nil))))
    (pss_cons (ps_set (i:=5) S.nd rfl (Or.inl rfl) (pe_lst (pa_cons (pe_ix ix_list (pv 1) (pe_un un_neg pe_int) (fun _ _=>rfl)) pa_nil)))
    (pss_cons (ps_for PassesOwn.never rfl (pi_rev rfl B.b_reversed (pe_slice sl_list (pv 1) po_none (po_some (pe_un un_neg pe_int)))) (pg_name (i:=6) S.nd rfl (Or.inl rfl)) (pss_cons (ps_set (i:=5) S.nd rfl (Or.inl rfl) (pe_def d_poly_product hr rfl (pa_cons (pv 5) (pa_cons (pv 4) pa_nil))))
    (pss_one (ps_augS (pv 5) pe_int get_list (pv 6) ip_add set_list))))
    (pss_one (ps_ret (pv 5))))))),?_⟩
  have bp : Dr.Sm (p ^ e.toNat) n:=(show Dr.Sm (p ^ e.toNat) (10 * e.toNat + 1) from pow_bits hp e.toNat).mono hmn.1
  have bps : Dr.PolyB [a,p ^ e.toNat] n:=fun c hc=>by
    rcases List.mem_cons.mp hc with w | w
    · rw [w]; exact ha
    · rw [List.mem_singleton.mp w]; exact bp
  (try dsimp only); (first | refine seqI ?_ | skip); try walk_at "dr2"; (try simp only [sp_power_of,sp_poly_product]); try walk_at "dr2"
  refine ⟨hp.1,hp.2,by omega,by omega,by decide,?_⟩
  intro l1 n_l1; generalize e_l1 : upd _ l1 _ = H1; obtain ⟨g1,k1⟩:=newH e_l1 n_l1; clear e_l1
  have k1 : H1 l1 = some (.lst ([a,p ^ e.toNat].map V.int)):=k1
  obtain ⟨x0,hx0⟩ : ∃ x0,f.getLast? = some x0:=⟨f.getLast (List.ne_nil_of_length_pos hl.1),List.getLast?_eq_some_getLast _⟩
  (try dsimp only); (first | refine seqI ?_ | skip); try walk_at "dr2"; (try simp only [sp_power_of,sp_poly_product]); try walk_at "dr2"
  refine ⟨_,g1.seq hS,_,atI_back hx0,by decide,?_⟩
  intro l2 n_l2; generalize e_l2 : upd _ l2 _ = H2; obtain ⟨g2,k2⟩:=newH e_l2 n_l2; clear e_l2
  have k2 : H2 l2 = some (.lst ([x0].map V.int)):=k2
  (try dsimp only); (first | refine seqI ?_ | skip); try walk_at "dr2"; (try simp only [sp_power_of,sp_poly_product]); try walk_at "dr2"
  refine ⟨_,(g1.trans g2).seq hS,?_⟩
  intro l3 n_l3; generalize e_l3 : upd _ l3 _ = H3; obtain ⟨g3,k3⟩:=newH e_l3 n_l3; clear e_l3
  rw [cut_init] at k3
  refine ⟨_,SqL.of k3,?_⟩
  have G3:=g1.trans (g2.trans g3)
  have ed : f.drop (f.length - 1) = [x0]:=by
    have h2 : f.length - 1 < f.length:=by omega
    rw [List.drop_eq_getElem_cons h2,show f.length - 1 + 1 = f.length by omega,List.drop_length]
    rw [List.getLast?_eq_getElem?,List.getElem?_eq_getElem h2] at hx0
    rw [Option.some.inj hx0]
  obtain ⟨Pv,hPv⟩ : ∃ Pv : Nat → St → Hp → Prop,∀ i σ H4,Pv i σ H4 ↔ (Same H3 H4 ∧ ∃ (c : Addr) (s : List Int) (t6 : Option V),H c = none ∧ H4 c = some (.lst (s.map V.int)) ∧ s.length = i + 1 ∧ Dr.PolyB s (m + i * (n + 13)) ∧ (∀ y,Dr.pev s y = Dr.pev (f.drop (f.length - 1 - i)) (a + p ^ e.toNat * y)) ∧ σ = [some (.int p),some (.ref b),some (.int a),some (.int e),some (.ref l1),some (.ref c),t6]):=⟨_,fun _ _ _=>Iff.rfl⟩
  refine forV f.dropLast Pv (by rw [List.length_map]) ((hPv _ _ _).mpr ⟨Same.refl _,l2,[x0],none,g1.free n_l2,g3 _ _ k2,rfl,fun c hc=>?_,fun y=>by rw [Nat.sub_zero,ed]; simp [Dr.pev],rfl⟩) (fun i σ H4 z=>by obtain ⟨g,_⟩:=(hPv _ _ _).mp z; exact SqL.of (g _ _ k3)) ?_ ?_
  · rw [List.mem_singleton.mp hc]
    exact (hf x0 (List.mem_of_getLast? hx0)).mono (by omega)
  · intro i c σ H4 hc z
    obtain ⟨g4,lc,s,t6,nc,kc,hsl,hsb,hse,rfl⟩:=(hPv _ _ _).mp z
    have hi : i < f.length - 1:=by
      have:=(List.getElem?_eq_some_iff.mp hc).1
      simpa using this
    have hib : i * (n + 13) ≤ 60 * 15013:=Nat.mul_le_mul (by omega) (by omega)
    (try dsimp only); (first | refine seqI ?_ | skip); try walk_at "dr2"; (try simp only [sp_power_of,sp_poly_product]); try walk_at "dr2"
    refine ⟨s,SqL.of kc,[a,p ^ e.toNat],SqL.of (g4 _ _ (g3 _ _ (g2 _ _ k1))),by omega,by omega,by simp,by simp,_,hsb,n,bps,by omega,by omega,fun lr r H5 hr hrb nr g5 kr=>?_⟩
    have hrl:=hr.len
    simp only [List.length_cons,List.length_nil] at hrl
    obtain ⟨v,e1,_,e3,e4⟩:=get_int (fs:=r) (k:=0) (by omega) (by omega)
    try walk_at "dr1"; (try simp only [sp_power_of,sp_poly_product]); try walk_at "dr1"
    refine ⟨_,SqL.of kr,_,e4,v,rfl,_,kr,_,e3,?_⟩
    rw [set_int]
    have e0 : Int.toNat 0 = 0:=rfl
    rw [e0] at e1 ⊢
    have n3:=g4.free nr
    have hs1 : (i + 1) * (n + 13) = i * (n + 13) + (n + 13):=Nat.succ_mul ..
    refine (hPv _ _ _).mpr ⟨(g4.trans g5).up n3 _,lr,_,_,G3.free n3,upd_same,by rw [List.length_set]; omega,fun d hd=>?_,fun y=>?_,rfl⟩
    · rcases mem_set hd with w | w
      · exact (hrb d w).mono (by omega)
      · rw [w]
        exact ((hrb v (List.mem_of_getElem? e1)).add (hf c (List.dropLast_subset _ (List.mem_reverse.mp (List.mem_of_getElem? hc))))).mono (by omega)
    · rw [Dr.pev_set y c r 0 v e1,hr.ev,hse,drop_init hl.1 hc]
      simp only [Dr.pev,Int.pow_zero]
      generalize Dr.pev (List.drop (f.length - 1 - i) f) (a + p ^ e.toNat * y) = X
      generalize p ^ e.toNat = q
      grind
  · intro σ H4 z
    obtain ⟨g4,lc,s,t6,nc,kc,hsl,hsb,hse,rfl⟩:=(hPv _ _ _).mp z
    rw [List.length_dropLast] at hsl hsb hse
    try walk_at "dr1"; (try simp only [sp_power_of,sp_poly_product]); try walk_at "dr1"
    refine q lc s H4 ⟨by omega,fun y=>?_⟩ (fun c hc=>(hsb c hc).mono ?_) nc (G3.trans g4) kc
    · rw [hse,Nat.sub_self,List.drop_zero]
    · exact Nat.add_le_add_left (Nat.mul_le_mul_right _ (by omega)) _
def sp_content_of (K : PySem.W.Frag) : Sp:=fun vs H Q E=>∃ (p : Int) (b : Addr) (f : List Int),vs = [.int p,.ref b] ∧ SqL K H b (f.map V.int) ∧ f.length ≤ 60 ∧ (2 ≤ p ∧ p < 1000) ∧
  ((∃ c,c ∈ f ∧ c ≠ 0) → ∀ (c : Nat) (H' : Hp),Dr.IsCont p f c → Same H H' → Q (.int (c : Int)) H') ∧ ((∀ c,c ∈ f → c = 0) → ∀ H',Same H H' → E (.ref (clK K "NoDepth")) none H')
theorem all_beq {l : List Int} {p : Int} : ((l.map fun x=>decide (x % p = 0)).all id = true) ↔ ∀ x,x ∈ l → x % p = 0:=by
  simp [List.all_map]
theorem cont_turn {p : Int} (hp : 2 ≤ p) {f l : List Int} {c : Nat} (e : f = l.map (p ^ c * ·)) (h : ∀ x,x ∈ l → x % p = 0) : f = (l.map (· / p)).map (p ^ (c + 1) * ·):=by
  rw [e,List.map_map]
  refine List.map_congr_left fun x hx=>?_
  have:=Int.mul_ediv_add_emod x p
  rw [h x hx] at this
  simp only [Function.comp]
  rw [Int.pow_succ,Int.mul_assoc]
  congr 1
  omega
theorem cont_end {p : Int} (hp : 2 ≤ p) {f l : List Int} {c : Nat} (e : f = l.map (p ^ c * ·)) (h : ∃ x,x ∈ l ∧ x % p ≠ 0) : Dr.IsCont p f c:=by
  have q0:=Dr.pow_pos hp c
  refine ⟨fun x hx=>?_,?_⟩
  · rw [e,List.mem_map] at hx
    obtain ⟨y,_,rfl⟩:=hx
    simp
  · obtain ⟨x,hx,n⟩:=h
    refine ⟨p ^ c * x,by rw [e]; exact List.mem_map_of_mem hx,?_⟩
    rw [Int.mul_ediv_cancel_left _ (by omega)]
    exact n
theorem cont_ex {p : Int} (hp : 2 ≤ p) {f : List Int} (h : ∃ c,c ∈ f ∧ c ≠ 0) : ∃ c,Dr.IsCont p f c:=by
  obtain ⟨x,hx,x0⟩:=h
  obtain ⟨d,u,hd⟩:=Dr.fac hp x0
  have go : ∀ n : Nat,n ≤ d → (∃ c,Dr.IsCont p f c) ∨ ∀ y,y ∈ f → y % p ^ n = 0:=by
    intro n
    induction n with
    | zero=>intro _; exact .inr fun y _=>by simp [Int.emod_one]
    | succ n ih=>
      intro hn
      rcases ih (by omega) with z | z
      · exact .inl z
      by_cases w : ∀ y,y ∈ f → y % p ^ (n + 1) = 0
      · exact .inr w
      · left
        refine ⟨n,z,?_⟩
        refine Decidable.byContradiction fun hno=>w fun y hy=>Decidable.byContradiction fun hy0=>hno ⟨y,hy,fun w2=>hy0 ?_⟩
        have e1:=Int.mul_ediv_add_emod y (p ^ n)
        rw [z y hy] at e1
        obtain ⟨k,ek⟩:=Int.dvd_of_emod_eq_zero w2
        rw [ek,Int.add_zero,← Int.mul_assoc,← Int.pow_succ] at e1
        rw [← e1]
        simp
  rcases go d (Nat.le_refl _) with z | z
  · exact z
  · refine ⟨d,z,x,hx,?_⟩
    rw [hd.div hp]
    exact hd.2
theorem comp_rest {K : PySem.W.Frag} {H : Hp} {a : Addr} {l : List Int} {p : Int} {σ : St} {Q : VK} {i : Nat} (hS : SqL K H a (l.map V.int)) (hl : l.length ≤ 60) (hp : 2 ≤ p) (hi : σ[i]? = some (some (.int p))) (q : ∀ r,H r = none → Q (.ref r) (upd H r (.lst ((l.map fun x=>decide (x % p = 0)).map V.bl)))) :
    CompIt (Itl K a) [i] (fun _ H Q=>Q true H) (tOp rEq (tOp (rI (fun _ j=>0 < j) fun i j=>V.int (i % j)) (tVar 0) (tVar 1)) (tC (V.int 0))) σ H Q:=by
  obtain ⟨Pc,hPc⟩ : ∃ Pc : Nat → List V → Hp → Prop,∀ i ys H1,Pc i ys H1 ↔ (H1 = H ∧ ys = ((l.take i).map fun x=>decide (x % p = 0)).map V.bl):=⟨_,fun _ _ _=>Iff.rfl⟩
  refine compI l Pc (by unfold sizeLine; omega) ((hPc _ _ _).mpr ⟨rfl,by simp⟩) (fun i ys H4 z=>by obtain ⟨rfl,_⟩:=(hPc _ _ _).mp z; exact hS) ?_ ?_
  · intro j c ys H1 hc z
    obtain ⟨rfl,rfl⟩:=(hPc _ _ _).mp z
    simp only [capV,List.map_cons,List.map_nil,hi,Option.getD_some]
    try walk_at "dr1"
    refine ⟨by omega,(hPc _ _ _).mpr ⟨rfl,?_⟩⟩
    rw [List.take_add_one,hc,List.map_append,List.map_append]
    simp
  · intro ys H1 z
    obtain ⟨rfl,rfl⟩:=(hPc _ _ _).mp z
    intro r hr
    have:=q r hr
    rw [List.take_length]
    exact this
theorem comp_div {K : PySem.W.Frag} {H : Hp} {a : Addr} {l : List Int} {p : Int} {σ : St} {Q : VK} {i : Nat} (hS : SqL K H a (l.map V.int)) (hl : l.length ≤ 60) (hp : CDivW 0 p) (hi : σ[i]? = some (some (.int p))) (q : ∀ r,H r = none → Q (.ref r) (upd H r (.lst ((l.map (· / p)).map V.int)))) :
    CompIt (Itl K a) [i] (fun _ H Q=>Q true H) (tOp (rI CDivW fun i j=>V.int (i / j)) (tVar 0) (tVar 1)) σ H Q:=by
  obtain ⟨Pc,hPc⟩ : ∃ Pc : Nat → List V → Hp → Prop,∀ i ys H1,Pc i ys H1 ↔ (H1 = H ∧ ys = ((l.take i).map (· / p)).map V.int):=⟨_,fun _ _ _=>Iff.rfl⟩
  refine compI l Pc (by unfold sizeLine; omega) ((hPc _ _ _).mpr ⟨rfl,by simp⟩) (fun i ys H4 z=>by obtain ⟨rfl,_⟩:=(hPc _ _ _).mp z; exact hS) ?_ ?_
  · intro j c ys H1 hc z
    obtain ⟨rfl,rfl⟩:=(hPc _ _ _).mp z
    simp only [capV,List.map_cons,List.map_nil,hi,Option.getD_some]
    try walk_at "dr1"
    refine ⟨hp,(hPc _ _ _).mpr ⟨rfl,?_⟩⟩
    rw [List.take_add_one,hc,List.map_append,List.map_append]
    simp
  · intro ys H1 z
    obtain ⟨rfl,rfl⟩:=(hPc _ _ _).mp z
    intro r hr
    have:=q r hr
    rw [List.take_length]
    exact this
theorem turn_nat {p y : Int} (hp : 2 ≤ p) (hy : y ≠ 0) (h : y % p = 0) : y / p ≠ 0 ∧ (y / p).natAbs < y.natAbs:=by
  have e1 : y = p * (y / p):=by have:=Int.mul_ediv_add_emod y p; omega
  have n0 : y / p ≠ 0:=fun z=>by rw [z] at e1; simp at e1; exact hy e1
  refine ⟨n0,?_⟩
  have e2 : y.natAbs = p.natAbs * (y / p).natAbs:=by rw [← Int.natAbs_mul,← e1]
  have l1 : 2 * (y / p).natAbs ≤ p.natAbs * (y / p).natAbs:=Nat.mul_le_mul_right _ (by omega)
  omega
theorem ok_content_of (B : Bi mg K w) (d_degree_of : Def P w K mg base "degree_of" 1 ["f"] (sp_degree_of K)) (F : Fun K "content_of" "content_of" s_content_of f fd) : FnOk P w K mg base (CXE P w) 2 f fd ["p","f"] (sp_content_of K):=by
  refine F.okE S_content_of (fun vs H Q E h=>?_) (fun cdv A outer s H vs Q E hr h=>?_)
  · obtain ⟨p,b,f,rfl,_⟩:=h
    rfl
  obtain ⟨p,b,f,rfl,hS,hl,hp,q,qx⟩:=h
  have S:=S_content_of
  refine ⟨_,((pss_cons (ps_if (pt_cmpR op_eq (pe_def d_degree_of hr rfl (pa_cons (pv 1) pa_nil)) (pe_un un_neg pe_int) (nomark _)) (pss_one (ps_raise thrE rfl rfl B.c_NoDepth B.x_NoDepth (pa_cons pe_str pa_nil))) pss_nil)
    (pss_cons (ps_set (i:=2) S.nd rfl (Or.inl rfl) pe_int)
    (pss_cons (ps_set (i:=3) S.nd rfl (Or.inl rfl) (pv 1))
    (pss_cons (ps_nox (ps_while PassesOwn.never (pt_val (pe_callB (call_allB rfl) rfl B.b_all bt_all (pa_cons (pe_comp [0] ["p"] rfl rfl ⟨rfl,trivial⟩ ⟨rfl,rfl,rfl,rfl,trivial⟩ rfl rfl (by decide) (by decide) rfl rfl (by decide) (pi_list (pv 3)) (fun _ _ _ _=>pts_nil) (fun _ _ _ _=>(pe_cmpR op_eq (pe_op op_mod (pv 0) (pv 1)) pe_int (nomark _)))) pa_nil))) (pss_cons (ps_comp [0] ["p"] rfl S.nd (k:=3) rfl rfl rfl rfl ⟨rfl,trivial⟩ ⟨rfl,rfl,rfl,rfl,trivial⟩ rfl rfl (by decide) (by decide) rfl rfl (by decide) (pi_list (pv 3)) (fun _ _ _ _=>pts_nil) (fun _ _ _ _=>(pe_op op_fdivW (pv 0) (pv 1))))
    (pss_one (ps_aug (i:=2) S.nd rfl (Or.inl rfl) pe_int ip_add)))))
    (pss_one (ps_ret (pv 2)))))))),?_⟩
  (try dsimp only); (first | refine seqI ?_ | skip); try walk_at "dr2"; (try simp only [sp_degree_of]); try walk_at "dr2"
  refine ⟨f,hS,fun d H1 hd g1=>ite2 (fun c=>⟨by decide,?_⟩) (fun c=>?_)⟩
  · rcases hd with ⟨_,z⟩ | ⟨k,_,z,_⟩
    · exact qx z H1 g1
    · omega
  obtain ⟨k,x0,e0,ek,hx0⟩ : ∃ (k : Nat) (x0 : Int),d = (k : Int) ∧ f[k]? = some x0 ∧ x0 ≠ 0:=by
    rcases hd with ⟨z,_⟩ | ⟨k,x0,z,z1,z2,_⟩
    · exact absurd z c
    · exact ⟨k,x0,z,z1,z2⟩
  have q:=q ⟨x0,List.mem_of_getElem? ek,hx0⟩
  (try dsimp only); (first | refine seqI ?_ | skip); try walk_at "dr2"; (try simp only [sp_degree_of]); try walk_at "dr2"
  (try dsimp only); (first | refine seqI ?_ | skip); try walk_at "dr2"; (try simp only [sp_degree_of]); try walk_at "dr2"
  refine seqI ?_
  obtain ⟨W,hW⟩ : ∃ W : Nat → St → Hp → Prop,∀ m' σ H2,W m' σ H2 ↔ (Same H1 H2 ∧ ∃ (a : Addr) (l : List Int) (c : Nat) (y : Int),SqL K H2 a (l.map V.int) ∧ l.length = f.length ∧ f = l.map (p ^ c * ·) ∧ l[k]? = some y ∧ y ≠ 0 ∧ m' = y.natAbs ∧ σ = [some (.int p),some (.ref b),some (.int (c : Int)),some (.ref a)]):=⟨_,fun _ _ _=>Iff.rfl⟩
  refine whB W x0.natAbs ((hW _ _ _).mpr ⟨Same.refl _,b,f,0,x0,g1.seq hS,rfl,by simp,ek,hx0,rfl,rfl⟩) ?_
  intro m' σ H2 z
  obtain ⟨g2,a,l,c,y,hS2,hll,ef,ey,hy,rfl,rfl⟩:=(hW _ _ _).mp z
  try walk_at "dr1"; (try simp only [sp_degree_of]); try walk_at "dr1"
  refine ⟨⟨_,hS2⟩,comp_rest hS2 (by omega) hp.1 rfl ?_⟩
  intro r n_r; generalize e_r : upd _ r _ = H3; obtain ⟨g3,k3⟩:=newH e_r n_r; clear e_r
  refine ⟨_,rfl,_,SqL.of k3,?_⟩
  try walk_at "dr1"; (try simp only [sp_degree_of]); try walk_at "dr1"
  refine ite2 (fun c0=>?_) (fun c0=>?_)
  · have hall:=all_beq.mp c0
    refine ⟨_,fun _ _ h=>h,?_⟩
    try walk_at "dr1"; (try simp only [sp_degree_of]); try walk_at "dr1"
    refine ⟨⟨_,g3.seq hS2⟩,comp_div (g3.seq hS2) (by omega) (log_small hp) rfl ?_⟩
    intro r4 n_r4; generalize e_r4 : upd _ r4 _ = H4; obtain ⟨g4,k4⟩:=newH e_r4 n_r4; clear e_r4
    have t:=turn_nat hp.1 hy (hall y (List.mem_of_getElem? ey))
    exact ⟨_,t.2,(hW _ _ _).mpr ⟨g2.trans (g3.trans g4),r4,l.map (· / p),c + 1,y / p,SqL.of k4,by rw [List.length_map]; exact hll,cont_turn hp.1 ef hall,by rw [List.getElem?_map,ey]; rfl,t.1,rfl,rfl⟩⟩
  · refine q c H3 (cont_end hp.1 ef ?_) (g1.trans (g2.trans g3))
    refine Decidable.byContradiction fun hno=>c0 (all_beq.mpr fun x hx=>Decidable.byContradiction fun hx'=>hno ⟨x,hx,hx'⟩)
def sp_without_content (K : PySem.W.Frag) : Sp:=fun vs H Q _=>∃ (p : Int) (b : Addr) (f : List Int) (m : Nat),vs = [.int p,.ref b] ∧ SqL K H b (f.map V.int) ∧ f.length ≤ 60 ∧ (2 ≤ p ∧ p < 1000) ∧ (∃ c,c ∈ f ∧ c ≠ 0) ∧ Dr.PolyB f m ∧ m ≤ 8900 ∧
  ∀ (c : Nat) (r : Addr) (H' : Hp),Dr.IsCont p f c → H r = none → Same H H' → H' r = some (.lst ((Dr.pdiv (p ^ c) f).map V.int)) → Q (.ref r) H'
theorem cont_lt {p : Int} {f : List Int} {c m : Nat} (hp : 2 ≤ p) (h : ∃ x,x ∈ f ∧ x ≠ 0) (hc : Dr.IsCont p f c) (hb : Dr.PolyB f m) : (p ^ c).natAbs < 2 ^ m:=by
  obtain ⟨x,hx,n⟩:=h
  obtain ⟨k,e⟩:=Int.dvd_of_emod_eq_zero (hc.1 x hx)
  have k0 : k ≠ 0:=fun z=>by
    rw [z,Int.mul_zero] at e
    exact n e
  have h1:=hb x hx
  unfold Dr.Sm at h1
  have h2 : x.natAbs = (p ^ c).natAbs * k.natAbs:=by rw [← Int.natAbs_mul,← e]
  have h3 : (p ^ c).natAbs * 1 ≤ (p ^ c).natAbs * k.natAbs:=Nat.mul_le_mul_left _ (by omega)
  omega
theorem cont_bound {p : Int} {f : List Int} {c m : Nat} (hp : 2 ≤ p) (h : ∃ x,x ∈ f ∧ x ≠ 0) (hc : Dr.IsCont p f c) (hb : Dr.PolyB f m) : c < m + 1:=by
  have h1:=cont_lt hp h hc hb
  have h2:=Dr.two_pow_le hp c
  have h3 : 2 ^ c < 2 ^ m:=by omega
  have:=(Nat.pow_lt_pow_iff_right (show 1 < 2 by decide)).mp h3
  omega
theorem ok_without_content (B : Bi mg K w) (d_power_of : Def P w K mg base "power_of" 1 ["p","e"] (sp_power_of K)) (d_content_of : DefE P w K mg base "content_of" 2 ["p","f"] (sp_content_of K)) (F : Fun K "without_content" "without_content" s_without_content f fd) : FnOk P w K mg base CX0 3 f fd ["p","f"] (sp_without_content K):=by
  refine F.ok S_without_content (fun vs H Q E h=>?_) (fun cdv A outer s H vs Q E hr h=>?_)
  · obtain ⟨p,b,f,m,rfl,_⟩:=h
    rfl
  obtain ⟨p,b,f,m,rfl,hS,hl,hp,hne,hb,hm,q⟩:=h
  have S:=S_without_content
  refine ⟨_,((pss_cons (ps_set (i:=2) S.nd rfl (Or.inr rfl) (pe_def d_power_of hr rfl (pa_cons (pv 0) (pa_cons (pe_defE pass00 d_content_of hr rfl (pa_cons (pv 0) (pa_cons (pv 1) pa_nil))) pa_nil))))
    (pss_one (ps_ret (pe_comp [2] ["power"] rfl rfl ⟨rfl,trivial⟩ ⟨rfl,rfl,rfl,rfl,trivial⟩ rfl rfl (by decide) (by decide) rfl rfl (by decide) (pi_list (pv 1)) (fun _ _ _ _=>pts_nil) (fun _ _ _ _=>(pe_op op_fdivW (pv 0) (pv 1)))))))),?_⟩
  (try dsimp only); (first | refine seqI ?_ | skip); try walk_at "dr2"; (try simp only [sp_power_of,sp_content_of]); try walk_at "dr2"
  refine ⟨f,hS,hl,hp.1,hp.2,fun _ c H1 hc g1=>⟨hp.1,hp.2,by omega,?_,⟨_,g1.seq hS⟩,?_⟩,fun z=>?_⟩
  · have:=cont_bound hp.1 hne hc hb
    omega
  · rw [Int.toNat_natCast]
    refine comp_div (p:=p ^ c) (g1.seq hS) hl ⟨Dr.pow_pos hp.1 c,?_⟩ rfl ?_
    · have h1:=cont_lt hp.1 hne hc hb
      have h2 : (2 : Nat) ^ m ≤ 2 ^ 8999:=Nat.pow_le_pow_right (by decide) (by omega)
      have h3:=Dr.pow_pos hp.1 c
      have : (p ^ c).natAbs.log2 < 8999:=(Nat.log2_lt (by omega)).mpr (Nat.lt_of_lt_of_le h1 h2)
      omega
    · intro r n_r; generalize e_r : upd _ r _ = H2; obtain ⟨g2,k2⟩:=newH e_r n_r; clear e_r
      exact q c r H2 hc (g1.free n_r) (g1.trans g2) k2
  · obtain ⟨x,hx,n⟩:=hne
    exact absurd (z x hx) n
def restsOf (p : Int) (f : List Int) : List Int:=((List.range p.toNat).map fun k : Nat=>(k : Int)).filter fun r=>decide (Dr.pev f r % p = 0)
def sp_rests_by_prime (K : PySem.W.Frag) : Sp:=fun vs H Q _=>∃ (p : Int) (b : Addr) (f : List Int),vs = [.int p,.ref b] ∧ SqL K H b (f.map V.int) ∧ f.length ≤ 60 ∧ (2 ≤ p ∧ p < 1000) ∧
  ∀ (r : Addr) (H' : Hp),H r = none → Same H H' → H' r = some (.lst ((restsOf p f).map V.int)) → Q (.ref r) H'
theorem comp_mod {K : PySem.W.Frag} {H : Hp} {a : Addr} {l : List Int} {p : Int} {σ : St} {Q : VK} {i : Nat} (hS : SqL K H a (l.map V.int)) (hl : l.length ≤ 60) (hp : 0 < p) (hi : σ[i]? = some (some (.int p))) (q : ∀ r,H r = none → Q (.ref r) (upd H r (.lst ((l.map (· % p)).map V.int)))) :
    CompIt (Itl K a) [i] (fun _ H Q=>Q true H) (tOp (rI (fun _ j=>0 < j) fun i j=>V.int (i % j)) (tVar 0) (tVar 1)) σ H Q:=by
  obtain ⟨Pc,hPc⟩ : ∃ Pc : Nat → List V → Hp → Prop,∀ i ys H1,Pc i ys H1 ↔ (H1 = H ∧ ys = ((l.take i).map (· % p)).map V.int):=⟨_,fun _ _ _=>Iff.rfl⟩
  refine compI l Pc (by unfold sizeLine; omega) ((hPc _ _ _).mpr ⟨rfl,by simp⟩) (fun i ys H4 z=>by obtain ⟨rfl,_⟩:=(hPc _ _ _).mp z; exact hS) ?_ ?_
  · intro j c ys H1 hc z
    obtain ⟨rfl,rfl⟩:=(hPc _ _ _).mp z
    simp only [capV,List.map_cons,List.map_nil,hi,Option.getD_some]
    try walk_at "dr1"
    refine ⟨hp,(hPc _ _ _).mpr ⟨rfl,?_⟩⟩
    rw [List.take_add_one,hc,List.map_append,List.map_append]
    simp
  · intro ys H1 z
    obtain ⟨rfl,rfl⟩:=(hPc _ _ _).mp z
    intro r hr
    have:=q r hr
    rw [List.take_length]
    exact this
theorem pev_mods {p x : Int} : ∀ f : List Int,(Dr.pev (f.map (· % p)) x - Dr.pev f x) % p = 0
  | []=>by simp [Dr.pev]
  | a :: f=>by
    have ih:=pev_mods (p:=p) (x:=x) f
    have h1:=Dr.dvd_add_of (Dr.rest_sub p a) (Dr.dvd_mul_l x ih)
    simp only [List.map_cons,Dr.pev]
    rw [Int.mul_sub] at h1
    have e : a % p + x * Dr.pev (f.map (· % p)) x - (a + x * Dr.pev f x) = a % p - a + (x * Dr.pev (f.map (· % p)) x - x * Dr.pev f x):=by omega
    rw [e]
    exact h1
theorem pev_mods_iff {p x : Int} (f : List Int) : Dr.pev (f.map (· % p)) x % p = 0 ↔ Dr.pev f x % p = 0:=by
  have h:=pev_mods (p:=p) (x:=x) f
  constructor
  · intro z
    have:=Dr.dvd_sub_of z h
    rwa [show Dr.pev (f.map (· % p)) x - (Dr.pev (f.map (· % p)) x - Dr.pev f x) = Dr.pev f x by omega] at this
  · intro z
    have:=Dr.dvd_add_of h z
    rwa [Int.sub_add_cancel] at this
def restsTo (p : Int) (f : List Int) (n : Nat) : List Int:=((List.range n).map fun k : Nat=>(k : Int)).filter fun r=>decide (Dr.pev f r % p = 0)
theorem restsTo_succ (p : Int) (f : List Int) (n : Nat) : restsTo p f (n + 1) = restsTo p f n ++ if Dr.pev f (n : Int) % p = 0 then [(n : Int)] else []:=by
  unfold restsTo
  rw [List.range_succ,List.map_append,List.filter_append]
  congr 1
  by_cases z : Dr.pev f (n : Int) % p = 0
  · simp [z]
  · simp [z]
theorem ok_rests_by_prime (B : Bi mg K w) (d_worth_at : Def P w K mg base "worth_at" 1 ["f","x"] (sp_worth_at K)) (F : Fun K "rests_by_prime" "rests_by_prime" s_rests_by_prime f fd) : FnOk P w K mg base CX0 2 f fd ["p","f"] (sp_rests_by_prime K):=by
  refine F.ok S_rests_by_prime (fun vs H Q E h=>?_) (fun cdv A outer s H vs Q E hr h=>?_)
  · obtain ⟨p,b,f,rfl,_⟩:=h
    rfl
  obtain ⟨p,b,f,rfl,hS,hl,hp,q⟩:=h
  have S:=S_rests_by_prime
  refine ⟨_,((pss_cons (ps_set (i:=2) S.nd rfl (Or.inr rfl) (pe_comp [0] ["p"] rfl rfl ⟨rfl,trivial⟩ ⟨rfl,rfl,rfl,rfl,trivial⟩ rfl rfl (by decide) (by decide) rfl rfl (by decide) (pi_list (pv 1)) (fun _ _ _ _=>pts_nil) (fun _ _ _ _=>(pe_op op_mod (pv 0) (pv 1)))))
    (pss_one (ps_ret (pe_comp [0,2] ["p","small"] rfl rfl ⟨rfl,rfl,trivial⟩ ⟨rfl,rfl,rfl,rfl,rfl,rfl,rfl,rfl,trivial⟩ rfl rfl (by decide) (by decide) rfl rfl (by decide) (pi_range1 rfl B.b_range (pa_cons (pv 0) pa_nil)) (fun _ _ _ _=>(pts_one (pt_cmpR op_eq (pe_op op_mod (pe_def d_worth_at hr rfl (pa_cons (pv 2) (pa_cons (pv 0) pa_nil))) (pv 1)) pe_int (nomark _)))) (fun _ _ _ _=>(pv 0))))))),?_⟩
  (try dsimp only); (first | refine seqI ?_ | skip); try walk_at "dr2"; (try simp only [sp_worth_at]); try walk_at "dr2"
  refine ⟨⟨_,hS⟩,comp_mod hS hl (by omega) rfl ?_⟩
  intro ls n_ls; generalize e_ls : upd _ ls _ = H1; obtain ⟨g1,k1⟩:=newH e_ls n_ls; clear e_ls
  have bs : Dr.PolyB (f.map (· % p)) 10:=fun c hc=>by
    obtain ⟨x,_,rfl⟩:=List.mem_map.mp hc
    have:=mod_in x (show 0 < p by omega)
    exact sm_of 1000 (by omega) (by decide)
  refine ⟨by omega,by omega,?_⟩
  obtain ⟨Pc,hPc⟩ : ∃ Pc : Nat → List V → Hp → Prop,∀ i ys H2,Pc i ys H2 ↔ (H2 = H1 ∧ ys = (restsTo p f i).map V.int):=⟨_,fun _ _ _=>Iff.rfl⟩
  refine compR Pc (by unfold sizeLine; omega) ((hPc _ _ _).mpr ⟨rfl,rfl⟩) ?_ ?_
  · intro i ys H2 hi z
    obtain ⟨rfl,rfl⟩:=(hPc _ _ _).mp z
    try walk_at "dr1"; (try simp only [sp_worth_at]); try walk_at "dr1"
    refine ⟨_,SqL.of k1,by rw [List.length_map]; omega,10,bs,10,sm_of 1000 (by omega) (by decide),by decide,by decide,by omega,?_⟩
    rw [Int.zero_add]
    by_cases w : Dr.pev f (i : Int) % p = 0
    · rw [if_pos ((pev_mods_iff f).mpr w)]
      exact (hPc _ _ _).mpr ⟨rfl,by rw [restsTo_succ,if_pos w,List.map_append]; rfl⟩
    · rw [if_neg fun z=>w ((pev_mods_iff f).mp z)]
      exact (hPc _ _ _).mpr ⟨rfl,by rw [restsTo_succ,if_neg w,List.append_nil]⟩
  · intro ys H2 z
    obtain ⟨rfl,rfl⟩:=(hPc _ _ _).mp z
    intro r n_r; generalize e_r : upd _ r _ = H3; obtain ⟨g3,k3⟩:=newH e_r n_r; clear e_r
    exact q r H3 (g1.free n_r) (g1.trans g3) k3
def sp_divides_every_worth (K : PySem.W.Frag) : Sp:=fun vs H Q _=>∃ (p : Int) (b : Addr) (f : List Int) (N : Int) (m : Nat),vs = [.int p,.ref b,.int N] ∧ SqL K H b (f.map V.int) ∧ f.length ≤ 60 ∧ (2 ≤ p ∧ p < 1000) ∧ (0 ≤ N ∧ N < 1000) ∧ Dr.PolyB f m ∧ m ≤ 10000 ∧
  ∀ (t : Bool) (H' : Hp),(t = true ↔ ∀ y : Int,0 ≤ y → y < (f.length : Int) → Dr.pev f y % p ^ N.toNat = 0) → Same H H' → Q (.bl t) H'
theorem ok_divides_every_worth (B : Bi mg K w) (d_power_of : Def P w K mg base "power_of" 1 ["p","e"] (sp_power_of K)) (d_worth_at : Def P w K mg base "worth_at" 1 ["f","x"] (sp_worth_at K)) (F : Fun K "divides_every_worth" "divides_every_worth" s_divides_every_worth f fd) : FnOk P w K mg base CX0 2 f fd ["p","f","N"] (sp_divides_every_worth K):=by
  refine F.ok S_divides_every_worth (fun vs H Q E h=>?_) (fun cdv A outer s H vs Q E hr h=>?_)
  · obtain ⟨p,b,f,N,m,rfl,_⟩:=h
    rfl
  obtain ⟨p,b,f,N,m,rfl,hS,hl,hp,hN,hb,hm,q⟩:=h
  have S:=S_divides_every_worth
  refine ⟨_,((pss_cons (ps_set (i:=3) S.nd rfl (Or.inr rfl) (pe_def d_power_of hr rfl (pa_cons (pv 0) (pa_cons (pv 2) pa_nil))))
    (pss_one (ps_ret (pe_callB (call_allB rfl) rfl B.b_all bt_all (pa_cons (pe_comp [1,3] ["f","power"] rfl rfl ⟨rfl,rfl,trivial⟩ ⟨rfl,rfl,rfl,rfl,rfl,rfl,rfl,rfl,trivial⟩ rfl rfl (by decide) (by decide) rfl rfl (by decide) (pi_range1 rfl B.b_range (pa_cons (pe_callB call_len_seq rfl B.b_len PySem.boot_len (pa_cons (pv 1) pa_nil)) pa_nil)) (fun _ _ _ _=>pts_nil) (fun _ _ _ _=>(pe_cmpR op_eq (pe_op op_mod (pe_def d_worth_at hr rfl (pa_cons (pv 1) (pa_cons (pv 0) pa_nil))) (pv 2)) pe_int (nomark _)))) pa_nil)))))),?_⟩
  (try dsimp only); (first | refine seqI ?_ | skip); try walk_at "dr2"; (try simp only [sp_power_of,sp_worth_at]); try walk_at "dr2"
  refine ⟨hp.1,hp.2,hN.1,by omega,_,.inl hS,?_⟩
  simp only [List.length_map]
  refine ⟨by omega,by omega,?_⟩
  rw [Int.toNat_natCast]
  obtain ⟨Pc,hPc⟩ : ∃ Pc : Nat → List V → Hp → Prop,∀ i ys H2,Pc i ys H2 ↔ (H2 = H ∧ ys = ((List.range i).map fun k : Nat=>decide (Dr.pev f (k : Int) % p ^ N.toNat = 0)).map V.bl):=⟨_,fun _ _ _=>Iff.rfl⟩
  refine compR Pc (by unfold sizeLine; omega) ((hPc _ _ _).mpr ⟨rfl,rfl⟩) ?_ ?_
  · intro i ys H2 hi z
    obtain ⟨rfl,rfl⟩:=(hPc _ _ _).mp z
    try walk_at "dr1"; (try simp only [sp_power_of,sp_worth_at]); try walk_at "dr1"
    refine ⟨_,hS,by omega,m,hb,10,sm_of 1000 (by omega) (by decide),by omega,by decide,Dr.pow_pos hp.1 _,?_⟩
    rw [Int.zero_add]
    exact (hPc _ _ _).mpr ⟨rfl,by rw [List.range_succ,List.map_append,List.map_append]; rfl⟩
  · intro ys H2 z
    obtain ⟨rfl,rfl⟩:=(hPc _ _ _).mp z
    intro r n_r; generalize e_r : upd _ r _ = H3; obtain ⟨g3,k3⟩:=newH e_r n_r; clear e_r
    refine ⟨_,rfl,_,SqL.of k3,q _ H3 ?_ g3⟩
    rw [List.all_map,List.all_eq_true]
    constructor
    · intro z y h0 h1
      have:=z y.toNat (List.mem_range.mpr (by omega))
      simp only [Function.comp,id,decide_eq_true_eq] at this
      rwa [Int.toNat_of_nonneg h0] at this
    · intro z k hk
      have:=List.mem_range.mp hk
      simp only [Function.comp,id,decide_eq_true_eq]
      exact z (k : Int) (by omega) (by omega)
def spN_solving_balls_within (K : PySem.W.Frag) (n : Nat) : Sp:=fun vs H Q _=>∃ (p a e' N' : Int) (e : Nat) (s : Addr) (g : List Int) (N m : Nat) (Sol : Int → Prop),vs = [.int p,.int a,.int e',.ref s,.int N'] ∧ e' = (e : Int) ∧ N' = (N : Int) ∧ SqL K H s (g.map V.int) ∧ (0 < g.length ∧ g.length ≤ 13) ∧ p ∈ Dr.primes ∧ (0 ≤ a ∧ a < p ^ e) ∧ (e + n ≤ 200 ∧ N ≤ 200) ∧
  (((∀ x,x ∈ g → x % p = 0) ∧ N ≤ n) ∨ N + 1 ≤ n) ∧ Dr.PolyB g m ∧ m + 104 * n ≤ 8800 ∧ (∀ y,Sol (a + p ^ e * y) ↔ Dr.pev g y % p ^ N = 0) ∧
  ∀ (c : Addr) (as : List Addr) (bs : List (Int × Nat)) (H' : Hp),Dr.Tree p a e Sol bs → Dr.Cnt p g bs.length → ((∀ x,x ∈ g → x = 0) → bs.length ≤ 1) → H c = none → Same H H' → H' c = some (.lst (as.map V.ref)) → PairsAt H' as bs → Q (.ref c) H'
abbrev sp_solving_balls_within (K : PySem.W.Frag) : Sp:=spN_solving_balls_within K 62
theorem pairs_up {H : Hp} {l : Addr} {xs : List V} {o : HO} {as : List Addr} {bs : List (Int × Nat)} (h : H l = some (.lst xs)) (hP : PairsAt H as bs) : PairsAt (upd H l o) as bs:=⟨hP.1,fun i a b e1 e2=>by
  have k:=hP.2 i a b e1 e2
  rw [upd_ne fun z=>by rw [z,h] at k; cases k]
  exact k⟩
theorem ok_solving_balls_within (B : Bi mg K w) (d_power_of : Def P w K mg base "power_of" 1 ["p","e"] (sp_power_of K)) (d_seen_from : Def P w K mg base "seen_from" 2 ["p","f","a","e"] (sp_seen_from K)) (d_content_of : DefE P w K mg base "content_of" 2 ["p","f"] (sp_content_of K)) (d_without_content : Def P w K mg base "without_content" 3 ["p","f"] (sp_without_content K)) (d_rests_by_prime : Def P w K mg base "rests_by_prime" 2 ["p","f"] (sp_rests_by_prime K)) (d_divides_every_worth : Def P w K mg base "divides_every_worth" 2 ["p","f","N"] (sp_divides_every_worth K)) {n : Nat} (d_solving_balls_within : Def P w K mg base "solving_balls_within" (3 + n) ["p","a","e","seen","N"] (prevSp (spN_solving_balls_within K) n)) (F : Fun K "solving_balls_within" "solving_balls_within" s_solving_balls_within f fd) : FnOk P w K mg base CX0 (3 + n + 1) f fd ["p","a","e","seen","N"] (spN_solving_balls_within K n):=by
  refine F.ok S_solving_balls_within (fun vs H Q E h=>?_) (fun cdv A outer s H vs Q E hr h=>?_)
  · obtain ⟨p,a,e',N',e,s,g,N,m,Sol,rfl,_⟩:=h
    rfl
  obtain ⟨p,a,e',N',e,s,g,N,m,Sol,rfl,rfl,rfl,hS,hl,hp,ha,heN,hn,hb,hm,hlink,q⟩:=h
  have S:=S_solving_balls_within
  refine ⟨_,((pss_cons (ps_if (pt_val (pe_def d_divides_every_worth hr rfl (pa_cons (pv 0) (pa_cons (pv 3) (pa_cons (pv 4) pa_nil))) (hjk:=by omega))) (pss_one (ps_ret (pe_lst (pa_cons (pe_tup (pa_cons (pv 1) (pa_cons (pv 2) pa_nil))) pa_nil)))) pss_nil)
    (pss_cons (ps_set (i:=5) S.nd rfl (Or.inl rfl) (pe_op op_sub (pv 4) (pe_defE pass00 d_content_of hr rfl (pa_cons (pv 0) (pa_cons (pv 3) pa_nil)) (hjk:=by omega))))
    (pss_cons (ps_set (i:=6) S.nd rfl (Or.inl rfl) (pe_def d_without_content hr rfl (pa_cons (pv 0) (pa_cons (pv 3) pa_nil)) (hjk:=by omega)))
    (pss_cons (ps_set (i:=7) S.nd rfl (Or.inl rfl) (pe_def d_power_of hr rfl (pa_cons (pv 0) (pa_cons (pv 2) pa_nil)) (hjk:=by omega)))
    (pss_cons (ps_set (i:=8) S.nd rfl (Or.inl rfl) (pe_lst pa_nil))
    (pss_cons (ps_for PassesOwn.never rfl (pi_list (pe_def d_rests_by_prime hr rfl (pa_cons (pv 0) (pa_cons (pv 6) pa_nil)) (hjk:=by omega))) (pg_name (i:=9) S.nd rfl (Or.inl rfl)) (pss_one (ps_expr (pe_bm PySem.F.plainAttrs_list PySem.F.slot_list_extend PySem.F.type_list_extend mt_extend (pv 8) (pa_cons (pe_def d_solving_balls_within hr rfl (pa_cons (pv 0) (pa_cons (pe_op op_add (pv 1) (pe_op op_mulW (pv 9) (pv 7))) (pa_cons (pe_op op_add (pv 2) pe_int) (pa_cons (pe_def d_seen_from hr rfl (pa_cons (pv 0) (pa_cons (pv 6) (pa_cons (pv 9) (pa_cons pe_int pa_nil)))) (hjk:=by omega)) (pa_cons (pv 5) pa_nil))))) (hjk:=by omega)) pa_nil)))))
    (pss_one (ps_ret (pv 8)))))))))),?_⟩
  have p2:=Dr.primes_ge hp
  have hpp : 2 ≤ p ∧ p < 1000:=by omega
  (try dsimp only); (first | refine seqI ?_ | skip); try walk_at "dr2"; (try simp only [sp_power_of,sp_seen_from,sp_content_of,sp_without_content,sp_rests_by_prime,sp_divides_every_worth]); try walk_at "dr2"
  refine ⟨g,hS,by omega,hpp.1,hpp.2,by omega,by omega,m,hb,by omega,fun t H1 ht g1=>?_⟩
  rw [Int.toNat_natCast] at ht
  refine ite2 (fun c=>?_) (fun c=>?_)
  · -- all numbers of the ball solve
    refine ⟨by decide,?_⟩
    intro l1 n_l1; generalize e_l1 : upd _ l1 _ = H2; obtain ⟨g2,k2⟩:=newH e_l1 n_l1; clear e_l1
    refine ⟨by decide,?_⟩
    intro l2 n_l2; generalize e_l2 : upd _ l2 _ = H3; obtain ⟨g3,k3⟩:=newH e_l2 n_l2; clear e_l2
    have G:=g1.trans (g2.trans g3)
    have all:=Dr.all_worths g.length g rfl (ht.mp c)
    refine q l2 [l1] [(a,e)] H3 (Dr.Tree.leaf ha fun x hx=>?_) (Dr.Cnt.one p g) (fun _=>Nat.le_refl _) ((g1.trans g2).free n_l2) G k3 (PairsAt.one (b:=(a,e)) (g3 _ _ k2))
    obtain ⟨y,ey⟩:=Int.dvd_of_emod_eq_zero hx
    have : x = a + p ^ e * y:=by omega
    rw [this,hlink]
    exact all y
  have nall : ¬ ∀ y : Int,0 ≤ y → y < (g.length : Int) → Dr.pev g y % p ^ N = 0:=fun z=>c (ht.mpr z)
  obtain ⟨hne,hnz,hN0⟩:=Dr.not_all hlink nall
  (try dsimp only); (first | refine seqI ?_ | skip); try walk_at "dr2"; (try simp only [sp_power_of,sp_seen_from,sp_content_of,sp_without_content,sp_rests_by_prime,sp_divides_every_worth]); try walk_at "dr2"
  refine ⟨g,g1.seq hS,by omega,hpp.1,hpp.2,fun _ c0 H2 hc0 g2=>?_,fun z=>?_⟩
  case refine_2=>
    obtain ⟨x,hx,n⟩:=hnz
    exact absurd (z x hx) n
  have stp:=Dr.Step.mk' hpp.1 hc0 hlink hne
  have cN:=stp.cN
  have G2:=g1.trans g2
  (try dsimp only); (first | refine seqI ?_ | skip); try walk_at "dr2"; (try simp only [sp_power_of,sp_seen_from,sp_content_of,sp_without_content,sp_rests_by_prime,sp_divides_every_worth]); try walk_at "dr2"
  refine ⟨g,G2.seq hS,by omega,hpp.1,hpp.2,hnz,m,hb,by omega,fun c1 r H3 hc1 nr g3 k3=>?_⟩
  cases hc0.uniq hpp.1 hc1
  clear hc1
  have G3:=G2.trans g3
  have q0:=Dr.pow_pos hpp.1 c0
  have bfr:=Dr.pdiv_bits q0 hc0.1 hb
  have lfr : (Dr.pdiv (p ^ c0) g).length = g.length:=Dr.pdiv_len ..
  (try dsimp only); (first | refine seqI ?_ | skip); try walk_at "dr2"; (try simp only [sp_power_of,sp_seen_from,sp_content_of,sp_without_content,sp_rests_by_prime,sp_divides_every_worth]); try walk_at "dr2"
  refine ⟨hpp.1,hpp.2,by omega,by omega,?_⟩
  rw [Int.toNat_natCast]
  (try dsimp only); (first | refine seqI ?_ | skip); try walk_at "dr2"; (try simp only [sp_power_of,sp_seen_from,sp_content_of,sp_without_content,sp_rests_by_prime,sp_divides_every_worth]); try walk_at "dr2"
  refine ⟨by decide,?_⟩
  intro lb n_lb; generalize e_lb : upd _ lb _ = H4; obtain ⟨g4,k4⟩:=newH e_lb n_lb; clear e_lb
  have G4:=G3.trans g4
  (try dsimp only); (first | refine seqI ?_ | skip); try walk_at "dr2"; (try simp only [sp_power_of,sp_seen_from,sp_content_of,sp_without_content,sp_rests_by_prime,sp_divides_every_worth]); try walk_at "dr2"
  refine ⟨_,SqL.of (g4 _ _ k3),by omega,hpp.1,hpp.2,fun rr H5 nrr g5 k5=>?_⟩
  obtain ⟨n',rfl⟩ : ∃ n',n = n' + 1:=⟨n - 1,by omega⟩
  have G5:=G4.trans g5
  have kr:=g5 _ _ (g4 _ _ k3)
  have klb:=g5 _ _ k4
  have nlb : H lb = none:=G3.free n_lb
  have nrlb : r ≠ lb:=fun z=>by rw [z,n_lb] at k3; cases k3
  have nrrlb : rr ≠ lb:=fun z=>by rw [z,k4] at nrr; cases nrr
  obtain ⟨fr,efr⟩ : ∃ fr,fr = Dr.pdiv (p ^ c0) g:=⟨_,rfl⟩
  obtain ⟨rs,ers⟩ : ∃ rs,rs = restsOf p fr:=⟨_,rfl⟩
  rw [← efr] at kr k5 bfr lfr
  rw [← ers] at k5
  have hrs : ∀ x,x ∈ rs → (0 ≤ x ∧ x < p) ∧ Dr.pev fr x % p = 0:=fun x hx=>by
    rw [ers] at hx
    obtain ⟨h1,h2⟩:=List.mem_filter.mp hx
    obtain ⟨k,hk,rfl⟩:=List.mem_map.mp h1
    have:=List.mem_range.mp hk
    exact ⟨by omega,by simpa using h2⟩
  have hap : rs.Pairwise (fun r s=>(s - r) % p ≠ 0):=by
    rw [ers]
    exact Dr.rests_apart _ (by omega)
  refine ⟨⟨_,SqL.of k5⟩,?_⟩
  obtain ⟨Pv,hPv⟩ : ∃ Pv : Nat → St → Hp → Prop,∀ i σ H6,Pv i σ H6 ↔ ((∀ b u,b ≠ lb → H5 b = some u → H6 b = some u) ∧ ∃ (as : List Addr) (bs : List (Int × Nat)) (t9 : Option V),H6 lb = some (.lst (as.map V.ref)) ∧ PairsAt H6 as bs ∧ Dr.Part p a e Sol (rs.take i) bs ∧ Dr.Got p fr (rs.take i) bs.length ∧ σ = [some (V.int p),some (V.int a),some (V.int ↑e),some (V.ref s),some (V.int ↑N),some (V.int (↑N - ↑c0)),some (V.ref r),some (V.int (p ^ e)),some (V.ref lb),t9]):=⟨_,fun _ _ _=>Iff.rfl⟩
  refine forI rs Pv ((hPv _ _ _).mpr ⟨fun b u _ h=>h,[],[],none,klb,PairsAt.nil _,by rw [List.take_zero]; exact Dr.Part.nil,by rw [List.take_zero]; exact Dr.Got.nil _ _,rfl⟩) (fun i σ H6 z=>by obtain ⟨k6,_⟩:=(hPv _ _ _).mp z; exact SqL.of (k6 _ _ nrrlb k5)) ?_ ?_
  · intro i x σ H6 hx z
    obtain ⟨k6,as,bs,t9,kb,hP,hpt,hgt,rfl⟩:=(hPv _ _ _).mp z
    obtain ⟨hx1,hx2⟩:=hrs x (List.mem_of_getElem? hx)
    have e1 : p ^ Int.toNat 1 = p:=by show p ^ 1 = p; rw [Int.pow_succ,Int.pow_zero,Int.one_mul]
    have hlb1:=((efr ▸ hgt : Dr.Got p (Dr.pdiv (p ^ c0) g) (rs.take i) bs.length).cnt hp hc0 (hap.sublist (List.take_sublist ..))).2
    have tk : rs.take (i + 1) = rs.take i ++ [x]:=by rw [List.take_add_one,hx]; rfl
    have ne : ∀ y,y ∈ rs.take i → 0 ≤ y ∧ y < p ∧ y ≠ x:=fun y hy=>by
      obtain ⟨h1,_⟩:=hrs y (List.mem_of_mem_take hy)
      refine ⟨h1.1,h1.2,fun z=>?_⟩
      have h2 : (rs.take i ++ rs.drop i).Pairwise (fun r s=>(s - r) % p ≠ 0):=by rw [List.take_append_drop]; exact hap
      have h3 : x ∈ rs.drop i:=List.mem_of_getElem? (i:=0) (by rw [List.getElem?_drop]; exact hx)
      have h4:=(List.pairwise_append.mp h2).2.2 y hy x h3
      rw [z,Int.sub_self] at h4
      exact h4 (by simp)
    try walk_at "dr1"; (try simp only [sp_power_of,sp_seen_from,sp_content_of,sp_without_content,sp_rests_by_prime,sp_divides_every_worth]); try walk_at "dr1"
    refine ⟨⟨_,SqL.of kb⟩,IntMulOk.of_left (intBits_le_64 (by omega) (by omega)),fr,SqL.of (k6 _ _ nrlb kr),by omega,by omega,hpp.1,hpp.2,m,bfr,11,sm_of 1000 (by omega) (by decide),by decide,by decide,by omega,fun c s1 H7 hs1 _ nc g7 k7=>?_⟩
    rw [e1] at hs1
    have hsl:=hs1.len
    rw [prevSp]
    refine ⟨p,a + x * p ^ e,(e : Int) + 1,(N : Int) - c0,e + 1,c,s1,N - c0,m + 8 * fr.length,Sol,rfl,by omega,by omega,SqL.of k7,by omega,hp,Dr.ball_next hpp.1 ha hx1,by omega,.inl ⟨Dr.seen_dv hs1 hx2,?_⟩,Dr.seen_bits hs1 (by omega) (by omega) bfr,by omega,stp.seen (efr ▸ hs1),fun c2 as2 bs2 H8 ht hc2 hz2 nc2 g8 k8 hP8=>?_⟩
    · rcases hn with ⟨hd,h⟩ | h
      · have:=hc0.le hpp.1 (c':=1) fun y hy=>by rw [Int.pow_succ,Int.pow_zero,Int.one_mul]; exact hd y hy
        omega
      · omega
    · have kb8:=g8 _ _ (g7 _ _ kb)
      have hl2:=hc2.2
      have ha1:=hP.1
      have ha2:=hP8.1
      refine ⟨c2,rfl,_,kb8,_,k8,by rw [List.length_map,List.length_map]; unfold sizeLine; omega,(hPv _ _ _).mpr ⟨fun b u hb h=>by rw [upd_ne hb]; exact g8 _ _ (g7 _ _ (k6 b u hb h)),as ++ as2,bs ++ bs2,_,by rw [upd_same,List.map_append],?_,?_,?_,rfl⟩⟩
      · exact pairs_up kb8 (((hP.same g7).same g8).app hP8)
      · rw [tk]
        exact hpt.more hpp.1 ne hx1 ht stp.non
      · rw [tk,List.length_append]
        exact hgt.more hpp.1 hx2 hs1 hc2 hz2 (cont_ex hpp.1)
  · intro σ H6 z
    obtain ⟨k6,as,bs,t9,kb,hP,hpt,hgt,rfl⟩:=(hPv _ _ _).mp z
    rw [List.take_length] at hpt hgt
    try walk_at "dr1"; (try simp only [sp_power_of,sp_seen_from,sp_content_of,sp_without_content,sp_rests_by_prime,sp_divides_every_worth]); try walk_at "dr1"
    refine q lb as bs H6 (hpt.tree fun x hx sol=>?_) ((efr ▸ hgt : Dr.Got p (Dr.pdiv (p ^ c0) g) rs bs.length).cnt hp hc0 hap) (fun z=>?_) nlb (fun b u hb=>?_) kb hP
    · obtain ⟨r0,⟨h1,h2,h3⟩,h4⟩:=stp.all hpp.1 hx sol
      refine ⟨r0,?_,h4⟩
      rw [ers,efr]
      refine List.mem_filter.mpr ⟨List.mem_map.mpr ⟨r0.toNat,List.mem_range.mpr (by omega),by omega⟩,by simpa using h3⟩
    · obtain ⟨x,hx,n⟩:=hnz
      exact absurd (z x hx) n
    · exact k6 b u (fun z=>by rw [z,nlb] at hb; cases hb) (G5 b u hb)
def sp_solving_balls (K : PySem.W.Frag) : Sp:=fun vs H Q _=>∃ (p : Int) (b : Addr) (f : List Int) (N : Int) (m : Nat),vs = [.int p,.ref b,.int N] ∧ SqL K H b (f.map V.int) ∧ (0 < f.length ∧ f.length ≤ 13) ∧ p ∈ Dr.primes ∧ (0 ≤ N ∧ N ≤ 60) ∧ Dr.PolyB f m ∧ m ≤ 2300 ∧
  ∀ (c : Addr) (as : List Addr) (bs : List (Int × Nat)) (H' : Hp),Dr.Solve p (fun x=>Dr.pev f x % p ^ N.toNat = 0) bs → bs.length ≤ 13 → (∀ b,b ∈ bs → b.2 ≤ N.toNat) → H c = none → Same H H' → H' c = some (.lst (as.map V.ref)) → PairsAt H' as bs → Q (.ref c) H'
theorem ok_solving_balls (B : Bi mg K w) (d_solving_balls_within : Def P w K mg base "solving_balls_within" 66 ["p","a","e","seen","N"] (sp_solving_balls_within K)) (F : Fun K "solving_balls" "solving_balls" s_solving_balls f fd) : FnOk P w K mg base CX0 67 f fd ["p","f","N"] (sp_solving_balls K):=by
  refine F.ok S_solving_balls (fun vs H Q E h=>?_) (fun cdv A outer s H vs Q E hr h=>?_)
  · obtain ⟨p,b,f,N,m,rfl,_⟩:=h
    rfl
  obtain ⟨p,b,f,N,m,rfl,hS,hl,hp,hN,hb,hm,q⟩:=h
  have S:=S_solving_balls
  refine ⟨_,((pss_one (ps_ret (pe_callB (call_sortedP rfl) rfl B.b_sorted bt_sorted (pa_cons (pe_def d_solving_balls_within hr rfl (pa_cons (pv 0) (pa_cons pe_int (pa_cons pe_int (pa_cons (pv 1) (pa_cons (pv 2) pa_nil)))))) pa_nil))))),?_⟩
  try walk_at "dr1"; (try simp only [sp_solving_balls_within]); try walk_at "dr1"
  have p2:=Dr.primes_ge hp
  refine ⟨p,0,0,N,0,b,f,N.toNat,m,fun x=>Dr.pev f x % p ^ N.toNat = 0,rfl,rfl,(Int.toNat_of_nonneg hN.1).symm,hS,hl,hp,by simp,by omega,.inr (by omega),hb,by omega,fun y=>by simp,fun c as bs H' ht hc _ nc g1 k1 hP=>?_⟩
  have hd:=ht.depth (Nat.zero_le _)
  have hlen : bs.length ≤ 13:=by have:=hc.2; omega
  refine ⟨c,rfl,as,SqL.of k1,bs,hP,by omega,fun b hb=>by have:=hd b hb; omega,ht.ne,fun as' bs' hp' inc hP'=>?_⟩
  intro l n_l; generalize e_l : upd _ l _ = H2; obtain ⟨g2,k2⟩:=newH e_l n_l; clear e_l
  exact q l as' bs' H2 ⟨ht.perm hp'.symm,inc⟩ (by rw [hp'.length_eq]; exact hlen) (fun b hb=>hd b (hp'.mem_iff.mp hb)) (g1.free n_l) (g1.trans g2) k2 (hP'.same g2)
def sp_solving_rests (K : PySem.W.Frag) : Sp:=fun vs H Q _=>∃ (p : Int) (b : Addr) (f : List Int) (N : Int) (m : Nat),vs = [.int p,.ref b,.int N] ∧ SqL K H b (f.map V.int) ∧ (0 < f.length ∧ f.length ≤ 13) ∧ p ∈ Dr.primes ∧ (0 ≤ N ∧ N ≤ 60) ∧ Dr.PolyB f m ∧ m ≤ 2300 ∧
  ∀ (bs : List (Int × Nat)) (H' : Hp),Dr.Solve p (fun x=>Dr.pev f x % p ^ N.toNat = 0) bs → (∀ b,b ∈ bs → b.2 ≤ N.toNat) → Same H H' → Q (.int ((Dr.massOf p N.toNat bs : Nat) : Int)) H'
theorem ok_solving_rests (B : Bi mg K w) (d_power_of : Def P w K mg base "power_of" 1 ["p","e"] (sp_power_of K)) (d_solving_balls : Def P w K mg base "solving_balls" 67 ["p","f","N"] (sp_solving_balls K)) (F : Fun K "solving_rests" "solving_rests" s_solving_rests f fd) : FnOk P w K mg base CX0 68 f fd ["p","f","N"] (sp_solving_rests K):=by
  refine F.ok S_solving_rests (fun vs H Q E h=>?_) (fun cdv A outer s H vs Q E hr h=>?_)
  · obtain ⟨p,b,f,N,m,rfl,_⟩:=h
    rfl
  obtain ⟨p,b,f,N,m,rfl,hS,hl,hp,hN,hb,hm,q⟩:=h
  have S:=S_solving_rests
  refine ⟨_,((pss_one (ps_ret (pe_callB (call_sumL rfl) rfl B.b_sum bt_sum (pa_cons (pe_comp [2,0] ["N","p"] rfl rfl ⟨rfl,rfl,trivial⟩ ⟨rfl,rfl,rfl,rfl,rfl,rfl,rfl,rfl,trivial⟩ rfl rfl (by decide) (by decide) rfl rfl (by decide) (pi_list (pe_def d_solving_balls hr rfl (pa_cons (pv 0) (pa_cons (pv 1) (pa_cons (pv 2) pa_nil))))) (fun _ _ _ _=>pts_nil) (fun _ _ _ _=>(pe_def d_power_of hr rfl (pa_cons (pv 2) (pa_cons (pe_op op_sub (pv 1) (pe_ix (ix_tupK (K:=K) rfl) (pv 0) pe_int (fun _ _=>rfl))) pa_nil))))) pa_nil))))),?_⟩
  try walk_at "dr1"; (try simp only [sp_power_of,sp_solving_balls]); try walk_at "dr1"
  have p2:=Dr.primes_ge hp
  refine ⟨f,hS,hl.1,hl.2,hp,hN.1,hN.2,m,hb,hm,fun c as bs H1 hs hlen hd nc g1 k1 hP=>⟨⟨_,SqL.of k1⟩,?_⟩⟩
  have hal : as.length = bs.length:=hP.1
  obtain ⟨Pc,hPc⟩ : ∃ Pc : Nat → List V → Hp → Prop,∀ i ys H2,Pc i ys H2 ↔ (H2 = H1 ∧ ys = ((bs.take i).map fun b=>p ^ (N.toNat - b.2)).map V.int):=⟨_,fun _ _ _=>Iff.rfl⟩
  refine compL (as.map V.ref) Pc (by rw [List.length_map]; unfold sizeLine; omega) ((hPc _ _ _).mpr ⟨rfl,rfl⟩) (fun i ys H2 z=>by obtain ⟨rfl,_⟩:=(hPc _ _ _).mp z; exact SqL.of k1) ?_ ?_
  · intro i x ys H2 hx z
    obtain ⟨rfl,rfl⟩:=(hPc _ _ _).mp z
    rw [List.getElem?_map] at hx
    obtain ⟨a,ha,rfl⟩ : ∃ a,as[i]? = some a ∧ V.ref a = x:=by
      cases w : as[i]? with
      | none=>rw [w] at hx; cases hx
      | some a=>rw [w] at hx; exact ⟨a,rfl,Option.some.inj hx⟩
    obtain ⟨bl,hbl,hka⟩:=hP.get ha
    have hdb:=hd bl (List.mem_of_getElem? hbl)
    try walk_at "dr1"; (try simp only [sp_power_of,sp_solving_balls]); try walk_at "dr1"
    refine ⟨_,SqT.of hka,_,rfl,_,rfl,by omega,by omega,by omega,by omega,(hPc _ _ _).mpr ⟨rfl,?_⟩⟩
    rw [List.take_add_one,hbl,List.map_append,List.map_append]
    simp only [Option.toList_some,List.map_cons,List.map_nil]
    rw [show (N - (bl.2 : Int)).toNat = N.toNat - bl.2 by omega]
  · intro ys H2 z
    obtain ⟨rfl,rfl⟩:=(hPc _ _ _).mp z
    intro r n_r; generalize e_r : upd _ r _ = H3; obtain ⟨g3,k3⟩:=newH e_r n_r; clear e_r
    refine ⟨_,rfl,_,SqL.of k3,?_⟩
    have e : (bs.take (as.map V.ref).length) = bs:=by rw [List.length_map,hal,List.take_length]
    rw [e,Dr.mass_cast p2.1]
    exact q bs H3 hs hd (g1.trans g3)
theorem str_big {x : Int} (h : x.natAbs < 10 ^ 190) : (Str.ofString (toString x)).length ≤ 191:=by
  rw [ofString_length]
  exact int_text_length_le10 (by decide) h
theorem log_big {x : Int} (h : x.natAbs < 10 ^ 190) : x.natAbs.log2 < 1920:=by
  by_cases z : x.natAbs = 0
  · rw [z]; decide
  · exact (Nat.log2_lt z).mpr (Nat.lt_of_lt_of_le h (by decide +kernel))
theorem sum_len {n : Nat} : ∀ {ts : List Str},(∀ t,t ∈ ts → t.length ≤ n) → (ts.map (·.length)).sum ≤ n * ts.length
  | [],_=>Nat.zero_le _
  | t :: ts,h=>by
    have h1:=h t (.head _)
    have h2:=sum_len (ts:=ts) fun u hu=>h u (.tail _ hu)
    simp only [List.map_cons,List.sum_cons,List.length_cons,Nat.mul_succ]
    omega
theorem sp_len1 : (Str.ofString " ").length = 1:=by decide +kernel
theorem join_space {ts : List Str} (hl : ts.length ≤ 14) (h : ∀ t,t ∈ ts → t.length ≤ 200) : JoinOk (Str.ofString " ") ts = true:=by
  have:=sum_len h
  refine PyProof.Rows.joinOk_of ?_
  rw [sp_len1]
  omega
def bt (b : Int × Nat) : Str:=Tx.tx b.1 ++ Str.ofString "@" ++ Tx.tx (b.2 : Int)
def listT (ts : List Str) : Str:=if ts = [] then ("none" : Str) else Str.join (Str.ofString " ") ts
def sp_listed (K : PySem.W.Frag) : Sp:=fun vs H Q _=>∃ (a : Addr) (ts : List Str),vs = [.ref a,.str "none"] ∧ SqL K H a (ts.map V.str) ∧ (ts.length ≤ 14 ∧ ∀ t,t ∈ ts → t.length ≤ 200) ∧ Q (.str (listT ts)) H
theorem ok_listed (B : Bi mg K w) (F : Fun K "listed" "listed" s_listed f fd) : FnOk P w K mg base CX0 1 f fd ["texts","without"] (sp_listed K):=by
  refine F.ok S_listed (fun vs H Q E h=>?_) (fun cdv A outer s H vs Q E hr h=>?_)
  · obtain ⟨a,ts,rfl,_⟩:=h
    rfl
  obtain ⟨a,ts,rfl,hS,hl,q⟩:=h
  have S:=S_listed
  refine ⟨_,((pss_cons (ps_if (pt_cmpR op_eq (pe_callB call_len_seq rfl B.b_len PySem.boot_len (pa_cons (pv 0) pa_nil)) pe_int (nomark _)) (pss_one (ps_ret (pv 1))) pss_nil)
    (pss_one (ps_ret (pe_bm PySem.F.plainAttrs_str PySem.F.slot_str_join PySem.F.type_str_join mt_join pe_str (pa_cons (pv 0) pa_nil)))))),?_⟩
  (first | refine hX _ _ ?_ | skip); (try dsimp only); try walk_at "dr1"
  refine ⟨_,.inl hS,?_⟩
  rw [List.length_map]
  unfold listT at q
  by_cases c : ts = []
  · rw [if_pos c] at q
    rw [if_pos (by rw [c]; rfl)]
    exact q
  · rw [if_neg c] at q
    rw [if_neg (by cases ts with | nil=>exact absurd rfl c | cons t ts=>simp; omega)]
    refine ⟨rfl,_,a,ts,rfl,rfl,hS,join_space hl.1 hl.2,?_⟩
    rw [Tx.join_eq]
    exact q
theorem app_len (a b : Str) : (a ++ b).length = a.length + b.length:=Array.size_append
theorem log_deep {d : Nat} (h : d ≤ 100000) : ((d : Int).natAbs).log2 < 1920:=by
  by_cases c : d = 0
  · subst c; decide
  · exact (Nat.log2_lt (by omega)).mpr (Nat.lt_of_le_of_lt (show (d : Int).natAbs ≤ 100000 by omega) (Nat.lt_of_lt_of_le (show 100000 < 2 ^ 17 by decide) (Nat.pow_le_pow_right (by decide) (by decide))))
theorem rest_lt {p x : Int} {N : Nat} (hp : 2 ≤ p ∧ p < 1000) (hN : N ≤ 60) (h : 0 ≤ x ∧ x < p ^ N) : x.natAbs < 10 ^ 182:=by
  have h2:=pow_bits (p:=p) hp N
  have h3 : (2 : Nat) ^ (10 * N + 1) ≤ 2 ^ 601:=Nat.pow_le_pow_right (by decide) (by omega)
  have h4 : (2 : Nat) ^ 601 ≤ 10 ^ 182:=by decide +kernel
  generalize (10 : Nat) ^ 182 = M1 at h4 ⊢
  generalize (2 : Nat) ^ 601 = M2 at h3 h4
  generalize (2 : Nat) ^ (10 * N + 1) = M3 at h2 h3
  omega
theorem str_182 {x : Int} (h : x.natAbs < 10 ^ 182) : (Tx.tx x).length ≤ 183:=by
  unfold Tx.tx
  rw [ofString_length]
  exact int_text_length_le10 (by decide) h
theorem log_rest {p r : Int} {N : Nat} (hp : 2 ≤ p ∧ p < 1000) (hN : N ≤ 60) (h : 0 ≤ r ∧ r < p ^ N) : r.natAbs.log2 < 1920:=log_big (Nat.lt_of_lt_of_le (rest_lt hp hN h) (by decide +kernel))
theorem tx_small : ∀ n : Fin 61,(Tx.tx ((n : Nat) : Int)).length ≤ 2:=by decide +kernel
theorem at_len : (Str.ofString "@").length = 1:=by decide +kernel
theorem bt_size {p : Int} {c : Int × Nat} (hp : 2 ≤ p ∧ p < 1000) (h : (0 ≤ c.1 ∧ c.1 < p ^ c.2) ∧ c.2 ≤ 60) : (bt c).length ≤ 186:=by
  have h1:=str_182 (rest_lt hp h.2 h.1)
  have h2:=tx_small ⟨c.2,by omega⟩
  unfold bt
  rw [app_len,app_len,at_len]
  dsimp only at h2
  omega
theorem bt_len {p : Int} {c : Int × Nat} (hp : 2 ≤ p ∧ p < 1000) (h : (0 ≤ c.1 ∧ c.1 < p ^ c.2) ∧ c.2 ≤ 60) : (Str.ofString (toString c.1) ++ Str.ofString "@" ++ Str.ofString (toString (c.2 : Int))).length ≤ sizeLine:=Nat.le_trans (bt_size hp h) (by decide)
theorem bt_left {p : Int} {c : Int × Nat} (hp : 2 ≤ p ∧ p < 1000) (h : (0 ≤ c.1 ∧ c.1 < p ^ c.2) ∧ c.2 ≤ 60) : (Str.ofString (toString c.1) ++ Str.ofString "@").length ≤ sizeLine:=by
  have h1:=str_182 (rest_lt hp h.2 h.1)
  unfold Tx.tx at h1
  rw [app_len,at_len]
  exact Nat.le_trans (Nat.add_le_add_right h1 1) (by decide)
def sp_told_solve (K : PySem.W.Frag) : Sp:=fun vs H Q _=>∃ (p : Int) (t b : Addr) (f : List Int) (N : Int) (m : Nat),vs = [.int p,.ref t] ∧ SqL K H t [.ref b,.int N] ∧ SqL K H b (f.map V.int) ∧ (0 < f.length ∧ f.length ≤ 13) ∧ p ∈ Dr.primes ∧ (0 ≤ N ∧ N ≤ 60) ∧ Dr.PolyB f m ∧ m ≤ 2300 ∧
  ∀ (bs : List (Int × Nat)) (H' : Hp),Dr.Solve p (fun x=>Dr.pev f x % p ^ N.toNat = 0) bs → bs.length ≤ 13 → (∀ b,b ∈ bs → b.2 ≤ N.toNat) → Same H H' → Q (.str (listT (bs.map bt))) H'
theorem ok_told_solve (B : Bi mg K w) (d_solving_balls : Def P w K mg base "solving_balls" 67 ["p","f","N"] (sp_solving_balls K)) (d_listed : Def P w K mg base "listed" 1 ["texts","without"] (sp_listed K)) (F : Fun K "told_solve" "told_solve" s_told_solve f fd) : FnOk P w K mg base CX0 68 f fd ["p","things"] (sp_told_solve K):=by
  refine F.ok S_told_solve (fun vs H Q E h=>?_) (fun cdv A outer s H vs Q E hr h=>?_)
  · obtain ⟨p,t,b,f,N,m,rfl,_⟩:=h
    rfl
  obtain ⟨p,t,b,f,N,m,rfl,hT,hS,hl,hpp,hN,hf,hm,q⟩:=h
  have S:=S_told_solve
  refine ⟨_,((pss_cons (ps_set (i:=2) S.nd rfl (Or.inl rfl) (pe_def d_solving_balls hr rfl (pa_cons (pv 0) (pa_cons (pe_ix ix_list (pv 1) pe_int (fun _ _=>rfl)) (pa_cons (pe_ix ix_list (pv 1) pe_int (fun _ _=>rfl)) pa_nil)))))
    (pss_one (ps_ret (pe_def d_listed hr rfl (pa_cons (pe_comp2 [] [] rfl rfl trivial trivial rfl rfl (by decide) (by decide) rfl rfl rfl (by decide) (pi_list (pv 2)) (fun _ _ _ _=>pts_nil) (fun _ _ _ _=>(pe_fmt (pv 0) (pv 1)))) (pa_cons pe_str pa_nil))))))),?_⟩
  (try dsimp only); (first | refine hX _ _ ?_ | skip); (try dsimp only); (first | refine seqX (fun X hX=>?_) | skip); try walk_at "dr2"; (try simp only [sp_solving_balls,sp_listed]); try walk_at "dr2"
  refine ⟨_,hT,_,atI_nat (j:=0) rfl,_,hT,_,atI_nat (j:=1) rfl,b,rfl,f,N,rfl,hS,hl.1,hl.2,hpp,hN.1,hN.2,m,hf,hm,fun c as bs H1 so lb hd nc g1 k1 hP=>?_⟩
  have hI:=hP.ints
  have p2:=Dr.primes_ge hpp
  have hp1 : 2 ≤ p ∧ p < 1000:=by omega
  have bx : ∀ x,x ∈ bs → (0 ≤ x.1 ∧ x.1 < p ^ x.2) ∧ x.2 ≤ 60:=fun x hx=>⟨⟨(so.tree.ok x hx).2.1,(so.tree.ok x hx).2.2.1⟩,by have:=hd x hx; omega⟩
  (first | refine hX _ _ ?_ | skip); (try dsimp only); try walk_at "dr1"; (try simp only [sp_solving_balls,sp_listed]); try walk_at "dr1"
  refine ⟨⟨_,SqL.of k1⟩,?_⟩
  obtain ⟨Pv,hPv⟩ : ∃ Pv : Nat → List V → Hp → Prop,∀ i ys H',Pv i ys H' ↔ (H' = H1 ∧ ys = ((bs.take i).map bt).map V.str):=⟨_,fun _ _ _=>Iff.rfl⟩
  refine comp2P (fs:=bs.map natP) Pv (by rw [List.length_map]; exact Nat.le_trans lb (by decide)) ((hPv _ _ _).mpr ⟨rfl,rfl⟩) (fun i ys H2 z=>by rw [((hPv _ _ _).mp z).1]; exact ⟨SqL.of k1,hI⟩) (fun i x ys H2 hx z=>?_) (fun ys H2 z l2 n2=>?_)
  · obtain ⟨rfl,rfl⟩:=(hPv _ _ _).mp z
    rw [List.getElem?_map] at hx
    cases e3 : bs[i]? with
    | none=>rw [e3] at hx; cases hx
    | some c=>
      rw [e3] at hx
      cases hx
      have hc:=bx c (List.mem_of_getElem? e3)
      (first | refine hX _ _ ?_ | skip); (try dsimp only); try walk_at "dr1"; (try simp only [sp_solving_balls,sp_listed]); try walk_at "dr1"
      refine ⟨log_rest hp1 hc.2 hc.1,?_,log_deep (by have:=hc.2; omega),?_,(hPv _ _ _).mpr ⟨rfl,?_⟩⟩
      · exact bt_left hp1 hc
      · exact bt_len hp1 hc
      · rw [take_next e3,List.map_append,List.map_append]
        rfl
  · obtain ⟨rfl,rfl⟩:=(hPv _ _ _).mp z
    rw [List.length_map,List.take_length]
    refine ⟨l2,rfl,bs.map bt,SqL.of upd_same,by rw [List.length_map]; omega,fun t ht=>?_,q bs _ so lb hd (g1.trans (newS n2))⟩
    obtain ⟨c,hc,rfl⟩:=List.mem_map.mp ht
    have h1:=bt_size hp1 (bx c hc)
    omega
def sp_told_count (K : PySem.W.Frag) : Sp:=fun vs H Q _=>∃ (p : Int) (t b : Addr) (f : List Int) (N : Int) (m : Nat),vs = [.int p,.ref t] ∧ SqL K H t [.ref b,.int N] ∧ SqL K H b (f.map V.int) ∧ (0 < f.length ∧ f.length ≤ 13) ∧ p ∈ Dr.primes ∧ (0 ≤ N ∧ N ≤ 60) ∧ Dr.PolyB f m ∧ m ≤ 2300 ∧
  (∀ bs : List (Int × Nat),Dr.Solve p (fun x=>Dr.pev f x % p ^ N.toNat = 0) bs → Dr.massOf p N.toNat bs < 10 ^ 190) ∧
  ∀ (bs : List (Int × Nat)) (H' : Hp),Dr.Solve p (fun x=>Dr.pev f x % p ^ N.toNat = 0) bs → (∀ b,b ∈ bs → b.2 ≤ N.toNat) → Same H H' → Q (.str (Tx.tx ((Dr.massOf p N.toNat bs : Nat) : Int))) H'
theorem ok_told_count (B : Bi mg K w) (d_solving_rests : Def P w K mg base "solving_rests" 68 ["p","f","N"] (sp_solving_rests K)) (F : Fun K "told_count" "told_count" s_told_count f fd) : FnOk P w K mg base CX0 69 f fd ["p","things"] (sp_told_count K):=by
  refine F.ok S_told_count (fun vs H Q E h=>?_) (fun cdv A outer s H vs Q E hr h=>?_)
  · obtain ⟨p,t,b,f,N,m,rfl,_⟩:=h
    rfl
  obtain ⟨p,t,b,f,N,m,rfl,hT,hS,hl,hpp,hN,hf,hm,hb,q⟩:=h
  have S:=S_told_count
  refine ⟨_,((pss_one (ps_ret (pe_callTy call_str_int rfl B.b_str L2.bt_str (pa_cons (pe_def d_solving_rests hr rfl (pa_cons (pv 0) (pa_cons (pe_ix ix_list (pv 1) pe_int (fun _ _=>rfl)) (pa_cons (pe_ix ix_list (pv 1) pe_int (fun _ _=>rfl)) pa_nil)))) pa_nil))))),?_⟩
  (first | refine hX _ _ ?_ | skip); (try dsimp only); try walk_at "dr1"; (try simp only [sp_solving_rests]); try walk_at "dr1"
  exact ⟨_,hT,_,atI_nat (j:=0) rfl,_,hT,_,atI_nat (j:=1) rfl,b,rfl,f,N,rfl,hS,hl.1,hl.2,hpp,hN.1,hN.2,m,hf,hm,fun bs H' so hd g=>⟨log_big (by have:=hb bs so; omega),q bs H' so hd g⟩⟩
inductive Rl (kvs : List (Key × V)) (H H' : Hp) : List Kd → List Str → List V → Prop
  | nil : Rl kvs H H' [] [] []
  | cons {k : Kd} {z : Str} {v : V} {ks : List Kd} {zs : List Str} {vs : List V} : Rs kvs H H' k z v → Rl kvs H H' ks zs vs → Rl kvs H H' (k :: ks) (z :: zs) (v :: vs)
theorem Rl.same {kvs : List (Key × V)} {H H' H2 : Hp} {ks : List Kd} {zs : List Str} {vs : List V} (h : Rl kvs H H' ks zs vs) (g : Same H' H2) : Rl kvs H H2 ks zs vs:=by
  induction h with
  | nil=>exact .nil
  | cons r _ ih=>exact .cons (r.same (Same.refl _) g) ih
theorem Rl.snoc {kvs : List (Key × V)} {H H' : Hp} {ks : List Kd} {zs : List Str} {vs : List V} {k : Kd} {z : Str} {v : V} (h : Rl kvs H H' ks zs vs) (r : Rs kvs H H' k z v) : Rl kvs H H' (ks ++ [k]) (zs ++ [z]) (vs ++ [v]):=by
  induction h with
  | nil=>exact .cons r .nil
  | cons r' _ ih=>exact .cons r' ih
inductive WdL (kvs : List (Key × V)) : List Kd → List Str → Prop
  | nil : WdL kvs [] []
  | cons {k : Kd} {z : Str} {ks : List Kd} {zs : List Str} : Wd kvs k z → WdL kvs ks zs → WdL kvs (k :: ks) (z :: zs)
theorem WdL.len {kvs : List (Key × V)} {ks : List Kd} {zs : List Str} (h : WdL kvs ks zs) : ks.length = zs.length:=by
  induction h with
  | nil=>rfl
  | cons _ _ ih=>simp [ih]
theorem WdL.at {kvs : List (Key × V)} {ks : List Kd} {zs : List Str} (h : WdL kvs ks zs) {i : Nat} {k : Kd} {z : Str} (e1 : ks[i]? = some k) (e2 : zs[i]? = some z) : Wd kvs k z:=by
  induction h generalizing i with
  | nil=>cases e1
  | cons w _ ih=>
    cases i with
    | zero=>cases e1; cases e2; exact w
    | succ i=>exact ih e1 e2
theorem tx_val {x : Int} (h : x.natAbs < 10 ^ 60) : Tx.valOf (Tx.tx x).cps.toList = x:=(Tx.tx_wr h).2
theorem small_val {x : Int} (h : 0 ≤ x ∧ x ≤ 60) : x.natAbs < 10 ^ 60:=Nat.lt_of_le_of_lt (show x.natAbs ≤ 60 by omega) (by decide +kernel)
theorem wd_depth {kvs : List (Key × V)} {N : Int} (h : 0 ≤ N ∧ N ≤ 60) : Wd kvs .depth (Tx.tx N):=.depth (Tx.tx_wr (small_val h)).1 (by rw [tx_val (small_val h)]; exact h)
theorem wd_poly {kvs : List (Key × V)} {f : List Int} (h0 : f ≠ []) (hf : f.length ≤ 13) (hb : ∀ x,x ∈ f → x.natAbs < 10 ^ 60) : Wd kvs .poly (Tx.shown f):=.poly (by
  have:=Tx.join_len (ms:=f) (by omega) hb
  exact Nat.le_trans this (by decide)) (Tx.shown_poly h0 hf hb)
theorem Rl.inv {kvs : List (Key × V)} {H H' : Hp} {k : Kd} {z : Str} {ks : List Kd} {zs : List Str} {vs : List V} (h : Rl kvs H H' (k :: ks) (z :: zs) vs) : ∃ v vs',vs = v :: vs' ∧ Rs kvs H H' k z v ∧ Rl kvs H H' ks zs vs':=by
  cases h with
  | cons r t=>exact ⟨_,_,rfl,r,t⟩
theorem Rl.inv0 {kvs : List (Key × V)} {H H' : Hp} {vs : List V} (h : Rl kvs H H' [] [] vs) : vs = []:=by
  cases h
  rfl
theorem Rs.new_inv {kvs : List (Key × V)} {H H' : Hp} {z : Str} {v : V} (h : Rs kvs H H' .new z v) : v = .str z:=by
  cases h
  rfl
theorem Rs.name_inv {kvs : List (Key × V)} {H H' : Hp} {z : Str} {v : V} (h : Rs kvs H H' .name z v) : valV kvs (Sum.inr z) = some v:=by
  cases h with
  | name e=>exact e
theorem Rs.poly_inv {kvs : List (Key × V)} {H H' : Hp} {z : Str} {v : V} (h : Rs kvs H H' .poly z v) : ∃ ms c,v = .ref c ∧ Tx.poly z = some ms ∧ H c = none ∧ H' c = some (.lst (ms.map V.int)):=by
  cases h with
  | poly e n k=>exact ⟨_,_,rfl,e,n,k⟩
theorem Rs.depth_inv {kvs : List (Key × V)} {H H' : Hp} {N : Int} {v : V} (h : Rs kvs H H' .depth (Tx.tx N) v) (hN : 0 ≤ N ∧ N ≤ 60) : v = .int N:=by
  cases h
  rw [tx_val (small_val hN)]
def Tab_MADE (K : PySem.W.Frag) : Addr → Sp → Prop:=fun g sp=>g = 469 ∧ sp = sp_made_poly K
def Tab_TOLD (K : PySem.W.Frag) : Addr → Sp → Prop:=fun g sp=>(g = 502 ∧ sp = sp_told_solve K) ∨ (g = 509 ∧ sp = sp_told_count K)
structure Stand (K : PySem.W.Frag) (H : Hp) (kvs : List (Key × V)) (x : Str) (b : Addr) (f : List Int) : Prop where
  nm : Nm x
  val : valV kvs (Sum.inr x) = some (.ref b)
  sq : SqL K H b (f.map V.int)
  len : 0 < f.length ∧ f.length ≤ 13
  bits : Dr.PolyB f 700
inductive Deed (K : PySem.W.Frag) (H : Hp) (kd : Addr) (p : Int) (kvs : List (Key × V)) (Q : VK) : Str → List Kd → Addr → List Str → Prop
  | poly {z : Str} {f : List Int} : Nm z → f ≠ [] → f.length ≤ 13 → (∀ x,x ∈ f → x.natAbs < 10 ^ 60) → (∀ l H1,Same H H1 → H l = none → H1 l = some (.lst (f.map V.int)) → Q (.str "ok") (upd H1 kd (.dK (putK kvs (Sum.inr z) (.ref l))))) → Deed K H kd p kvs Q "poly" [.new,.poly] 420 [z,Tx.shown f]
  | solve {x : Str} {b : Addr} {f : List Int} {N : Int} : Stand K H kvs x b f → (0 ≤ N ∧ N ≤ 60) → (∀ (bs : List (Int × Nat)) (H' : Hp),Dr.Solve p (fun x=>Dr.pev f x % p ^ N.toNat = 0) bs → bs.length ≤ 13 → (∀ b,b ∈ bs → b.2 ≤ N.toNat) → Same H H' → Q (.str (listT (bs.map bt))) H') → Deed K H kd p kvs Q "solve" [.name,.depth] 427 [x,Tx.tx N]
  | count {x : Str} {b : Addr} {f : List Int} {N : Int} : Stand K H kvs x b f → (0 ≤ N ∧ N ≤ 60) → (∀ bs : List (Int × Nat),Dr.Solve p (fun x=>Dr.pev f x % p ^ N.toNat = 0) bs → Dr.massOf p N.toNat bs < 10 ^ 190) → (∀ (bs : List (Int × Nat)) (H' : Hp),Dr.Solve p (fun x=>Dr.pev f x % p ^ N.toNat = 0) bs → (∀ b,b ∈ bs → b.2 ≤ N.toNat) → Same H H' → Q (.str (Tx.tx ((Dr.massOf p N.toNat bs : Nat) : Int))) H') → Deed K H kd p kvs Q "count" [.name,.depth] 428 [x,Tx.tx N]
theorem Deed.row {mg : Str → Option Value} {K : PySem.W.Frag} {w : World} {H : Hp} {kd : Addr} {p : Int} {kvs : List (Key × V)} {Q : VK} {dw : Str} {ks : List Kd} {a : Addr} {ws : List Str} (r : Deed K H kd p kvs Q dw ks a ws) (B : Bi mg K w) : atK l_WANTED dw = some (.ref a) ∧ KTup K a (ks.map fun k=>V.str k.txt):=by
  cases r with
  | poly=>exact ⟨w_WANTED_poly,B.tu_420⟩
  | solve=>exact ⟨w_WANTED_solve,B.tu_427⟩
  | count=>exact ⟨w_WANTED_count,B.tu_428⟩
theorem Deed.short {K : PySem.W.Frag} {H : Hp} {kd : Addr} {p : Int} {kvs : List (Key × V)} {Q : VK} {dw : Str} {ks : List Kd} {a : Addr} {ws : List Str} (r : Deed K H kd p kvs Q dw ks a ws) : ks.length ≤ 4:=by
  cases r <;> simp
theorem Deed.free {K : PySem.W.Frag} {H : Hp} {kd : Addr} {p : Int} {kvs : List (Key × V)} {Q : VK} {dw : Str} {ks : List Kd} {a : Addr} {ws : List Str} (r : Deed K H kd p kvs Q dw ks a ws) : ∀ w,w ∈ dw :: ws → 32 ∉ w.cps.toList:=by
  intro w hw
  cases r with
  | poly hn _ _ _ _=>
    simp only [List.mem_cons,List.not_mem_nil,or_false] at hw
    rcases hw with rfl | rfl | rfl
    · decide +kernel
    · exact nm_free hn
    · exact Tx.shown_free _
  | solve hs _ _=>
    simp only [List.mem_cons,List.not_mem_nil,or_false] at hw
    rcases hw with rfl | rfl | rfl
    · decide +kernel
    · exact nm_free hs.nm
    · exact Tx.tx_free _
  | count hs _ _ _=>
    simp only [List.mem_cons,List.not_mem_nil,or_false] at hw
    rcases hw with rfl | rfl | rfl
    · decide +kernel
    · exact nm_free hs.nm
    · exact Tx.tx_free _
theorem Deed.wd {K : PySem.W.Frag} {H : Hp} {kd : Addr} {p : Int} {kvs : List (Key × V)} {Q : VK} {dw : Str} {ks : List Kd} {a : Addr} {ws : List Str} (r : Deed K H kd p kvs Q dw ks a ws) : WdL kvs ks ws:=by
  cases r with
  | poly hn h0 hf hb _=>exact .cons (.new hn) (.cons (wd_poly h0 hf hb) .nil)
  | solve hs hN _=>exact .cons (.name hs.nm hs.val) (.cons (wd_depth hN) .nil)
  | count hs hN _ _=>exact .cons (.name hs.nm hs.val) (.cons (wd_depth hN) .nil)
def sp_say (K : PySem.W.Frag) : Sp:=fun vs H Q _=>∃ (d dx kd : Addr) (p : Int) (kvs : List (Key × V)) (dw : Str) (ks : List Kd) (a : Addr) (ws : List Str),vs = [.ref d,.str (Str.join (Str.ofString " ") (dw :: ws))] ∧ DeskAt K H d dx kd p kvs ∧ p ∈ Dr.primes ∧ kvs.length < 900 ∧ (Str.join (Str.ofString " ") (dw :: ws)).length ≤ 2000 ∧ Deed K H kd p kvs Q dw ks a ws
theorem ok_say (B : Bi mg K w) (t_TOLD : TabOk P w K mg base CX0 69 (Tab_TOLD K)) (t_MADE : TabOk P w K mg base CX0 1 (Tab_MADE K)) (d_words_of : Def P w K mg base "words_of" 1 ["row"] (sp_words_of K)) (d_thing_of : Met P w K mg base CX0 (clK K "Desk") "thing_of" 5 ["self","wanted","word"] (sp_thing_of K)) (d_keep : Met P w K mg base CX0 (clK K "Desk") "keep" 3 ["self","name","polynomial"] (sp_keep K)) (F : Fun K "say" "Desk.say" s_say f fd) : FnOk P w K mg base CX0 70 f fd ["self","row"] (sp_say K):=by
  refine F.ok S_say (fun vs H Q E h=>?_) (fun cdv A outer s H vs Q E hr h=>?_)
  · obtain ⟨d,dx,kd,p,kvs,dw,ks,a,ws,rfl,_⟩:=h
    rfl
  obtain ⟨d,dx,kd,p,kvs,dw,ks,at0,ws,rfl,hd,hp,hk,hl,r⟩:=h
  have S:=S_say
  refine ⟨_,((pss_cons (ps_set (i:=2) S.nd rfl (Or.inl rfl) (pe_def d_words_of hr rfl (pa_cons (pv 1) pa_nil)))
    (pss_cons (ps_set (i:=3) S.nd rfl (Or.inl rfl) (pe_ix ix_list (pv 2) pe_int (fun _ _=>rfl)))
    (pss_cons (ps_comp2 [0] ["self"] rfl S.nd (k:=4) rfl rfl rfl rfl ⟨rfl,trivial⟩ ⟨rfl,rfl,rfl,rfl,trivial⟩ rfl rfl (by decide) (by decide) rfl rfl rfl (by decide) (pi_zipT rfl B.b_zip (pe_kget B.kd_WANTED rfl B.gd_WANTED (pv 3) (fun _ _=>rfl)) (pe_slice sl_list (pv 2) (po_some pe_int) po_none)) (fun _ _ _ _=>pts_nil) (fun _ _ _ _=>(pe_met pass0 B.cl_Desk d_thing_of hr (pv 2) (pa_cons (pv 0) (pa_cons (pv 1) pa_nil)))))
    (pss_cons (ps_if (pt_cmp (pc_kin B.kd_MADE rfl B.gd_MADE (pv 3))) (pss_one (ps_ret (pe_met pass0 B.cl_Desk d_keep hr (pv 0) (pa_cons (pe_ix ix_list (pv 2) pe_int (fun _ _=>rfl)) (pa_cons (pe_callV t_MADE (pe_kget B.kd_MADE rfl B.gd_MADE (pv 3) (fun _ _=>rfl)) hr pass0 (pa_cons (pe_fld (pv 0) rfl) (pa_cons (pv 4) pa_nil))) pa_nil))))) pss_nil)
    (pss_cons (ps_if (pt_cmp (pc_kin B.kd_TOLD rfl B.gd_TOLD (pv 3))) (pss_one (ps_ret (pe_callV t_TOLD (pe_kget B.kd_TOLD rfl B.gd_TOLD (pv 3) (fun _ _=>rfl)) hr pass0 (pa_cons (pe_fld (pv 0) rfl) (pa_cons (pv 4) pa_nil))))) pss_nil)
    (pss_cons ps_never
    (pss_one ps_never)))))))),?_⟩
  obtain ⟨hat,htu⟩:=r.row B
  have hfr:=r.free
  have hwd:=r.wd
  have hlen:=hwd.len
  have hk5:=r.short
  have hsp : Txt.split (Str.join (Str.ofString " ") (dw :: ws)) (Str.ofString " ") = dw :: ws:=by
    rw [Tx.space_is]
    exact Tx.split_of (by simp) hfr
  (try dsimp only); (first | refine hX _ _ ?_ | skip); (try dsimp only); (first | refine seqX (fun X hX=>?_) | skip); try walk_at "dr2"; (try simp only [sp_words_of,sp_thing_of,sp_keep]); try walk_at "dr2"
  refine ⟨hl,_,_,hsp,_,hat,_,htu,by rw [List.length_map]; exact hlen,fun l1 H1 g1 n1 k1=>?_⟩
  (try dsimp only); (first | refine hX _ _ ?_ | skip); (try dsimp only); (first | refine seqX (fun X hX=>?_) | skip); try walk_at "dr2"; (try simp only [sp_words_of,sp_thing_of,sp_keep]); try walk_at "dr2"
  refine ⟨_,SqL.of k1,_,atI_nat (j:=0) rfl,?_⟩
  (try dsimp only); (first | refine hX _ _ ?_ | skip); (try dsimp only); (first | refine seqX (fun X hX=>?_) | skip); try walk_at "dr2"; (try simp only [sp_words_of,sp_thing_of,sp_keep]); try walk_at "dr2"
  refine ⟨_,hat,_,SqL.of k1,?_⟩
  intro l2 n_l2; generalize e_l2 : upd _ l2 _ = H2; obtain ⟨g2,k2⟩:=newH e_l2 n_l2; clear e_l2
  have k2 : H2 l2 = some (.lst (ws.map V.str)):=by
    rw [k2,show V.str dw :: ws.map V.str = (dw :: ws).map V.str from rfl,cut_from V.str (dw :: ws) (by decide)]
    rfl
  refine ⟨⟨_,htu.sq _⟩,⟨_,SqL.of k2⟩,?_⟩
  have hd2:=(hd.same g1).same g2
  obtain ⟨Pc,hPc⟩ : ∃ Pc : Nat → List V → Hp → Prop,∀ i ys H3,Pc i ys H3 ↔ (Same H2 H3 ∧ Rl kvs H2 H3 (ks.take i) (ws.take i) ys):=⟨_,fun _ _ _=>Iff.rfl⟩
  refine comp2ZT (ks.map fun k=>V.str k.txt) (ws.map V.str) Pc (by rw [List.length_map]; exact Nat.le_trans hk5 (by decide)) (by rw [List.length_map,List.length_map]; exact hlen) ((hPc _ _ _).mpr ⟨Same.refl _,.nil⟩) (fun i ys H3 pc=>⟨htu.sq _,SqL.of (((hPc _ _ _).mp pc).1 _ _ k2)⟩) (fun i x y ys H3 H4 hx' hy' pc g4=>?_) (fun ys H3 pc l n_l=>?_)
  · obtain ⟨g3,hrl⟩:=(hPc _ _ _).mp pc
    have hd4:=(hd2.same g3).same g4
    rw [List.getElem?_map] at hx' hy'
    cases ek : ks[i]? with
    | none=>rw [ek] at hx'; cases hx'
    | some k=>
      cases ew : ws[i]? with
      | none=>rw [ew] at hy'; cases hy'
      | some z=>
        rw [ek] at hx'
        rw [ew] at hy'
        cases hx'
        cases hy'
        (first | refine hX _ _ ?_ | skip); (try dsimp only); try walk_at "dr1"; (try simp only [sp_words_of,sp_thing_of,sp_keep]); try walk_at "dr1"
        refine ⟨_,_,hd4.ins,look_no (by decide +kernel) (by decide +kernel),dx,kd,p,kvs,k,rfl,hd4,hwd.at ek ew,fun v H' g5 rs=>(hPc _ _ _).mpr ⟨g3.trans (g4.trans g5),?_⟩⟩
        rw [take_next ek,take_next ew]
        exact (hrl.same (g4.trans g5)).snoc (rs.same (g3.trans g4) (Same.refl _))
  obtain ⟨g3,hrl⟩:=(hPc _ _ _).mp pc
  rw [List.length_map,List.take_length,hlen,List.take_length] at hrl
  have g5:=newS n_l (o:=HO.lst ys)
  have k5 : upd H3 l (HO.lst ys) l = some (HO.lst ys):=upd_same
  generalize upd H3 l (HO.lst ys) = H5 at g5 k5 ⊢
  have hd5:=((hd2.same g3).same g5)
  have hrl:=hrl.same g5
  have G2:=g1.trans g2
  have G5:=G2.trans (g3.trans g5)
  have k15:=g5 _ _ (g3 _ _ (g2 _ _ k1))
  clear pc hPc
  cases r with
  | poly hn h0 hf hb q=>
    obtain ⟨v1,_,rfl,r1,hrl⟩:=hrl.inv
    obtain ⟨v2,_,rfl,r2,hrl⟩:=hrl.inv
    obtain rfl:=hrl.inv0
    obtain rfl:=r1.new_inv
    obtain ⟨ms,c,rfl,e,nc,kc⟩:=r2.poly_inv
    rw [Tx.shown_poly h0 hf hb] at e
    cases e
    (try dsimp only); (first | refine hX _ _ ?_ | skip); (try dsimp only); (first | refine seqX (fun X hX=>?_) | skip); try walk_at "dr2"; (try simp only [sp_words_of,sp_thing_of,sp_keep]); try walk_at "dr2"
    rw [w_MADE_poly,if_pos (by rfl)]
    refine ⟨_,_,hd5.ins,look_no (by decide +kernel) (by decide +kernel),_,SqL.of k15,_,atI_nat (j:=1) rfl,_,rfl,_,⟨rfl,rfl⟩,_,_,_,hd5.ins,B.cl_Desk,B.na_prime,_,look_prime,?_⟩
    unfold sp_made_poly
    refine ⟨p,l,_,_,_,rfl,SqL.of k5,?_⟩
    refine ⟨dx,kd,_,_,kvs,_,rfl,rfl,hd5.ins,look_kept,hd5.kept,by omega,_,SqL.of kc,by omega,hb,fun H6 g6=>?_⟩
    exact q _ H6 (G5.trans g6) (none_of G2 nc) (g6 _ _ kc)
  | solve hs hN q=>
    obtain ⟨v1,_,rfl,r1,hrl⟩:=hrl.inv
    obtain ⟨v2,_,rfl,r2,hrl⟩:=hrl.inv
    obtain rfl:=hrl.inv0
    have e1:=r1.name_inv
    rw [hs.val] at e1
    cases e1
    obtain rfl:=r2.depth_inv hN
    (try dsimp only); (first | refine hX _ _ ?_ | skip); (try dsimp only); (first | refine seqX (fun X hX=>?_) | skip); try walk_at "dr2"; (try simp only [sp_words_of,sp_thing_of,sp_keep]); try walk_at "dr2"
    rw [w_MADE_solve,if_neg (by intro z; cases z)]
    (try dsimp only); (first | refine hX _ _ ?_ | skip); (try dsimp only); (first | refine seqX (fun X hX=>?_) | skip); try walk_at "dr2"; (try simp only [sp_words_of,sp_thing_of,sp_keep]); try walk_at "dr2"
    rw [w_TOLD_solve,if_pos (by rfl)]
    refine ⟨_,rfl,_,.inl ⟨rfl,rfl⟩,_,_,_,hd5.ins,B.cl_Desk,B.na_prime,_,look_prime,?_⟩
    unfold sp_told_solve
    exact ⟨p,l,_,_,_,700,rfl,SqL.of k5,G5.seq hs.sq,hs.len,hp,hN,hs.bits,by decide,fun bs H6 so lb hd g6=>q bs H6 so lb hd (G5.trans g6)⟩
  | count hs hN hb q=>
    obtain ⟨v1,_,rfl,r1,hrl⟩:=hrl.inv
    obtain ⟨v2,_,rfl,r2,hrl⟩:=hrl.inv
    obtain rfl:=hrl.inv0
    have e1:=r1.name_inv
    rw [hs.val] at e1
    cases e1
    obtain rfl:=r2.depth_inv hN
    (try dsimp only); (first | refine hX _ _ ?_ | skip); (try dsimp only); (first | refine seqX (fun X hX=>?_) | skip); try walk_at "dr2"; (try simp only [sp_words_of,sp_thing_of,sp_keep]); try walk_at "dr2"
    rw [w_MADE_count,if_neg (by intro z; cases z)]
    (try dsimp only); (first | refine hX _ _ ?_ | skip); (try dsimp only); (first | refine seqX (fun X hX=>?_) | skip); try walk_at "dr2"; (try simp only [sp_words_of,sp_thing_of,sp_keep]); try walk_at "dr2"
    rw [w_TOLD_count,if_pos (by rfl)]
    refine ⟨_,rfl,_,.inr ⟨rfl,rfl⟩,_,_,_,hd5.ins,B.cl_Desk,B.na_prime,_,look_prime,?_⟩
    unfold sp_told_count
    exact ⟨p,l,_,_,_,700,rfl,SqL.of k5,G5.seq hs.sq,hs.len,hp,hN,hs.bits,by decide,hb,fun bs H6 so hd g6=>q bs H6 so hd (G5.trans g6)⟩
def sp__law_times (K : PySem.W.Frag) : Sp:=fun vs H Q _=>∃ (a b : Addr) (f g : List Int) (m n : Nat),vs = [.ref a,.ref b] ∧ SqL K H a (f.map V.int) ∧ SqL K H b (g.map V.int) ∧ (0 < f.length ∧ f.length ≤ 60 ∧ 0 < g.length ∧ g.length ≤ 60) ∧ Dr.PolyB f m ∧ Dr.PolyB g n ∧ (m ≤ 1000000 ∧ n ≤ 1000000) ∧
  ∀ (c : Addr) (r : List Int) (H' : Hp),Dr.IsProd f g r → Dr.PolyB r (m + n + 12) → H c = none → Same H H' → H' c = some (.lst (r.map V.int)) → Q (.ref c) H'
theorem ok__law_times (B : Bi mg K w) (F : Fun K "_law_times" "_law_times" s__law_times f fd) : FnOk P w K mg base CX0 1 f fd ["f","g"] (sp__law_times K):=by
  refine F.ok S__law_times (fun vs H Q E h=>?_) (fun cdv A outer s H vs Q E hr h=>?_)
  · obtain ⟨a,b,f,g,m,n,rfl,_⟩:=h
    rfl
  obtain ⟨a,b,f,g,m,n,rfl,hS,hS',hl,hf,hg,hmn,q⟩:=h
  have S:=S__law_times
  refine ⟨_,((pss_cons (ps_set (i:=2) S.nd rfl (Or.inl rfl) (pe_op op_rep (pe_lst (pa_cons pe_int pa_nil)) (pe_op op_sub (pe_op op_add (pe_callB call_len_seq rfl B.b_len PySem.boot_len (pa_cons (pv 0) pa_nil)) (pe_callB call_len_seq rfl B.b_len PySem.boot_len (pa_cons (pv 1) pa_nil))) pe_int)))
    (pss_cons (ps_for PassesOwn.never rfl (pi_range1 rfl B.b_range (pa_cons (pe_callB call_len_seq rfl B.b_len PySem.boot_len (pa_cons (pv 0) pa_nil)) pa_nil)) (pg_name (i:=3) S.nd rfl (Or.inl rfl)) (pss_one (ps_for PassesOwn.never rfl (pi_range1 rfl B.b_range (pa_cons (pe_callB call_len_seq rfl B.b_len PySem.boot_len (pa_cons (pv 1) pa_nil)) pa_nil)) (pg_name (i:=4) S.nd rfl (Or.inl rfl)) (pss_one (ps_asg (pe_op op_add (pe_ix ix_list (pv 2) (pe_op op_add (pv 3) (pv 4)) (fun _ _=>rfl)) (pe_op op_mulW (pe_ix ix_list (pv 0) (pv 3) (fun _ _=>rfl)) (pe_ix ix_list (pv 1) (pv 4) (fun _ _=>rfl)))) (pg_sub (pv 2) (pe_op op_add (pv 3) (pv 4)) set_list))))))
    (pss_one (ps_ret (pv 2)))))),?_⟩
  (first | refine hX _ _ ?_ | skip); (try dsimp only); try walk_at "dr1"
  refine ⟨by decide,?_⟩
  intro l0 n_l0; generalize e_l0 : upd _ l0 _ = H1; obtain ⟨g1,k1⟩:=newH e_l0 n_l0; clear e_l0
  refine ⟨_,.inl (g1.seq hS),_,.inl (g1.seq hS'),?_⟩
  simp only [List.length_map]
  refine ⟨_,k1,by omega,by omega,by simp only [List.length_cons,List.length_nil]; unfold sizeLine; omega,?_⟩
  intro l n_l; generalize e_l : upd _ l _ = H2; obtain ⟨g2,k2⟩:=newH e_l n_l; clear e_l
  rw [rep_zero] at k2
  have g12:=g1.trans g2
  have nl : H l = none:=g1.free n_l
  refine ⟨_,.inl (g12.seq hS),by simp only [List.length_map]; omega,by simp only [List.length_map]; omega,?_⟩
  obtain ⟨M,hM⟩ : ∃ M : Nat,M = 2 ^ (m + n):=⟨_,rfl⟩
  obtain ⟨Pv,hPv⟩ : ∃ Pv : Nat → St → Hp → Prop,∀ i σ H3,Pv i σ H3 ↔ (Same H H3 ∧ ∃ (r : List Int) (t3 t4 : Option V),r.length + 1 = f.length + g.length ∧ (∀ c,c ∈ r → c.natAbs ≤ i * g.length * M) ∧ (∀ x,Dr.pev r x = Dr.pev (f.take i) x * Dr.pev g x) ∧ H3 l = some (.lst (r.map V.int)) ∧ σ = [some (.ref a),some (.ref b),some (.ref l),t3,t4]):=⟨_,fun _ _ _=>Iff.rfl⟩
  (first | refine hX _ _ ?_ | skip); refine forR Pv ((hPv _ _ _).mpr ⟨g12,_,none,none,by rw [List.length_replicate]; omega,fun c hc=>by rw [(List.mem_replicate.mp hc).2]; simp,fun x=>by rw [Dr.pev_zeros]; simp [Dr.pev],k2,rfl⟩) ?_ ?_
  · intro i σ H3 hi z
    obtain ⟨g3,r,t3,t4,hrl,hrb,hre,k3,rfl⟩:=(hPv _ _ _).mp z
    simp only [List.length_map,Int.toNat_natCast] at hi
    obtain ⟨c,hc⟩ : ∃ c,f[i]? = some c:=⟨_,List.getElem?_eq_getElem hi⟩
    have ac : atI (f.map V.int) (0 + (i : Int)) = some (.int c):=by
      rw [Int.zero_add]
      exact atI_nat (by rw [List.getElem?_map,hc]; rfl)
    (first | refine hX _ _ ?_ | skip); (try dsimp only); try walk_at "dr1"
    refine ⟨_,.inl (g3.seq hS'),by simp only [List.length_map]; omega,by simp only [List.length_map]; omega,?_⟩
    obtain ⟨Pw,hPw⟩ : ∃ Pw : Nat → St → Hp → Prop,∀ j σ H5,Pw j σ H5 ↔ (Same H H5 ∧ ∃ (r : List Int) (t4 : Option V),r.length + 1 = f.length + g.length ∧ (∀ c,c ∈ r → c.natAbs ≤ (i * g.length + j) * M) ∧ (∀ x,Dr.pev r x = Dr.pev (f.take i) x * Dr.pev g x + c * x ^ i * Dr.pev (g.take j) x) ∧ H5 l = some (.lst (r.map V.int)) ∧ σ = [some (.ref a),some (.ref b),some (.ref l),some (.int (0 + (i : Int))),t4]):=⟨_,fun _ _ _=>Iff.rfl⟩
    (first | refine hX _ _ ?_ | skip); refine forR Pw ((hPw _ _ _).mpr ⟨g3,r,t4,hrl,hrb,fun x=>by rw [hre]; simp [Dr.pev],k3,rfl⟩) ?_ ?_
    · intro j σ H5 hj z
      obtain ⟨g5,r,t4,hrl,hrb,hre,k5,rfl⟩:=(hPw _ _ _).mp z
      simp only [List.length_map,Int.toNat_natCast] at hj
      obtain ⟨d,hd⟩ : ∃ d,g[j]? = some d:=⟨_,List.getElem?_eq_getElem hj⟩
      have ad : atI (g.map V.int) (0 + (j : Int)) = some (.int d):=by
        rw [Int.zero_add]
        exact atI_nat (by rw [List.getElem?_map,hd]; rfl)
      obtain ⟨v,e1,e2,e3,_⟩:=get_int (fs:=r) (k:=0 + (i : Int) + (0 + (j : Int))) (by omega) (by omega)
      have hcd : (c * d).natAbs ≤ M:=by
        rw [hM]
        exact Nat.le_of_lt ((hf c (List.mem_of_getElem? hc)).mul (hg d (List.mem_of_getElem? hd)))
      (first | refine hX _ _ ?_ | skip); (try dsimp only); try walk_at "dr1"
      refine ⟨_,SqL.of k5,_,e2,_,g5.seq hS,_,ac,_,g5.seq hS',_,ad,c,rfl,d,rfl,mulSm (hf c (List.mem_of_getElem? hc)) (hg d (List.mem_of_getElem? hd)) (by omega),v,rfl,_,k5,_,e3,?_⟩
      rw [set_int]
      have eij : (0 + (i : Int) + (0 + (j : Int))).toNat = i + j:=by omega
      rw [eij] at e1 ⊢
      refine (hPw _ _ _).mpr ⟨g5.up nl _,_,_,by rw [List.length_set]; exact hrl,fun e he=>?_,fun x=>?_,upd_same,rfl⟩
      · rcases mem_set he with w | w
        · exact Nat.le_trans (hrb e w) (Nat.mul_le_mul_right _ (Nat.le_succ _))
        · rw [w]
          exact steps (hrb v (List.mem_of_getElem? e1)) hcd
      · rw [Dr.pev_set x (c * d) r (i + j) v e1,hre,Dr.pev_take_succ hd,Dr.pow_add']
        generalize x ^ i = X
        generalize x ^ j = Y
        grind
    · intro σ H5 z
      obtain ⟨g5,r,t4,hrl,hrb,hre,k5,rfl⟩:=(hPw _ _ _).mp z
      simp only [List.length_map,Int.toNat_natCast] at hrb hre
      refine (hPv _ _ _).mpr ⟨g5,r,_,_,hrl,fun c hc=>?_,fun x=>?_,k5,rfl⟩
      · rw [Nat.succ_mul]
        exact hrb c hc
      · rw [hre,List.take_length,Dr.pev_take_succ hc]
        grind
  · intro σ H3 z
    obtain ⟨g3,r,t3,t4,hrl,hrb,hre,k3,rfl⟩:=(hPv _ _ _).mp z
    simp only [List.length_map,Int.toNat_natCast] at hrb hre
    (first | refine hX _ _ ?_ | skip); (try dsimp only); try walk_at "dr1"
    rw [List.take_length] at hre
    refine q l r H3 ⟨hrl,hre⟩ (fun c hc=>?_) nl g3 k3
    have h1:=hrb c hc
    have h2 : f.length * g.length * M ≤ 3600 * M:=Nat.mul_le_mul_right _ (Nat.mul_le_mul (show f.length ≤ 60 by omega) (show g.length ≤ 60 by omega))
    show c.natAbs < 2 ^ (m + n + 12)
    rw [Nat.pow_add,← hM]
    have : (2 : Nat) ^ 12 = 4096:=by decide
    have : 0 < M:=by rw [hM]; exact Nat.pow_pos (by decide)
    omega
def cellv (ns : List Int) (k : Int) : Int:=if k < ns.length then ns.getD k.toNat 0 else 3 * k * k + 17 * k + 4
def sp__law_cell (K : PySem.W.Frag) : Sp:=fun vs H Q _=>∃ (a : Addr) (ns : List Int) (k : Int),vs = [.ref a,.int k] ∧ SqL K H a (ns.map V.int) ∧ ns.length ≤ 63 ∧ (0 ≤ k ∧ k < 1000) ∧ Q (.int (cellv ns k)) H
theorem ok__law_cell (B : Bi mg K w) (F : Fun K "_law_cell" "_law_cell" s__law_cell f fd) : FnOk P w K mg base CX0 1 f fd ["script","k"] (sp__law_cell K):=by
  refine F.ok S__law_cell (fun vs H Q E h=>?_) (fun cdv A outer s H vs Q E hr h=>?_)
  · obtain ⟨a,ns,k,rfl,_⟩:=h
    rfl
  obtain ⟨a,ns,k,rfl,hS,hl,hk,q⟩:=h
  have S:=S__law_cell
  refine ⟨_,((pss_cons (ps_if (pt_cmpR op_lt (pv 1) (pe_callB call_len_seq rfl B.b_len PySem.boot_len (pa_cons (pv 0) pa_nil)) (nomark _)) (pss_one (ps_ret (pe_ix ix_list (pv 0) (pv 1) (fun _ _=>rfl)))) pss_nil)
    (pss_one (ps_ret (pe_op op_add (pe_op op_add (pe_op op_mulW (pe_op op_mulW pe_int (pv 1)) (pv 1)) (pe_op op_mulW pe_int (pv 1))) pe_int))))),?_⟩
  refine ⟨_,rfl,_,rfl,a,_,rfl,.inl hS,_,_,rfl,rfl,_,rfl,?_⟩
  have hm : (((ns.map V.int).length : Nat) : Int) = (ns.length : Int):=by rw [List.length_map]
  refine ite2 (fun c=>?_) (fun c=>?_)
  · have c' : k < (ns.length : Int):=by rw [← hm]; exact of_decide_eq_true c
    have hk' : k.toNat < ns.length:=by omega
    have ek : k = ((k.toNat : Nat) : Int):=by omega
    have g : atI (ns.map V.int) ((k.toNat : Nat) : Int) = some (.int (ns.getD k.toNat 0)):=atI_nat (by rw [List.getElem?_map,List.getElem?_eq_getElem hk',List.getD_eq_getElem?_getD,List.getElem?_eq_getElem hk']; rfl)
    rw [← ek] at g
    refine ⟨_,rfl,_,rfl,a,_,_,_,rfl,rfl,hS,g,?_⟩
    unfold cellv at q
    rw [if_pos c'] at q
    exact q
  · have c' : ¬ k < (ns.length : Int):=fun z=>c (decide_eq_true (by rw [hm]; exact z))
    unfold cellv at q
    rw [if_neg c'] at q
    have b1 : IntMulOk 3 k:=IntMulOk.of_left (by decide)
    have b2 : IntMulOk (3 * k) k:=IntMulOk.of_right (intBits_le_64 (by omega) (by omega))
    have b3 : IntMulOk 17 k:=IntMulOk.of_left (by decide)
    exact ⟨_,rfl,_,_,rfl,rfl,b1,_,rfl,_,_,rfl,rfl,b2,_,rfl,_,_,rfl,rfl,b3,_,_,rfl,rfl,_,_,rfl,rfl,q⟩
def sp__law_prime (_ : PySem.W.Frag) : Sp:=fun vs H Q _=>∃ (c : Int),vs = [.int c] ∧ ∀ (p : Int) (H' : Hp),p ∈ Dr.primes → Same H H' → Q (.int p) H'
theorem body__law_prime : ∃ (s1 s2 s3 : Stmt) (e1 : List Expr) (p1 p2 p3 p4 p5 p6 p7 p8 p9 p10 p11 p12 p13 p14 p15 p16 p17 p18 p19 p20 p21 p22 p23 p24 p25 : Pos),defBody s__law_prime = [s1,s2,s3] ∧
    s1 = .Assign [.Name "some" p1] (.List e1 p2) p3 ∧ cInts e1 = some Dr.primes ∧
    s2 = .If (.Compare (.BinOp (.Name "cell" p4) .Mod (.Constant (.int 2) 0 p5) p6) [.Eq] [.Constant (.int 0) 0 p7] p8) [.Return (some (.Subscript (.Name "some" p9) (.BinOp (.BinOp (.Name "cell" p10) .FloorDiv (.Constant (.int 2) 0 p11) p12) .Mod (.Constant (.int 4) 0 p13) p14) p15)) p16] [] p17 ∧
    s3 = .Return (some (.Subscript (.Name "some" p18) (.BinOp (.BinOp (.Name "cell" p19) .FloorDiv (.Constant (.int 2) 0 p20) p21) .Mod (.Constant (.int 25) 0 p22) p23) p24)) p25:=
  ⟨_,_,_,_,_,_,_,_,_,_,_,_,_,_,_,_,_,_,_,_,_,_,_,_,_,_,_,_,_,rfl,rfl,rfl,rfl,rfl⟩
theorem ok__law_prime (B : Bi mg K w) (F : Fun K "_law_prime" "_law_prime" s__law_prime f fd) : FnOk P w K mg base CX0 1 f fd ["cell"] (sp__law_prime K):=by
  refine F.ok S__law_prime (fun vs H Q E h=>?_) (fun cdv A outer s H vs Q E hr h=>?_)
  · obtain ⟨c,rfl,_⟩:=h
    rfl
  obtain ⟨c,rfl,q⟩:=h
  have S:=S__law_prime
  obtain ⟨s1,s2,s3,e1,p1,p2,p3,p4,p5,p6,p7,p8,p9,p10,p11,p12,p13,p14,p15,p16,p17,p18,p19,p20,p21,p22,p23,p24,p25,hb,h1,c1,h2,h3⟩:=body__law_prime
  rw [hb]
  refine ⟨_,(pss_cons (ps_setInts (i:=1) h1 c1 S.nd rfl (Or.inl rfl) (Or.inr rfl))
    (pss_cons (ps_eq h2 (ps_if (pt_cmpR op_eq (pe_op op_mod (pv 0) pe_int) pe_int (nomark _)) (pss_one (ps_ret (pe_ix ix_list (pv 1) (pe_op op_mod (pe_op op_fdivW (pv 0) pe_int) pe_int) (fun _ _=>rfl)))) pss_nil))
    (pss_one (ps_eq h3 (ps_ret (pe_ix ix_list (pv 1) (pe_op op_mod (pe_op op_fdivW (pv 0) pe_int) pe_int) (fun _ _=>rfl))))))),?_⟩
  refine ⟨(by show 25 ≤ sizeLine; decide),fun l hl=>?_⟩
  refine ⟨_,rfl,_,_,rfl,rfl,(show (0 : Int) < 2 by decide),rfl,_,rfl,?_⟩
  refine ite2 (fun _=>?_) (fun _=>?_)
  · have m:=mod_in (c / 2) (show (0 : Int) < 4 by decide)
    refine ⟨_,rfl,_,rfl,_,_,rfl,rfl,⟨by decide,by decide⟩,_,_,rfl,rfl,(show (0 : Int) < 4 by decide),l,_,_,_,rfl,rfl,SqL.of upd_same,atI_ints (ns:=Dr.primes) m.1 (by have:=m.2; show _ < (25 : Int); omega),?_⟩
    exact q _ _ (getD_in (ns:=Dr.primes) m.1 (by have:=m.2; show _ < (25 : Int); omega)) (same_new hl _)
  · have m:=mod_in (c / 2) (show (0 : Int) < 25 by decide)
    refine ⟨_,rfl,_,rfl,_,_,rfl,rfl,⟨by decide,by decide⟩,_,_,rfl,rfl,(show (0 : Int) < 25 by decide),l,_,_,_,rfl,rfl,SqL.of upd_same,atI_ints (ns:=Dr.primes) m.1 m.2,?_⟩
    exact q _ _ (getD_in (ns:=Dr.primes) m.1 m.2) (same_new hl _)
def sp__law_power (_ : PySem.W.Frag) : Sp:=fun vs H Q _=>∃ (p e : Int),vs = [.int p,.int e] ∧ (2 ≤ p ∧ p < 1000) ∧ (0 ≤ e ∧ e < 100000) ∧ Q (.int (p ^ e.toNat)) H
theorem ok__law_power (B : Bi mg K w) (F : Fun K "_law_power" "_law_power" s__law_power f fd) : FnOk P w K mg base CX0 1 f fd ["p","e"] (sp__law_power K):=by
  refine F.ok S__law_power (fun vs H Q E h=>?_) (fun cdv A outer s H vs Q E hr h=>?_)
  · obtain ⟨p,e,rfl,_⟩:=h
    rfl
  obtain ⟨p,e,rfl,hp,he,q⟩:=h
  have S:=S__law_power
  refine ⟨_,((pss_cons (ps_set (i:=2) S.nd rfl (Or.inl rfl) pe_int)
    (pss_cons (ps_for PassesOwn.never rfl (pi_range1 rfl B.b_range (pa_cons (pv 1) pa_nil)) (pg_name (i:=3) S.nd rfl (Or.inl rfl)) (pss_one (ps_set (i:=2) S.nd rfl (Or.inl rfl) (pe_op op_mulW (pv 2) (pv 0)))))
    (pss_one (ps_ret (pv 2)))))),?_⟩
  refine ⟨_,rfl,e,rfl,by omega,by omega,?_⟩
  refine for_range (n:=e.toNat) (fun i σ H'=>H' = H ∧ ∃ t,σ = [some (.int p),some (.int e),some (.int (p ^ i)),t]) ⟨rfl,none,by rw [Int.pow_zero]; rfl⟩ ?_ ?_
  · rintro i σ H' hi ⟨rfl,t,rfl⟩
    refine ⟨_,rfl,_,rfl,_,_,rfl,rfl,IntMulOk.of_right (intBits_le_64 (by omega) (by omega)),rfl,some (.int (0 + (i : Int))),?_⟩
    rw [Int.pow_succ]
    rfl
  · rintro σ H' ⟨rfl,t,rfl⟩
    exact ⟨_,rfl,q⟩
def sp__law_root (_ : PySem.W.Frag) : Sp:=fun vs H Q _=>∃ (p one other : Int),vs = [.int p,.int one,.int other] ∧ p ∈ Dr.primes ∧ ∀ r : Int,Dr.Sm r 57 → Q (.int r) H
theorem cdv_small {x y : Int} (h : 0 < y ∧ y < 1000000) : CDivW x y:=⟨h.1,by
  have h1 : y.natAbs < 1000000:=by omega
  have h2 : y.natAbs.log2 < 20:=(Nat.log2_lt (by omega)).mpr (Nat.lt_trans h1 (by decide))
  omega⟩
theorem ok__law_root (B : Bi mg K w) (F : Fun K "_law_root" "_law_root" s__law_root f fd) : FnOk P w K mg base CX0 1 f fd ["p","one","other"] (sp__law_root K):=by
  refine F.ok S__law_root (fun vs H Q E h=>?_) (fun cdv A outer s H vs Q E hr h=>?_)
  · obtain ⟨p,one,other,rfl,_⟩:=h
    rfl
  obtain ⟨p,one,other,rfl,hpp,q⟩:=h
  have S:=S__law_root
  have p2:=Dr.primes_ge hpp
  have m61:=mod_in (one / 5) (show (0 : Int) < 61 by decide)
  have m5:=mod_in (other / 3) (show (0 : Int) < 5 by decide)
  have m9:=mod_in other (show (0 : Int) < 9 by decide)
  refine ⟨_,((pss_cons (ps_set (i:=3) S.nd rfl (Or.inl rfl) (pe_op op_sub (pe_op op_mod (pe_op op_fdivW (pv 1) pe_int) pe_int) pe_int))
    (pss_cons (ps_join (ps_if (pt_cmpR op_eq (pe_op op_mod (pv 1) pe_int) pe_int (nomark _)) (pss_cons (ps_set (i:=4) S.nd rfl (Or.inl rfl) (pe_op op_add pe_int (pe_op op_mod (pe_op op_fdivW (pv 2) pe_int) pe_int)))
    (pss_cons (ps_for PassesOwn.never rfl (pi_range1 rfl B.b_range (pa_cons (pe_op op_mod (pv 2) pe_int) pa_nil)) (pg_name (i:=5) S.nd rfl (Or.inl rfl)) (pss_one (ps_set (i:=4) S.nd rfl (Or.inl rfl) (pe_op op_mulW (pv 4) (pv 0)))))
    (pss_one (ps_set (i:=3) S.nd rfl (Or.inl rfl) (pe_op op_add (pv 3) (pv 4)))))) pss_nil))
    (pss_one (ps_ret (pv 3)))))),?_⟩
  (try dsimp only); (first | refine hX _ _ ?_ | skip); (try dsimp only); (first | refine seqX (fun X hX=>?_) | skip); try walk_at "dr2"
  refine ⟨cdv_small ⟨by decide,by decide⟩,?_⟩
  generalize one / 5 % 61 = r1 at m61 ⊢
  (first | refine hX _ _ ?_ | skip); refine seqI ?_
  obtain ⟨R,hR⟩ : ∃ R : St → Hp → Prop,∀ σ' H2,R σ' H2 ↔ (H2 = H ∧ ∃ (r : Int) (t4 t5 : Option V),Dr.Sm r 57 ∧ σ' = [some (.int p),some (.int one),some (.int other),some (.int r),t4,t5]):=⟨_,fun _ _=>Iff.rfl⟩
  (first | refine hX _ _ ?_ | skip); refine joinB R ?_ ?_
  · (try dsimp only); (first | refine hX _ _ ?_ | skip); (try dsimp only); (first | refine seqX (fun X hX=>?_) | skip); try walk_at "dr2"
    refine ite2 (fun _=>?_) (fun _=>(hR _ _).mpr ⟨rfl,_,_,_,sm_of 61 (by omega) (by decide),rfl⟩)
    have h5 : 1 ≤ 1 + other / 3 % 5 ∧ 1 + other / 3 % 5 ≤ 5:=by omega
    (try dsimp only); (first | refine hX _ _ ?_ | skip); (try dsimp only); (first | refine seqX (fun X hX=>?_) | skip); try walk_at "dr2"
    refine ⟨cdv_small ⟨by decide,by decide⟩,?_⟩
    generalize 1 + other / 3 % 5 = a0 at h5 ⊢
    (try dsimp only); (first | refine hX _ _ ?_ | skip); (try dsimp only); (first | refine seqX (fun X hX=>?_) | skip); try walk_at "dr2"
    refine ⟨by omega,by omega,?_⟩
    obtain ⟨Pv,hPv⟩ : ∃ Pv : Nat → St → Hp → Prop,∀ i σ H2,Pv i σ H2 ↔ (H2 = H ∧ ∃ (x : Int) (t5 : Option V),x = a0 * p ^ i ∧ σ = [some (.int p),some (.int one),some (.int other),some (.int (r1 - 30)),some (.int x),t5]):=⟨_,fun _ _ _=>Iff.rfl⟩
    (first | refine hX _ _ ?_ | skip); refine forR Pv ((hPv _ _ _).mpr ⟨rfl,a0,none,by simp,rfl⟩) ?_ ?_
    · intro i σ H2 hi z
      obtain ⟨rfl,x,t5,ex,rfl⟩:=(hPv _ _ _).mp z
      (first | refine hX _ _ ?_ | skip); (try dsimp only); try walk_at "dr1"
      exact ⟨IntMulOk.of_right (intBits_le_64 (by omega) (by omega)),(hPv _ _ _).mpr ⟨rfl,x * p,_,by rw [ex,Int.pow_succ,Int.mul_assoc],rfl⟩⟩
    · intro σ H2 z
      obtain ⟨e2,x,t5,ex,rfl⟩:=(hPv _ _ _).mp z
      have bp : ∀ q,q ∈ Dr.primes → ∀ k : Fin 9,0 < q ^ (k : Nat) ∧ q ^ (k : Nat) ≤ 7837433594376961:=by decide +kernel
      have b8:=bp p hpp ⟨(other % 9).toNat,by omega⟩
      dsimp only at b8
      generalize p ^ (other % 9).toNat = P8 at b8 ex
      have hx : 0 ≤ x ∧ x ≤ 5 * 7837433594376961:=by
        have h1:=Int.mul_le_mul h5.2 b8.2 (by omega) (by decide)
        have h2:=Int.mul_nonneg (show 0 ≤ a0 by omega) (show 0 ≤ P8 by omega)
        rw [ex]
        exact ⟨h2,h1⟩
      (first | refine hX _ _ ?_ | skip); (try dsimp only); try walk_at "dr1"
      exact (hR _ _).mpr ⟨e2,_,_,_,sm_of 100000000000000000 (by omega) (by decide),rfl⟩
  intro σ' H2 z
  refine byX fun X hX=>?_; obtain ⟨rfl,r,t4,t5,br,rfl⟩:=(hR _ _).mp z; refine hX ?_; clear hX X
  (first | refine hX _ _ ?_ | skip); (try dsimp only); try walk_at "dr1"
  exact q r br
def sp__law_free (_ : PySem.W.Frag) : Sp:=fun vs H Q _=>∃ (p one other : Int),vs = [.int p,.int one,.int other] ∧ p ∈ Dr.primes ∧ ∀ (c : Addr) (f : List Int) (H' : Hp),(2 ≤ f.length ∧ f.length ≤ 5) → Dr.PolyB f 25 → H c = none → Same H H' → H' c = some (.lst (f.map V.int)) → Q (.ref c) H'
theorem ok__law_free (B : Bi mg K w) (F : Fun K "_law_free" "_law_free" s__law_free f fd) : FnOk P w K mg base CX0 1 f fd ["p","one","other"] (sp__law_free K):=by
  refine F.ok S__law_free (fun vs H Q E h=>?_) (fun cdv A outer s H vs Q E hr h=>?_)
  · obtain ⟨p,one,other,rfl,_⟩:=h
    rfl
  obtain ⟨p,one,other,rfl,hpp,q⟩:=h
  have S:=S__law_free
  have p2:=Dr.primes_ge hpp
  have m3:=mod_in one (show (0 : Int) < 3 by decide)
  have m2:=mod_in other (show (0 : Int) < 2 by decide)
  refine ⟨_,((pss_cons (ps_set (i:=3) S.nd rfl (Or.inl rfl) (pe_lst pa_nil))
    (pss_cons (ps_for PassesOwn.never rfl (pi_range1 rfl B.b_range (pa_cons (pe_op op_add pe_int (pe_op op_mod (pv 1) pe_int)) pa_nil)) (pg_name (i:=4) S.nd rfl (Or.inl rfl)) (pss_cons (ps_set (i:=5) S.nd rfl (Or.inl rfl) (pe_op op_sub (pe_op op_mod (pe_op op_fdivW (pv 1) (pe_op op_add (pe_op op_mulW (pv 4) (pv 4)) pe_int)) pe_int) pe_int))
    (pss_cons (ps_for PassesOwn.never rfl (pi_range1 rfl B.b_range (pa_cons (pe_op op_mod (pe_op op_fdivW (pv 2) (pe_op op_add (pv 4) pe_int)) pe_int) pa_nil)) (pg_name (i:=6) S.nd rfl (Or.inl rfl)) (pss_one (ps_set (i:=5) S.nd rfl (Or.inl rfl) (pe_op op_mulW (pv 5) (pv 0)))))
    (pss_one (ps_expr (pe_bm PySem.F.plainAttrs_list PySem.F.slot_list_append PySem.F.type_list_append mt_append (pv 3) (pa_cons (pv 5) pa_nil)))))))
    (pss_one (ps_ret (pe_op op_cat (pv 3) (pe_op op_rep (pe_lst (pa_cons pe_int pa_nil)) (pe_op op_mod (pv 2) pe_int)))))))),?_⟩
  (try dsimp only); (first | refine hX _ _ ?_ | skip); (try dsimp only); (first | refine seqX (fun X hX=>?_) | skip); try walk_at "dr2"
  refine ⟨by decide,?_⟩
  intro l n_l; generalize e_l : upd _ l _ = H1; obtain ⟨g1,k1⟩:=newH e_l n_l; clear e_l
  (try dsimp only); (first | refine hX _ _ ?_ | skip); (try dsimp only); (first | refine seqX (fun X hX=>?_) | skip); try walk_at "dr2"
  refine ⟨by omega,by omega,?_⟩
  have hn : (2 + one % 3).toNat ≤ 4 ∧ 2 ≤ (2 + one % 3).toNat:=by omega
  generalize (2 + one % 3).toNat = many at hn ⊢
  obtain ⟨Pv,hPv⟩ : ∃ Pv : Nat → St → Hp → Prop,∀ i σ H2,Pv i σ H2 ↔ (Same H H2 ∧ ∃ (f : List Int) (t4 t5 t6 : Option V),H2 l = some (.lst (f.map V.int)) ∧ f.length = i ∧ Dr.PolyB f 25 ∧ σ = [some (.int p),some (.int one),some (.int other),some (.ref l),t4,t5,t6]):=⟨_,fun _ _ _=>Iff.rfl⟩
  (first | refine hX _ _ ?_ | skip); refine forR Pv ((hPv _ _ _).mpr ⟨g1,[],none,none,none,k1,rfl,(fun x hx=>nomatch hx),rfl⟩) ?_ ?_
  · intro i σ H2 hi z
    obtain ⟨g2,f,t4,t5,t6,k2,lf,bf,rfl⟩:=(hPv _ _ _).mp z
    have mk : 0 < (0 + (i : Int)) * (0 + (i : Int)) + 3 ∧ (0 + (i : Int)) * (0 + (i : Int)) + 3 < 1000:=by
      have h1:=Int.mul_le_mul (show (0 + (i : Int)) ≤ 4 by omega) (show (0 + (i : Int)) ≤ 4 by omega) (by omega) (by decide)
      have h2:=Int.mul_nonneg (show 0 ≤ (0 + (i : Int)) by omega) (show 0 ≤ (0 + (i : Int)) by omega)
      omega
    (try dsimp only); (first | refine hX _ _ ?_ | skip); (try dsimp only); (first | refine seqX (fun X hX=>?_) | skip); try walk_at "dr2"
    refine ⟨IntMulOk.of_left (intBits_le_64 (by omega) (by omega)),cdv_small ⟨mk.1,by omega⟩,?_⟩
    have m23:=mod_in (one / ((0 + (i : Int)) * (0 + (i : Int)) + 3)) (show (0 : Int) < 23 by decide)
    generalize one / ((0 + (i : Int)) * (0 + (i : Int)) + 3) % 23 = n0 at m23 ⊢
    have m4:=mod_in (other / (0 + (i : Int) + 1)) (show (0 : Int) < 4 by decide)
    (try dsimp only); (first | refine hX _ _ ?_ | skip); (try dsimp only); (first | refine seqX (fun X hX=>?_) | skip); try walk_at "dr2"
    refine ⟨cdv_small ⟨by omega,by omega⟩,by omega,by omega,?_⟩
    generalize other / (0 + (i : Int) + 1) % 4 = e4 at m4 ⊢
    obtain ⟨Pw,hPw⟩ : ∃ Pw : Nat → St → Hp → Prop,∀ j σ H3,Pw j σ H3 ↔ (H3 = H2 ∧ ∃ (x : Int) (t6 : Option V),x = (n0 - 11) * p ^ j ∧ σ = [some (.int p),some (.int one),some (.int other),some (.ref l),some (.int (0 + (i : Int))),some (.int x),t6]):=⟨_,fun _ _ _=>Iff.rfl⟩
    (first | refine hX _ _ ?_ | skip); refine forR Pw ((hPw _ _ _).mpr ⟨rfl,_,t6,by simp,rfl⟩) ?_ ?_
    · intro j σ H3 hj z
      obtain ⟨rfl,x,t6,ex,rfl⟩:=(hPw _ _ _).mp z
      (first | refine hX _ _ ?_ | skip); (try dsimp only); try walk_at "dr1"
      exact ⟨IntMulOk.of_right (intBits_le_64 (by omega) (by omega)),(hPw _ _ _).mpr ⟨rfl,x * p,_,by rw [ex,Int.pow_succ,Int.mul_assoc],rfl⟩⟩
    · intro σ H3 z
      obtain ⟨e3,x,t6,ex,rfl⟩:=(hPw _ _ _).mp z
      have bx : Dr.Sm x 25:=by
        have bp : ∀ q,q ∈ Dr.primes → ∀ k : Fin 4,0 < q ^ (k : Nat) ∧ q ^ (k : Nat) ≤ 912673:=by decide +kernel
        have b8:=bp p hpp ⟨e4.toNat,by omega⟩
        dsimp only at b8
        have b1 : Dr.Sm (p ^ e4.toNat) 20:=sm_of 912673 (by omega) (by decide)
        have b2 : Dr.Sm (n0 - 11) 4:=sm_of 11 (by omega) (by decide)
        rw [ex]
        exact (b2.mul b1).mono (by decide)
      (first | refine hX _ _ ?_ | skip); (try dsimp only); try walk_at "dr1"
      rw [e3]
      refine ⟨⟨_,SqL.of k2⟩,_,k2,by rw [List.length_map]; exact Nat.lt_of_le_of_lt (show f.length ≤ 4 by omega) (by decide),(hPv _ _ _).mpr ⟨g2.up n_l _,f ++ [x],_,_,_,by rw [upd_same,List.map_append]; rfl,by rw [List.length_append,lf]; rfl,fun y hy=>?_,rfl⟩⟩
      rcases List.mem_append.mp hy with z | z
      · exact bf y z
      · rw [List.mem_singleton.mp z]
        exact bx
  · intro σ H2 z
    obtain ⟨g2,f,t4,t5,t6,k2,lf,bf,rfl⟩:=(hPv _ _ _).mp z
    (first | refine hX _ _ ?_ | skip); (try dsimp only); try walk_at "dr1"
    refine ⟨by decide,?_⟩
    intro l3 n_l3; generalize e_l3 : upd _ l3 _ = H3; obtain ⟨g3,k3⟩:=newH e_l3 n_l3; clear e_l3
    refine ⟨_,k3,by omega,by omega,by simp only [List.length_cons,List.length_nil]; exact Nat.le_trans (show (0 + 1) * (other % 2).toNat ≤ 2 by omega) (by decide),?_⟩
    rw [rep_zero]
    have lr : (List.replicate (other % 2).toNat (0 : Int)).length ≤ 1:=by rw [List.length_replicate]; omega
    have br : ∀ x,x ∈ List.replicate (other % 2).toNat (0 : Int) → x = 0:=fun x hx=>(List.mem_replicate.mp hx).2
    generalize List.replicate (other % 2).toNat (0 : Int) = zs at lr br ⊢
    intro l4 n_l4; generalize e_l4 : upd _ l4 _ = H4; obtain ⟨g4,k4⟩:=newH e_l4 n_l4; clear e_l4
    have k5:=g4 _ _ (g3 _ _ k2)
    refine ⟨_,k5,_,k4,by rw [List.length_map,List.length_map]; exact Nat.le_trans (show f.length + zs.length ≤ 5 by omega) (by decide),?_⟩
    rw [← List.map_append]
    intro l5 n_l5; generalize e_l5 : upd _ l5 _ = H5; obtain ⟨g5,k6⟩:=newH e_l5 n_l5; clear e_l5
    refine q l5 (f ++ zs) H5 (by rw [List.length_append]; omega) (fun y hy=>?_) (none_of (g2.trans (g3.trans g4)) n_l5) (g2.trans (g3.trans (g4.trans g5))) k6
    rcases List.mem_append.mp hy with z | z
    · exact bf y z
    · rw [br y z]
      exact Dr.Sm.zero _
inductive LL (H : Hp) : List Addr → List (List Int) → Prop
  | nil : LL H [] []
  | cons {a : Addr} {f : List Int} {as : List Addr} {fs : List (List Int)} : H a = some (.lst (f.map V.int)) → LL H as fs → LL H (a :: as) (f :: fs)
theorem LL.same {H H' : Hp} {as : List Addr} {fs : List (List Int)} (h : LL H as fs) (g : ∀ b o,b ∈ as → H b = some o → H' b = some o) : LL H' as fs:=by
  induction h with
  | nil=>exact .nil
  | cons e _ ih=>exact .cons (g _ _ (.head _) e) (ih fun b o hb=>g b o (.tail _ hb))
theorem LL.snoc {H : Hp} {as : List Addr} {fs : List (List Int)} {a : Addr} {f : List Int} (h : LL H as fs) (e : H a = some (.lst (f.map V.int))) : LL H (as ++ [a]) (fs ++ [f]):=by
  induction h with
  | nil=>exact .cons e .nil
  | cons e' _ ih=>exact .cons e' ih
theorem LL.len {H : Hp} {as : List Addr} {fs : List (List Int)} (h : LL H as fs) : as.length = fs.length:=by
  induction h with
  | nil=>rfl
  | cons _ _ ih=>simp [ih]
theorem LL.at {H : Hp} {as : List Addr} {fs : List (List Int)} (h : LL H as fs) {i : Nat} {a : Addr} (e : as[i]? = some a) : ∃ f,fs[i]? = some f ∧ H a = some (.lst (f.map V.int)):=by
  induction h generalizing i with
  | nil=>cases e
  | cons e' _ ih=>
    cases i with
    | zero=>cases e; exact ⟨_,rfl,e'⟩
    | succ i=>exact ih e
theorem LL.push {H : Hp} {l a : Addr} {as : List Addr} {fs : List (List Int)} {f : List Int} {o : HO} (h : LL H as fs) (nl : ∀ b,b ∈ as → b ≠ l) (e : H a = some (.lst (f.map V.int))) (na : a ≠ l) : LL (upd H l o) (as ++ [a]) (fs ++ [f]):=
  (h.same fun b o hb k=>by rw [upd_ne (nl b hb)]; exact k).snoc (by rw [upd_ne na]; exact e)
structure PartOk (f : List Int) : Prop where
  len : 2 ≤ f.length ∧ f.length ≤ 5
  sum : Dr.l1 f ≤ 2 ^ 58
def sp__law_parts (K : PySem.W.Frag) : Sp:=fun vs H Q _=>∃ (p : Int) (a : Addr) (ns : List Int),vs = [.int p,.ref a] ∧ p ∈ Dr.primes ∧ SqL K H a (ns.map V.int) ∧ ns.length ≤ 63 ∧
  ∀ (c : Addr) (as : List Addr) (fs : List (List Int)) (H' : Hp),LL H' as fs → (1 ≤ fs.length ∧ fs.length ≤ 3) → (∀ f,f ∈ fs → PartOk f) → H c = none → Same H H' → H' c = some (.lst (as.map V.ref)) → Q (.ref c) H'
theorem l1_bits {f : List Int} {m : Nat} (h : Dr.PolyB f m) : Dr.l1 f ≤ f.length * 2 ^ m:=by
  induction f with
  | nil=>simp [Dr.l1]
  | cons a f ih=>
    have h1 : a.natAbs < 2 ^ m:=h a (.head _)
    have h2:=ih fun x hx=>h x (.tail _ hx)
    simp only [Dr.l1,List.length_cons,Nat.succ_mul]
    omega
theorem ok__law_parts (B : Bi mg K w) (d__law_cell : Def P w K mg base "_law_cell" 1 ["script","k"] (sp__law_cell K)) (d__law_root : Def P w K mg base "_law_root" 1 ["p","one","other"] (sp__law_root K)) (d__law_free : Def P w K mg base "_law_free" 1 ["p","one","other"] (sp__law_free K)) (F : Fun K "_law_parts" "_law_parts" s__law_parts f fd) : FnOk P w K mg base CX0 2 f fd ["p","script"] (sp__law_parts K):=by
  refine F.ok S__law_parts (fun vs H Q E h=>?_) (fun cdv A outer s H vs Q E hr h=>?_)
  · obtain ⟨p,a,ns,rfl,_⟩:=h
    rfl
  obtain ⟨p,a,ns,rfl,hpp,hS,hl,q⟩:=h
  have S:=S__law_parts
  have p2:=Dr.primes_ge hpp
  have m3:=mod_in (cellv ns 0 / 50) (show (0 : Int) < 3 by decide)
  refine ⟨_,((pss_cons (ps_set (i:=2) S.nd rfl (Or.inl rfl) (pe_lst pa_nil))
    (pss_cons (ps_for PassesOwn.never rfl (pi_range3 rfl B.b_range (pa_cons pe_int (pa_cons (pe_callB (call_max2 rfl) rfl B.b_max L2.bt_max (pa_cons pe_int (pa_cons (pe_callB (call_min2 rfl) rfl B.b_min L2.bt_min (pa_cons (pe_callB call_len_seq rfl B.b_len PySem.boot_len (pa_cons (pv 1) pa_nil)) (pa_cons (pe_op op_add pe_int (pe_op op_mulW pe_int (pe_op op_add pe_int (pe_op op_mod (pe_op op_fdivW (pe_def d__law_cell hr rfl (pa_cons (pv 1) (pa_cons pe_int pa_nil))) pe_int) pe_int)))) pa_nil))) pa_nil))) (pa_cons pe_int pa_nil)))) (pg_name (i:=3) S.nd rfl (Or.inl rfl)) (pss_cons (ps_set (i:=4) S.nd rfl (Or.inl rfl) (pe_def d__law_cell hr rfl (pa_cons (pv 1) (pa_cons (pv 3) pa_nil))))
    (pss_cons (ps_set (i:=5) S.nd rfl (Or.inl rfl) (pe_def d__law_cell hr rfl (pa_cons (pv 1) (pa_cons (pe_op op_add (pv 3) pe_int) pa_nil))))
    (pss_one (ps_if (pt_cmpR op_eq (pe_op op_mod (pv 4) pe_int) pe_int (nomark _)) (pss_one (ps_expr (pe_bm PySem.F.plainAttrs_list PySem.F.slot_list_append PySem.F.type_list_append mt_append (pv 2) (pa_cons (pe_lst (pa_cons (pe_op op_sub (pe_op op_mod (pv 5) pe_int) pe_int) (pa_cons (pe_op op_add pe_int (pe_op op_mod (pe_op op_fdivW (pv 5) pe_int) pe_int)) pa_nil))) pa_nil)))) (pss_one (ps_if (pt_cmpR op_eq (pe_op op_mod (pv 4) pe_int) pe_int (nomark _)) (pss_one (ps_expr (pe_bm PySem.F.plainAttrs_list PySem.F.slot_list_append PySem.F.type_list_append mt_append (pv 2) (pa_cons (pe_lst (pa_cons (pe_op op_sub (pe_op op_mod (pv 5) pe_int) pe_int) (pa_cons (pe_op op_sub (pe_op op_mod (pe_op op_fdivW (pv 5) pe_int) pe_int) pe_int) (pa_cons pe_int pa_nil)))) pa_nil)))) (pss_one (ps_if (pt_cmpR op_eq (pe_op op_mod (pv 4) pe_int) pe_int (nomark _)) (pss_one (ps_expr (pe_bm PySem.F.plainAttrs_list PySem.F.slot_list_append PySem.F.type_list_append mt_append (pv 2) (pa_cons (pe_def d__law_free hr rfl (pa_cons (pv 0) (pa_cons (pe_op op_fdivW (pv 4) pe_int) (pa_cons (pv 5) pa_nil)))) pa_nil)))) (pss_one (ps_expr (pe_bm PySem.F.plainAttrs_list PySem.F.slot_list_append PySem.F.type_list_append mt_append (pv 2) (pa_cons (pe_lst (pa_cons (pe_un un_neg (pe_def d__law_root hr rfl (pa_cons (pv 0) (pa_cons (pe_op op_fdivW (pv 4) pe_int) (pa_cons (pv 5) pa_nil))))) (pa_cons pe_int pa_nil))) pa_nil)))))))))))))
    (pss_one (ps_ret (pv 2)))))),?_⟩
  (try dsimp only); (first | refine hX _ _ ?_ | skip); (try dsimp only); (first | refine seqX (fun X hX=>?_) | skip); try walk_at "dr2"; (try simp only [sp__law_cell,sp__law_root,sp__law_free]); try walk_at "dr2"
  refine ⟨by decide,?_⟩
  intro l n_l; generalize e_l : upd _ l _ = H1; obtain ⟨g1,k1⟩:=newH e_l n_l; clear e_l
  (try dsimp only); (first | refine hX _ _ ?_ | skip); (try dsimp only); (first | refine seqX (fun X hX=>?_) | skip); try walk_at "dr2"; (try simp only [sp__law_cell,sp__law_root,sp__law_free]); try walk_at "dr2"
  refine ⟨_,.inl (g1.seq hS),ns,g1.seq hS,hl,cdv_small ⟨by decide,by decide⟩,IntMulOk.of_left (by decide),by decide,by decide,by split <;> first | omega | (split <;> omega),by split <;> first | omega | (split <;> omega),?_⟩
  rw [List.length_map]
  have tl : ∀ hi : Int,6 ≤ hi → hi ≤ 10 → 1 ≤ turns 4 hi 2 ∧ turns 4 hi 2 ≤ 3:=fun hi h1 h2=>by
    unfold turns
    rw [if_pos (by omega)]
    omega
  have t14:=tl (if (if 4 + 2 * (1 + cellv ns 0 / 50 % 3) < (ns.length : Int) then 4 + 2 * (1 + cellv ns 0 / 50 % 3) else (ns.length : Int)) > 6 then (if 4 + 2 * (1 + cellv ns 0 / 50 % 3) < (ns.length : Int) then 4 + 2 * (1 + cellv ns 0 / 50 % 3) else (ns.length : Int)) else 6) (by split <;> omega) (by split <;> split <;> omega)
  generalize turns 4 (if (if 4 + 2 * (1 + cellv ns 0 / 50 % 3) < (ns.length : Int) then 4 + 2 * (1 + cellv ns 0 / 50 % 3) else (ns.length : Int)) > 6 then (if 4 + 2 * (1 + cellv ns 0 / 50 % 3) < (ns.length : Int) then 4 + 2 * (1 + cellv ns 0 / 50 % 3) else (ns.length : Int)) else 6) 2 = many at t14 ⊢
  clear tl m3
  obtain ⟨Pv,hPv⟩ : ∃ Pv : Nat → St → Hp → Prop,∀ i σ H2,Pv i σ H2 ↔ (Same H H2 ∧ ∃ (as : List Addr) (fs : List (List Int)) (t3 t4 t5 : Option V),H2 l = some (.lst (as.map V.ref)) ∧ LL H2 as fs ∧ fs.length = i ∧ (∀ b,b ∈ as → b ≠ l) ∧ (∀ f,f ∈ fs → PartOk f) ∧ σ = [some (.int p),some (.ref a),some (.ref l),t3,t4,t5]):=⟨_,fun _ _ _=>Iff.rfl⟩
  (first | refine hX _ _ ?_ | skip); refine forC Pv ((hPv _ _ _).mpr ⟨g1,[],[],none,none,none,k1,.nil,rfl,(fun b hb=>nomatch hb),(fun f hf=>nomatch hf),rfl⟩) ?_ ?_
  · intro i σ H2 hi z
    obtain ⟨g2,as,fs,t3,t4,t5,k2,hL,lf,nl,ok,rfl⟩:=(hPv _ _ _).mp z
    have push : ∀ (one other : Int) (H3 : Hp) (b : Addr) (f : List Int),Same H2 H3 → H2 b = none → H3 b = some (.lst (f.map V.int)) → PartOk f → Pv (i + 1) [some (.int p),some (.ref a),some (.ref l),some (.int (4 + (i : Int) * 2)),some (.int one),some (.int other)] (upd H3 l (HO.lst (as.map V.ref ++ [V.ref b]))):=fun one other H3 b f g3 nb kb hf=>by
      have nbl : b ≠ l:=fun z=>by rw [z,k2] at nb; cases nb
      refine (hPv _ _ _).mpr ⟨(g2.trans g3).up n_l _,as ++ [b],fs ++ [f],_,_,_,by rw [upd_same,List.map_append]; rfl,(hL.same fun c o _ k=>g3 _ _ k).push nl kb nbl,by rw [List.length_append,lf]; rfl,fun c hc=>?_,fun f' hf'=>?_,rfl⟩
      · rcases List.mem_append.mp hc with z | z
        · exact nl c z
        · rw [List.mem_singleton.mp z]; exact nbl
      · rcases List.mem_append.mp hf' with z | z
        · exact ok f' z
        · rw [List.mem_singleton.mp z]; exact hf
    have la:=hL.len
    have sz : (as.map V.ref).length < sizeLine:=by rw [List.length_map]; exact Nat.lt_of_le_of_lt (show as.length ≤ 3 by omega) (by decide)
    (try dsimp only); (first | refine hX _ _ ?_ | skip); (try dsimp only); (first | refine seqX (fun X hX=>?_) | skip); try walk_at "dr2"; (try simp only [sp__law_cell,sp__law_root,sp__law_free]); try walk_at "dr2"
    refine ⟨ns,g2.seq hS,hl,by omega,by omega,?_⟩
    generalize cellv ns (4 + (i : Int) * 2) = one
    (try dsimp only); (first | refine hX _ _ ?_ | skip); (try dsimp only); (first | refine seqX (fun X hX=>?_) | skip); try walk_at "dr2"; (try simp only [sp__law_cell,sp__law_root,sp__law_free]); try walk_at "dr2"
    refine ⟨ns,g2.seq hS,hl,by omega,by omega,?_⟩
    generalize cellv ns (4 + (i : Int) * 2 + 1) = other
    have m31:=mod_in other (show (0 : Int) < 31 by decide)
    have m12:=mod_in (other / 31) (show (0 : Int) < 12 by decide)
    have m13:=mod_in (other / 31) (show (0 : Int) < 13 by decide)
    (first | refine hX _ _ ?_ | skip); (try dsimp only); try walk_at "dr1"; (try simp only [sp__law_cell,sp__law_root,sp__law_free]); try walk_at "dr1"
    refine ite2 (fun _=>⟨⟨_,SqL.of k2⟩,cdv_small ⟨by decide,by decide⟩,by decide,fun b nb=>?_⟩) (fun _=>ite2 (fun _=>⟨⟨_,SqL.of k2⟩,cdv_small ⟨by decide,by decide⟩,by decide,fun b nb=>?_⟩) (fun _=>ite2 (fun _=>⟨⟨_,SqL.of k2⟩,cdv_small ⟨by decide,by decide⟩,hpp,fun b f H3 lf bf nb g3 kb=>⟨_,g3 _ _ k2,sz,push _ _ H3 b f g3 nb kb ⟨lf,?_⟩⟩⟩) (fun _=>⟨⟨_,SqL.of k2⟩,cdv_small ⟨by decide,by decide⟩,hpp,fun r br=>⟨by decide,fun b nb=>?_⟩⟩)))
    · have g3:=newS nb (o:=HO.lst [V.int (other % 31 - 15),V.int (1 + other / 31 % 12)])
      refine ⟨_,g3 _ _ k2,sz,push _ _ _ b [other % 31 - 15,1 + other / 31 % 12] g3 nb upd_same ⟨by simp,?_⟩⟩
      simp only [Dr.l1]
      omega
    · have g3:=newS nb (o:=HO.lst [V.int (other % 31 - 15),V.int (other / 31 % 13 - 6),V.int 1])
      refine ⟨_,g3 _ _ k2,sz,push _ _ _ b [other % 31 - 15,other / 31 % 13 - 6,1] g3 nb upd_same ⟨by simp,?_⟩⟩
      simp only [Dr.l1]
      omega
    · have h1:=l1_bits bf
      have h2:=Nat.mul_le_mul_right (2 ^ 25) lf.2
      omega
    · have g3:=newS nb (o:=HO.lst [V.int (-r),V.int 1])
      refine ⟨_,g3 _ _ k2,sz,push _ _ _ b [-r,1] g3 nb upd_same ⟨by simp,?_⟩⟩
      have br : r.natAbs < 2 ^ 57:=br
      simp only [Dr.l1]
      omega
  · intro σ H2 z
    obtain ⟨g2,as,fs,t3,t4,t5,k2,hL,lf,nl,ok,rfl⟩:=(hPv _ _ _).mp z
    (first | refine hX _ _ ?_ | skip); (try dsimp only); try walk_at "dr1"; (try simp only [sp__law_cell,sp__law_root,sp__law_free]); try walk_at "dr1"
    exact q l as fs H2 hL (by omega) ok n_l g2 k2
def sp__law_pair (_ : PySem.W.Frag) : Sp:=fun vs H Q _=>∃ (b : Int × Nat),vs = [.str (bt b)] ∧ (0 ≤ b.1 ∧ b.1.natAbs < 10 ^ 182) ∧ b.2 ≤ 60 ∧ ∀ (l : Addr) (H' : Hp),Same H H' → H l = none → H' l = some (.tup [.int b.1,.int (b.2 : Int)]) → Q (.ref l) H'
theorem tx_figs {x : Int} (h : 0 ≤ x) : ∀ c,c ∈ (Tx.tx x).cps.toList → 48 ≤ c ∧ c ≤ 57:=by
  obtain ⟨m,rfl⟩ : ∃ m : Nat,x = m:=⟨x.toNat,by omega⟩
  rw [Tx.tx_nat]
  exact Tx.dg_all m
theorem tx_one {x : Int} (h : 0 ≤ x) : 1 ≤ (Tx.tx x).length:=by
  obtain ⟨m,rfl⟩ : ∃ m : Nat,x = m:=⟨x.toNat,by omega⟩
  have:=Tx.dg_one m
  rw [← Tx.tx_nat,Array.length_toList] at this
  exact this
theorem if_no' {A B : Prop} {a b : Str} (e : a = b) (h : B) : if ¬ a = b then A else B:=by
  rw [if_neg (not_not_intro e)]
  exact h
theorem ok__law_pair (B : Bi mg K w) (F : Fun K "_law_pair" "_law_pair" s__law_pair f fd) : FnOk P w K mg base CX0 1 f fd ["word"] (sp__law_pair K):=by
  refine F.ok S__law_pair (fun vs H Q E h=>?_) (fun cdv A outer s H vs Q E hr h=>?_)
  · obtain ⟨b,rfl,_⟩:=h
    rfl
  obtain ⟨b,rfl,hb,he,q⟩:=h
  have S:=S__law_pair
  refine ⟨_,((pss_cons (ps_asg (pe_bm PySem.F.plainAttrs_str PySem.F.slot_str_partition PySem.F.type_str_partition mt_partition (pv 0) (pa_cons pe_str pa_nil)) (pg_tup rfl (pgs_cons (pg_name (i:=1) S.nd rfl (Or.inl rfl)) (pgs_cons (pg_name (i:=2) S.nd rfl (Or.inl rfl)) (pgs_cons (pg_name (i:=3) S.nd rfl (Or.inl rfl)) pgs_nil)))))
    (pss_cons (ps_for PassesOwn.never rfl (pi_list (pe_lst (pa_cons (pv 1) (pa_cons (pv 3) pa_nil)))) (pg_name (i:=4) S.nd rfl (Or.inl rfl)) (pss_cons (ps_if (PW.pt (pw_or (pt_cmpR op_eq (pv 4) pe_str (nomark _)) (pw_or1 (pt_cmpR op_gt (pe_callB call_len_str rfl B.b_len PySem.boot_len (pa_cons (pv 4) pa_nil)) pe_int (nomark _))))) (pss_one (ps_ret pe_non)) pss_nil)
    (pss_one (ps_for PassesOwn.never rfl (pi_str (pv 4)) (pg_name (i:=5) S.nd rfl (Or.inl rfl)) (pss_one (ps_if (pt_cmpR op_notIn_str (pv 5) pe_str rfl) (pss_one (ps_ret pe_non)) pss_nil))))))
    (pss_cons (ps_if (PW.pt (pw_or (pt_cmpR op_ne (pe_callTy call_str_int rfl B.b_str L2.bt_str (pa_cons (pe_callTy call_intS rfl B.b_int L2.bt_int (pa_cons (pv 1) pa_nil)) pa_nil)) (pv 1) (nomark _)) (pw_or1 (pt_cmpR op_ne (pe_callTy call_str_int rfl B.b_str L2.bt_str (pa_cons (pe_callTy call_intS rfl B.b_int L2.bt_int (pa_cons (pv 3) pa_nil)) pa_nil)) (pv 3) (nomark _))))) (pss_one (ps_ret pe_non)) pss_nil)
    (pss_one (ps_ret (pe_tup (pa_cons (pe_callTy call_intS rfl B.b_int L2.bt_int (pa_cons (pv 1) pa_nil)) (pa_cons (pe_callTy call_intS rfl B.b_int L2.bt_int (pa_cons (pv 3) pa_nil)) pa_nil))))))))),?_⟩
  have eat : Str.ofString "@" = ⟨#[64]⟩:=by decide +kernel
  have ezs : bt b = Tx.tx b.1 ++ (⟨#[64]⟩ : Str) ++ Tx.tx (b.2 : Int):=by unfold bt; rw [eat]
  obtain ⟨r,occ⟩:=Tx.part_at (a:=Tx.tx b.1) (b:=Tx.tx (b.2 : Int)) (c:=64) (fun z=>by rcases Tx.tx_signs _ _ z with e | e <;> omega)
  have l1:=str_182 hb.2
  have l2:=tx_small ⟨b.2,by omega⟩
  dsimp only at l2
  have lz : (bt b).length ≤ 186:=by
    unfold bt
    rw [app_len,app_len,at_len]
    omega
  (try dsimp only); (first | refine hX _ _ ?_ | skip); (try dsimp only); (first | refine seqX (fun X hX=>?_) | skip); try walk_at "dr2"
  refine ⟨rfl,bt b,Str.ofString "@",rfl,rfl,by decide +kernel,Nat.le_trans lz (by decide),(Tx.tx b.1).length,r,by rw [ezs,eat]; exact occ,fun l nl=>⟨l,rfl,_,SqT.of upd_same,rfl,_,_,rfl,_,_,rfl,_,_,rfl,rfl,?_⟩⟩
  have e1 : Builtin.Str.strSub (bt b) 0 (Tx.tx b.1).length = Tx.tx b.1:=by rw [ezs]; exact Tx.part_left _ _ _
  have e2 : Builtin.Str.strSub (bt b) ((Tx.tx b.1).length + (Str.ofString "@").length) (bt b).length = Tx.tx (b.2 : Int):=by rw [ezs,eat]; exact Tx.part_right _ _ _
  rw [e1,e2]
  have g1:=newS nl (o:=HO.tup [V.str (Tx.tx b.1),V.str (Str.ofString "@"),V.str (Tx.tx (b.2 : Int))])
  generalize upd H l (HO.tup [V.str (Tx.tx b.1),V.str (Str.ofString "@"),V.str (Tx.tx (b.2 : Int))]) = H1 at g1 ⊢
  (try dsimp only); (first | refine hX _ _ ?_ | skip); (try dsimp only); (first | refine seqX (fun X hX=>?_) | skip); try walk_at "dr2"
  refine ⟨by decide,?_⟩
  intro lq n_lq; generalize e_lq : upd _ lq _ = H2; obtain ⟨g2,k2⟩:=newH e_lq n_lq; clear e_lq
  refine ⟨⟨_,SqL.of k2⟩,?_⟩
  have two : ∀ (i : Nat) (x : V),[V.str (Tx.tx b.1),V.str (Tx.tx (b.2 : Int))][i]? = some x → ∃ (z : Str),x = V.str z ∧ 1 ≤ z.length ∧ z.length ≤ 183 ∧ ∀ c,c ∈ z.cps.toList → 48 ≤ c ∧ c ≤ 57:=fun i x hx=>by
    match i,hx with
    | 0,hx=>cases hx; exact ⟨_,rfl,tx_one hb.1,l1,tx_figs hb.1⟩
    | 1,hx=>cases hx; exact ⟨_,rfl,tx_one (by omega),by omega,tx_figs (by omega)⟩
    | i + 2,hx=>cases hx
  obtain ⟨Pv,hPv⟩ : ∃ Pv : Nat → St → Hp → Prop,∀ i σ H3,Pv i σ H3 ↔ (H3 = H2 ∧ ∃ (t4 t5 : Option V),σ = [some (V.str (bt b)),some (V.str (Tx.tx b.1)),some (V.str (Str.ofString "@")),some (V.str (Tx.tx (b.2 : Int))),t4,t5]):=⟨_,fun _ _ _=>Iff.rfl⟩
  (first | refine hX _ _ ?_ | skip); refine forL [V.str (Tx.tx b.1),V.str (Tx.tx (b.2 : Int))] Pv ((hPv _ _ _).mpr ⟨rfl,none,none,rfl⟩) (fun i σ H3 _ z=>by rw [((hPv _ _ _).mp z).1]; exact SqL.of k2) ?_ ?_
  · intro i x σ H3 hx z
    obtain ⟨e3,t4,t5,rfl⟩:=(hPv _ _ _).mp z
    obtain ⟨z,rfl,z1,z2,zf⟩:=two i x hx
    have ne : ¬ z = Str.ofString "":=fun e=>by rw [e] at z1; exact absurd z1 (by decide +kernel)
    (try dsimp only); (first | refine hX _ _ ?_ | skip); (try dsimp only); (first | refine seqX (fun X hX=>?_) | skip); try walk_at "dr2"
    rw [if_neg ne]
    refine ⟨Nat.le_trans z2 (by decide),?_⟩
    rw [if_neg (by omega)]
    (first | refine hX _ _ ?_ | skip); (try dsimp only); try walk_at "dr1"; (try simp only [iStr]); try walk_at "dr1"
    refine forS z (fun _ σ H4=>Pv (i + 1) σ H4) ((hPv _ _ _).mpr ⟨e3,_,_,rfl⟩) ?_ (fun σ H4 z=>z)
    intro j c σ H4 hc z
    obtain ⟨e4,t4,t5,rfl⟩:=(hPv _ _ _).mp z
    (first | refine hX _ _ ?_ | skip); (try dsimp only); try walk_at "dr1"
    have fo:=StrLaws.found_one (Str.ofString "0123456789") c
    rw [figure_in,decide_eq_true (zf c (List.mem_of_getElem? hc))] at fo
    rw [if_neg (by rw [Bool.not_eq_true']at fo; rw [fo]; decide)]
    exact (hPv _ _ _).mpr ⟨e4,_,_,rfl⟩
  · intro σ H3 z
    obtain ⟨e3,t4,t5,rfl⟩:=(hPv _ _ _).mp z
    (try dsimp only); (first | refine hX _ _ ?_ | skip); (try dsimp only); (first | refine seqX (fun X hX=>?_) | skip); try walk_at "dr2"
    refine ⟨_,_,rfl,Tx.tx_reads hb.1 hb.2,by omega,_,rfl,log_big (Nat.lt_of_lt_of_le hb.2 (by decide +kernel)),if_no' rfl ?_⟩
    refine ⟨_,_,rfl,Tx.tx_reads (by omega) (Nat.lt_of_le_of_lt (show ((b.2 : Int)).natAbs ≤ 60 by omega) (by decide +kernel)),by omega,_,rfl,log_deep (by omega),if_no' rfl ?_⟩
    (first | refine hX _ _ ?_ | skip); (try dsimp only); try walk_at "dr1"
    refine ⟨_,_,rfl,Tx.tx_reads hb.1 hb.2,by omega,_,_,rfl,Tx.tx_reads (by omega) (Nat.lt_of_le_of_lt (show ((b.2 : Int)).natAbs ≤ 60 by omega) (by decide +kernel)),by omega,by decide,fun l4 n4=>?_⟩
    subst e3
    exact q l4 _ (g1.trans (g2.trans (newS n4))) (none_of (g1.trans g2) n4) upd_same
theorem app_assoc (a b c : Str) : a ++ b ++ c = a ++ (b ++ c):=congrArg Str.mk Array.append_assoc
theorem row2 {t a b : Str} (s : Str) (h : t = a ++ Str.ofString " " ++ (b ++ Str.ofString " ")) : t ++ s = Str.join (Str.ofString " ") [a,b,s]:=by
  show _ = a ++ Str.ofString " " ++ (b ++ Str.ofString " " ++ s)
  rw [h]
  simp only [app_assoc]
theorem t_solve : Str.ofString "solve a " = ("solve" : Str) ++ Str.ofString " " ++ (("a" : Str) ++ Str.ofString " "):=by decide +kernel
theorem t_count : Str.ofString "count a " = ("count" : Str) ++ Str.ofString " " ++ (("a" : Str) ++ Str.ofString " "):=by decide +kernel
theorem t_poly : Str.ofString "poly a " = ("poly" : Str) ++ Str.ofString " " ++ (("a" : Str) ++ Str.ofString " "):=by decide +kernel
theorem l_solve : (Str.ofString "solve a ").length = 8:=by decide +kernel
theorem l_count : (Str.ofString "count a ").length = 8:=by decide +kernel
theorem l_poly : (Str.ofString "poly a ").length = 7:=by decide +kernel
theorem len60 {x : Int} (h : x.natAbs < 10 ^ 60) : (Str.ofString (toString x)).length ≤ 191:=str_big (Nat.lt_of_lt_of_le h (by decide +kernel))
theorem log60 {x : Int} (h : x.natAbs < 10 ^ 60) : x.natAbs.log2 < 1920:=log_big (Nat.lt_of_lt_of_le h (by decide +kernel))
theorem le_line {n : Nat} (h : n ≤ 4000) : n ≤ sizeLine:=Nat.le_trans h (by decide)
theorem nm_a : Nm "a":=⟨by decide +kernel,by decide +kernel,fun c hc=>by revert c; decide +kernel⟩
theorem Stand.same {K : PySem.W.Frag} {H H' : Hp} {kvs : List (Key × V)} {x : Str} {b : Addr} {f : List Int} (h : Stand K H kvs x b f) (g : Same H H') : Stand K H' kvs x b f:=⟨h.nm,h.val,g.seq h.sq,h.len,h.bits⟩
theorem lt60 {x : Int} {n : Nat} (h : Dr.Sm x n) (hn : n ≤ 199) : x.natAbs < 10 ^ 60:=Nat.lt_of_lt_of_le (h.mono hn) (by decide +kernel)
theorem if_no {A B : Prop} {a b : Str} (e : a = b) (h : B) : if ¬ V.str a = V.str b then A else B:=by
  rw [if_neg (not_not_intro (congrArg V.str e))]
  exact h
theorem not_kd {H : Hp} {a kd : Addr} {xs : List V} {kvs : List (Key × V)} (h : H a = some (.lst xs)) (hk : H kd = some (.dK kvs)) : a ≠ kd:=fun z=>by
  rw [z,hk] at h
  cases h
theorem DeskAt.put {K : PySem.W.Frag} {H : Hp} {d dx kd : Addr} {p : Int} {kvs kvs' : List (Key × V)} (h : DeskAt K H d dx kd p kvs) : DeskAt K (upd H kd (.dK kvs')) d dx kd p kvs':=by
  refine ⟨?_,upd_same⟩
  rw [upd_ne fun z=>?_]
  · exact h.ins
  · have:=h.ins
    rw [z,h.kept] at this
    cases this
theorem putK_len (kvs : List (Key × V)) (k : Key) (v : V) : (putK kvs k v).length ≤ kvs.length + 1:=by
  unfold putK
  split
  · rw [List.length_map]; omega
  · rw [List.length_append]; exact Nat.le_refl _
theorem Stand.new {K : PySem.W.Frag} {H : Hp} {kd l : Addr} {kvs kvs0 : List (Key × V)} {x : Str} {f : List Int} (hx : Nm x) (h : H l = some (.lst (f.map V.int))) (hk : H kd = some (.dK kvs0)) (hl : 0 < f.length ∧ f.length ≤ 13) (hb : Dr.PolyB f 700) : Stand K (upd H kd (.dK (putK kvs (Sum.inr x) (.ref l)))) (putK kvs (Sum.inr x) (.ref l)) x l f:=
  ⟨hx,by rw [valV_put,if_pos rfl],SqL.of (by rw [upd_ne (not_kd h hk)]; exact h),hl,hb⟩
theorem bt_signs {b : Int × Nat} : ∀ c,c ∈ (bt b).cps.toList → c = 45 ∨ (48 ≤ c ∧ c ≤ 57) ∨ c = 64:=fun c hc=>by
  have e : (bt b).cps.toList = (Tx.tx b.1).cps.toList ++ (Str.ofString "@").cps.toList ++ (Tx.tx (b.2 : Int)).cps.toList:=by
    show ((Tx.tx b.1).cps ++ (Str.ofString "@").cps ++ (Tx.tx (b.2 : Int)).cps).toList = _
    rw [Array.toList_append,Array.toList_append]
  rw [e] at hc
  rcases List.mem_append.mp hc with hc | hc
  · rcases List.mem_append.mp hc with hc | hc
    · rcases Tx.tx_signs _ _ hc with z | z
      · exact .inl z
      · exact .inr (.inl z)
    · have e64 : (Str.ofString "@").cps.toList = [64]:=by decide +kernel
      rw [e64] at hc
      exact .inr (.inr (List.mem_singleton.mp hc))
  · rcases Tx.tx_signs _ _ hc with z | z
    · exact .inl z
    · exact .inr (.inl z)
theorem bt_free (b : Int × Nat) : 32 ∉ (bt b).cps.toList:=fun z=>by
  rcases bt_signs _ z with e | e | e <;> omega
theorem listT_some {bs : List (Int × Nat)} (h : bs ≠ []) : listT (bs.map bt) = Str.join (Str.ofString " ") (bs.map bt):=if_neg fun z=>h (List.map_eq_nil_iff.mp z)
theorem listT_split {bs : List (Int × Nat)} (h : bs ≠ []) : Txt.split (listT (bs.map bt)) (Str.ofString " ") = bs.map bt:=by
  rw [listT_some h,Tx.space_is]
  refine Tx.split_of (fun z=>h (List.map_eq_nil_iff.mp z)) fun w hw=>?_
  obtain ⟨b,_,rfl⟩:=List.mem_map.mp hw
  exact bt_free b
theorem listT_ne {bs : List (Int × Nat)} (h : bs ≠ []) : listT (bs.map bt) ≠ Str.ofString "none":=fun z=>by
  have e:=listT_split h
  rw [z,show Txt.split (Str.ofString "none") (Str.ofString " ") = [Str.ofString "none"] by decide +kernel] at e
  cases bs with
  | nil=>exact h rfl
  | cons b bs=>
    have e1 : Str.ofString "none" = bt b:=(List.cons.inj e).1
    have : (110 : Nat) ∈ (bt b).cps.toList:=by rw [← e1]; decide +kernel
    rcases bt_signs _ this with e | e | e <;> omega
def sp__law_balls (K : PySem.W.Frag) : Sp:=fun vs H Q _=>∃ (d dx kd b : Addr) (p N : Int) (f : List Int) (kvs : List (Key × V)),vs = [.ref d,.int N] ∧ DeskAt K H d dx kd p kvs ∧ p ∈ Dr.primes ∧ kvs.length < 900 ∧ Stand K H kvs "a" b f ∧ (0 ≤ N ∧ N ≤ 60) ∧
  ∀ (c : Addr) (as : List Addr) (bs : List (Int × Nat)) (H' : Hp),Dr.Solve p (fun x=>Dr.pev f x % p ^ N.toNat = 0) bs → bs.length ≤ 13 → (∀ b,b ∈ bs → b.2 ≤ N.toNat) → H c = none → Same H H' → H' c = some (.lst (as.map V.ref)) → PairsAt H' as bs → Q (.ref c) H'
theorem ok__law_balls (B : Bi mg K w) (d_say : Met P w K mg base CX0 (clK K "Desk") "say" 70 ["self","row"] (sp_say K)) (d__law_pair : Def P w K mg base "_law_pair" 1 ["word"] (sp__law_pair K)) (F : Fun K "_law_balls" "_law_balls" s__law_balls f fd) : FnOk P w K mg base CX0 71 f fd ["desk","deep"] (sp__law_balls K):=by
  refine F.ok S__law_balls (fun vs H Q E h=>?_) (fun cdv A outer s H vs Q E hr h=>?_)
  · obtain ⟨d,dx,kd,b,p,N,f,kvs,rfl,_⟩:=h
    rfl
  obtain ⟨d,dx,kd,b,p,N,f,kvs,rfl,hd,hpp,hk,st,hN,q⟩:=h
  have S:=S__law_balls
  have p2:=Dr.primes_ge hpp
  have hp1 : 2 ≤ p ∧ p < 1000:=by omega
  have lN:=len60 (small_val hN)
  refine ⟨_,((pss_cons (ps_set (i:=2) S.nd rfl (Or.inl rfl) (pe_met pass0 B.cl_Desk d_say hr (pv 0) (pa_cons (pe_op op_add_str pe_str (pe_callTy call_str_int rfl B.b_str L2.bt_str (pa_cons (pv 1) pa_nil))) pa_nil)))
    (pss_cons (ps_if (pt_cmpR op_eq (pv 2) pe_str (nomark _)) (pss_one (ps_ret (pe_lst pa_nil))) pss_nil)
    (pss_one (ps_ret (pe_comp [] [] rfl rfl trivial trivial rfl rfl (by decide) (by decide) rfl rfl (by decide) (pi_list (pe_bm PySem.F.plainAttrs_str PySem.F.slot_str_split PySem.F.type_str_split mt_split (pv 2) (pa_cons pe_str pa_nil))) (fun _ _ _ _=>pts_nil) (fun _ _ _ _=>(pe_def d__law_pair hr rfl (pa_cons (pv 0) pa_nil))))))))),?_⟩
  (try dsimp only); (first | refine hX _ _ ?_ | skip); (try dsimp only); (first | refine seqX (fun X hX=>?_) | skip); try walk_at "dr2"; (try simp only [sp_say,sp__law_pair]); try walk_at "dr2"
  refine ⟨_,_,hd.ins,look_no (by decide +kernel) (by decide +kernel),log60 (small_val hN),le_line (by rw [l_solve]; omega),dx,kd,p,kvs,_,_,_,_,row2 _ t_solve,hd,hpp,hk,?_,.solve st hN fun bs H1 so lb hdp g1=>?_⟩
  · rw [← row2 _ t_solve,app_len,l_solve]
    omega
  (try dsimp only); (first | refine hX _ _ ?_ | skip); (try dsimp only); (first | refine seqX (fun X hX=>?_) | skip); try walk_at "dr2"; (try simp only [sp_say,sp__law_pair]); try walk_at "dr2"
  by_cases c : bs = []
  · rw [if_pos (by rw [c]; rfl)]
    refine ⟨by decide,fun l nl=>q l [] bs _ so lb hdp (none_of g1 nl) (g1.trans (newS nl)) upd_same ⟨by rw [c]; rfl,fun i a b e=>by cases e⟩⟩
  rw [if_neg (listT_ne c)]
  have hsp:=listT_split c
  have bx : ∀ x,x ∈ bs → (0 ≤ x.1 ∧ x.1 < p ^ x.2) ∧ x.2 ≤ 60:=fun x hx=>⟨⟨(so.tree.ok x hx).2.1,(so.tree.ok x hx).2.2.1⟩,by have:=hdp x hx; omega⟩
  have ll : (listT (bs.map bt)).length + 2 ≤ sizeLine:=by
    rw [listT_some c]
    have h2:=StrLaws.join_length_le (Str.ofString " ") (bs.map bt)
    have h3:=sum_len (n:=186) (ts:=bs.map bt) (fun t ht=>by obtain ⟨x,hx,rfl⟩:=List.mem_map.mp ht; exact bt_size hp1 (bx x hx))
    rw [sp_len1] at h2
    rw [List.length_map] at h2 h3
    have : (Str.join (Str.ofString " ") (bs.map bt)).length + 2 ≤ 4000:=by omega
    exact Nat.le_trans this (by decide)
  (first | refine hX _ _ ?_ | skip); (try dsimp only); try walk_at "dr1"; (try simp only [sp_say,sp__law_pair]); try walk_at "dr1"
  refine ⟨rfl,_,_,rfl,rfl,by decide +kernel,ll,fun l2 n2=>?_⟩
  rw [hsp]
  have g2:=newS n2 (o:=HO.lst ((bs.map bt).map V.str))
  have k2 : upd H1 l2 (HO.lst ((bs.map bt).map V.str)) l2 = some (HO.lst ((bs.map bt).map V.str)):=upd_same
  generalize upd H1 l2 (HO.lst ((bs.map bt).map V.str)) = H2 at g2 k2 ⊢
  refine ⟨l2,rfl,⟨_,SqL.of k2⟩,?_⟩
  obtain ⟨Pv,hPv⟩ : ∃ Pv : Nat → List V → Hp → Prop,∀ i ys H3,Pv i ys H3 ↔ (Same H2 H3 ∧ ∃ as : List Addr,ys = as.map V.ref ∧ PairsAt H3 as (bs.take i)):=⟨_,fun _ _ _=>Iff.rfl⟩
  (first | refine hX _ _ ?_ | skip); refine compL ((bs.map bt).map V.str) Pv (by rw [List.length_map,List.length_map]; exact Nat.le_trans lb (by decide)) ((hPv _ _ _).mpr ⟨Same.refl _,[],rfl,rfl,fun i a b e=>by cases e⟩) (fun i ys H3 z=>SqL.of (((hPv _ _ _).mp z).1 _ _ k2)) (fun i x ys H3 hx z=>?_) (fun ys H3 z l3 n3=>?_)
  · obtain ⟨g3,as,rfl,hP⟩:=(hPv _ _ _).mp z
    rw [List.map_map,List.getElem?_map] at hx
    cases e3 : bs[i]? with
    | none=>rw [e3] at hx; cases hx
    | some c=>
      rw [e3] at hx
      cases hx
      have hc:=bx c (List.mem_of_getElem? e3)
      (first | refine hX _ _ ?_ | skip); (try dsimp only); try walk_at "dr1"; (try simp only [sp_say,sp__law_pair]); try walk_at "dr1"
      refine ⟨c,rfl,hc.1.1,rest_lt hp1 hc.2 hc.1,hc.2,fun l4 H4 g4 n4 k4=>(hPv _ _ _).mpr ⟨g3.trans g4,as ++ [l4],by rw [List.map_append]; rfl,?_⟩⟩
      rw [take_next e3]
      refine ⟨by rw [List.length_append,List.length_append,hP.1]; rfl,fun j a b e1 e2=>?_⟩
      have hl:=hP.1
      by_cases cj : j < as.length
      · rw [List.getElem?_append_left cj] at e1
        rw [List.getElem?_append_left (by omega)] at e2
        exact g4 _ _ (hP.2 j a b e1 e2)
      · rw [List.getElem?_append_right (by omega)] at e1
        rw [List.getElem?_append_right (by omega)] at e2
        rw [hl] at e1
        cases ej : j - (bs.take i).length with
        | zero=>
          rw [ej] at e1 e2
          cases e1
          cases e2
          exact k4
        | succ m=>rw [ej] at e1; cases e1
  · obtain ⟨g3,as,rfl,hP⟩:=(hPv _ _ _).mp z
    rw [List.length_map,List.length_map,List.take_length] at hP
    have g4:=newS n3 (o:=HO.lst (as.map V.ref))
    exact q l3 as bs _ so lb hdp (none_of (g1.trans (g2.trans g3)) n3) (g1.trans (g2.trans (g3.trans g4))) upd_same ⟨hP.1,fun i a b e1 e2=>g4 _ _ (hP.2 i a b e1 e2)⟩
def sp__law_worth (K : PySem.W.Frag) : Sp:=fun vs H Q _=>∃ (a : Addr) (f : List Int) (x : Int) (m n : Nat),vs = [.ref a,.int x] ∧ SqL K H a (f.map V.int) ∧ f.length ≤ 100 ∧ Dr.PolyB f m ∧ Dr.Sm x n ∧ (m ≤ 1000000 ∧ n ≤ 100000) ∧ ∀ H',Same H H' → Q (.int (Dr.pev f x)) H'
theorem ok__law_worth (B : Bi mg K w) (F : Fun K "_law_worth" "_law_worth" s__law_worth f fd) : FnOk P w K mg base CX0 1 f fd ["f","x"] (sp__law_worth K):=by
  refine F.ok S__law_worth (fun vs H Q E h=>?_) (fun cdv A outer s H vs Q E hr h=>?_)
  · obtain ⟨a,f,x,m,n,rfl,_⟩:=h
    rfl
  obtain ⟨a,f,x,m,n,rfl,hS,hl,hf,hx,hmn,q⟩:=h
  have S:=S__law_worth
  refine ⟨_,((pss_cons (ps_set (i:=2) S.nd rfl (Or.inl rfl) pe_int)
    (pss_cons (ps_for PassesOwn.never rfl (pi_list (pe_listRev rfl rfl B.b_list rfl B.b_reversed (pv 0))) (pg_name (i:=3) S.nd rfl (Or.inl rfl)) (pss_one (ps_set (i:=2) S.nd rfl (Or.inl rfl) (pe_op op_add (pe_op op_mulW (pv 2) (pv 1)) (pv 3)))))
    (pss_one (ps_ret (pv 2)))))),?_⟩
  (first | refine hX _ _ ?_ | skip); (try dsimp only); try walk_at "dr1"
  refine ⟨_,hS,?_⟩
  intro lr n_lr; generalize e_lr : upd _ lr _ = H1; obtain ⟨g1,k1⟩:=newH e_lr n_lr; clear e_lr
  have k1 : H1 lr = some (.lst (f.reverse.map V.int)):=by rw [List.map_reverse]; exact k1
  refine ⟨⟨_,SqL.of k1⟩,?_⟩
  obtain ⟨Pv,hPv⟩ : ∃ Pv : Nat → St → Hp → Prop,∀ i σ H2,Pv i σ H2 ↔ (H2 = H1 ∧ ∃ t,σ = [some (.ref a),some (.int x),some (.int (Dr.pev (f.drop (f.length - i)) x)),t]):=⟨_,fun _ _ _=>Iff.rfl⟩
  (first | refine hX _ _ ?_ | skip); refine forI f.reverse Pv ((hPv _ _ _).mpr ⟨rfl,none,by simp [Dr.pev]⟩) (fun i σ H2 z=>by obtain ⟨rfl,_⟩:=(hPv _ _ _).mp z; exact SqL.of k1) ?_ ?_
  · intro i c σ H2 hc z
    obtain ⟨rfl,t,rfl⟩:=(hPv _ _ _).mp z
    (first | refine hX _ _ ?_ | skip); (try dsimp only); try walk_at "dr1"
    have b:=(hx.pev (hf.drop (f.length - i))).mono (l:=1000000 + 100 * 100001) (by
      have h1 : (f.drop (f.length - i)).length ≤ 100:=by rw [List.length_drop]; omega
      have h2 : (f.drop (f.length - i)).length * (n + 1) ≤ 100 * 100001:=Nat.mul_le_mul h1 (by omega)
      omega)
    refine ⟨mulSm b hx (by omega),(hPv _ _ _).mpr ⟨rfl,some (.int c),?_⟩⟩
    rw [Dr.pev_rev hc]
  · intro σ H2 z
    obtain ⟨rfl,t,rfl⟩:=(hPv _ _ _).mp z
    (first | refine hX _ _ ?_ | skip); (try dsimp only); try walk_at "dr1"
    rw [List.length_reverse,Nat.sub_self,List.drop_zero]
    exact q _ g1
def sp__law_deep (K : PySem.W.Frag) : Sp:=fun vs H Q _=>∃ (a : Addr) (ns : List Int) (p : Int),vs = [.ref a,.int p] ∧ SqL K H a (ns.map V.int) ∧ ns.length ≤ 63 ∧ ∀ N : Int,(0 ≤ N ∧ N ≤ 16) → Q (.int N) H
theorem ok__law_deep (B : Bi mg K w) (d__law_cell : Def P w K mg base "_law_cell" 1 ["script","k"] (sp__law_cell K)) (F : Fun K "_law_deep" "_law_deep" s__law_deep f fd) : FnOk P w K mg base CX0 2 f fd ["script","p"] (sp__law_deep K):=by
  refine F.ok S__law_deep (fun vs H Q E h=>?_) (fun cdv A outer s H vs Q E hr h=>?_)
  · obtain ⟨a,ns,p,rfl,_⟩:=h
    rfl
  obtain ⟨a,ns,p,rfl,hS,hl,q⟩:=h
  have S:=S__law_deep
  have m1:=mod_in (cellv ns 1) (show (0 : Int) < 17 by decide)
  have m2:=mod_in (cellv ns 1) (show (0 : Int) < 9 by decide)
  have m3:=mod_in (cellv ns 1) (show (0 : Int) < 4 by decide)
  refine ⟨_,((pss_cons (ps_set (i:=2) S.nd rfl (Or.inl rfl) (pe_def d__law_cell hr rfl (pa_cons (pv 0) (pa_cons pe_int pa_nil))))
    (pss_cons (ps_if (pt_cmpR op_lt (pv 1) pe_int (nomark _)) (pss_one (ps_ret (pe_op op_mod (pv 2) pe_int))) pss_nil)
    (pss_cons (ps_if (pt_cmpR op_lt (pv 1) pe_int (nomark _)) (pss_one (ps_ret (pe_op op_mod (pv 2) pe_int))) pss_nil)
    (pss_one (ps_ret (pe_op op_mod (pv 2) pe_int))))))),?_⟩
  (first | refine hX _ _ ?_ | skip); (try dsimp only); try walk_at "dr1"; (try simp only [sp__law_cell]); try walk_at "dr1"
  exact ⟨ns,hS,hl,ite2 (fun _=>q _ (by omega)) (fun _=>ite2 (fun _=>q _ (by omega)) (fun _=>q _ (by omega)))⟩
def fkey (F : Int × Nat) : List Key:=[Sum.inl F.1,Sum.inl (F.2 : Int)]
theorem fkey_inj {F G : Int × Nat} (h : fkey F = fkey G) : F = G:=by
  unfold fkey at h
  simp only [List.cons.injEq,Sum.inl.injEq,and_true] at h
  exact Prod.ext h.1 (by omega)
def upk (p : Int) (b : Int × Nat) : Int × Nat:=(b.1 % p ^ (b.2 - 1),b.2)
def ucnt (p : Int) (bs : List (Int × Nat)) (F : Int × Nat) : Nat:=(bs.filter fun b=>decide (upk p b = F)).length
structure UI (p : Int) (bs : List (Int × Nat)) (kvs : List (List Key × V)) : Prop where
  len : kvs.length ≤ bs.length
  val : ∀ F,valV kvs (fkey F) = if ucnt p bs F = 0 then none else some (.int (ucnt p bs F : Int))
theorem ucnt_snoc (p : Int) (bs : List (Int × Nat)) (b F : Int × Nat) : ucnt p (bs ++ [b]) F = ucnt p bs F + if upk p b = F then 1 else 0:=by
  unfold ucnt
  rw [List.filter_append,List.length_append]
  by_cases w : upk p b = F <;> simp [w]
theorem UI.put {p : Int} {bs : List (Int × Nat)} {kvs : List (List Key × V)} {b : Int × Nat} (h : UI p bs kvs) : UI p (bs ++ [b]) (putK kvs (fkey (upk p b)) (.int ((ucnt p bs (upk p b) : Int) + 1))):=by
  refine ⟨by rw [List.length_append]; have:=h.len; have:=length_putK kvs (fkey (upk p b)) (.int ((ucnt p bs (upk p b) : Int) + 1)); simp only [List.length_cons,List.length_nil]; omega,fun F=>?_⟩
  rw [valV_put,ucnt_snoc]
  by_cases w : upk p b = F
  · subst w
    rw [if_pos rfl,if_pos rfl,if_neg (by omega)]
    congr 2
  · rw [if_neg fun z=>w (fkey_inj z).symm,if_neg w,Nat.add_zero]
    exact h.val F
theorem ucnt_few {p : Int} {Sol : Int → Prop} {bs cs : List (Int × Nat)} {b : Int × Nat} (hp : 2 ≤ p) (h : Dr.Tree p 0 0 Sol bs) (hs : cs.Sublist bs) (hb : 0 < b.2) : ((ucnt p cs (upk p b) : Nat) : Int) < p:=by
  have h1:=h.fathers hp (Dr.fath p b)
  have h2 : ucnt p cs (upk p b) ≤ (bs.filter fun x=>decide (0 < x.2 ∧ Dr.fath p x = Dr.fath p b)).length:=by
    unfold ucnt
    have e : (cs.filter fun x=>decide (upk p x = upk p b)).Sublist (bs.filter fun x=>decide (upk p x = upk p b)):=hs.filter _
    refine Nat.le_trans e.length_le ?_
    rw [← List.countP_eq_length_filter,← List.countP_eq_length_filter]
    refine List.countP_mono_left fun x _ hx=>?_
    have hx : upk p x = upk p b:=of_decide_eq_true hx
    have e1 : x.1 % p ^ (x.2 - 1) = b.1 % p ^ (b.2 - 1):=congrArg Prod.fst hx
    have e2 : (upk p x).2 = (upk p b).2:=by rw [hx]
    have e2 : x.2 = b.2:=e2
    refine decide_eq_true ⟨by omega,?_⟩
    unfold Dr.fath
    rw [e1,e2]
  omega
theorem atI_refs {as : List Addr} {i : Nat} {a : Addr} (e : as[i]? = some a) : atI (as.map V.ref) (0 + (i : Int)) = some (.ref a):=by
  rw [Int.zero_add]
  exact atI_nat (by rw [List.getElem?_map,e]; rfl)
theorem mass_snoc (p : Int) (M : Nat) (bs : List (Int × Nat)) (b : Int × Nat) : Dr.massOf p M (bs ++ [b]) = Dr.massOf p M bs + p.toNat ^ (M - b.2):=by
  unfold Dr.massOf
  rw [List.map_append,List.sum_append]
  simp
def sp__law_apart (K : PySem.W.Frag) : Sp:=fun vs H Q _=>∃ (p N : Int) (c : Addr) (as : List Addr) (bs : List (Int × Nat)) (Sol : Int → Prop),vs = [.int p,.ref c,.int N] ∧ p ∈ Dr.primes ∧ (0 ≤ N ∧ N ≤ 61) ∧ H c = some (.lst (as.map V.ref)) ∧ PairsAt H as bs ∧ bs.length ≤ 13 ∧ (∀ b,b ∈ bs → b.2 ≤ N.toNat) ∧ Dr.Solve p Sol bs ∧ ∀ H',Same H H' → Q (.int ((Dr.massOf p N.toNat bs : Nat) : Int)) H'
theorem ok__law_apart (B : Bi mg K w) (d__law_power : Def P w K mg base "_law_power" 1 ["p","e"] (sp__law_power K)) (F : Fun K "_law_apart" "_law_apart" s__law_apart f fd) : FnOk P w K mg base CX0 2 f fd ["p","balls","deep"] (sp__law_apart K):=by
  refine F.ok S__law_apart (fun vs H Q E h=>?_) (fun cdv A outer s H vs Q E hr h=>?_)
  · obtain ⟨p,N,c,as,bs,Sol,rfl,_⟩:=h
    rfl
  obtain ⟨p,N,c,as,bs,Sol,rfl,hpp,hN,hc,hP,lb,hd,so,q⟩:=h
  have S:=S__law_apart
  have p2:=Dr.primes_ge hpp
  have hp : 2 ≤ p ∧ p < 1000:=by omega
  refine ⟨_,((pss_cons (ps_set (i:=3) S.nd rfl (Or.inl rfl) pe_int)
    (pss_cons (ps_set (i:=4) S.nd rfl (Or.inl rfl) pe_dnewT)
    (pss_cons (ps_for PassesOwn.never rfl (pi_range1 rfl B.b_range (pa_cons (pe_callB call_len_seq rfl B.b_len PySem.boot_len (pa_cons (pv 1) pa_nil)) pa_nil)) (pg_name (i:=5) S.nd rfl (Or.inl rfl)) (pss_cons (ps_asg (pe_ix ix_list (pv 1) (pv 5) (fun _ _=>rfl)) (pg_tup rfl (pgs_cons (pg_name (i:=6) S.nd rfl (Or.inl rfl)) (pgs_cons (pg_name (i:=7) S.nd rfl (Or.inl rfl)) pgs_nil))))
    (pss_cons (ps_if (PW.pt (pw_or (pt_cmpR op_gt (pv 7) (pv 2) (nomark _)) (pw_or (pt_cmpR op_ge (pv 6) (pe_def d__law_power hr rfl (pa_cons (pv 0) (pa_cons (pv 7) pa_nil))) (nomark _)) (pw_or1 (PW.pt (pw_and (pt_cmpR op_gt (pv 5) pe_int (nomark _)) (pw_and1 (pt_cmpR (op_leT (Nat.lt_of_le_of_lt (Nat.le_add_right _ _) hr.units)) (pe_ix ix_list (pv 1) (pv 5) (fun _ _=>rfl)) (pe_ix ix_list (pv 1) (pe_op op_sub (pv 5) pe_int) (fun _ _=>rfl)) (nomark _))))))))) (pss_one (ps_ret (pe_un un_neg pe_int))) pss_nil)
    (pss_cons (ps_set (i:=3) S.nd rfl (Or.inl rfl) (pe_op op_add (pv 3) (pe_def d__law_power hr rfl (pa_cons (pv 0) (pa_cons (pe_op op_sub (pv 2) (pv 7)) pa_nil)))))
    (pss_cons (ps_set (i:=8) S.nd rfl (Or.inl rfl) (pe_tup (pa_cons (pe_op op_mod (pv 6) (pe_def d__law_power hr rfl (pa_cons (pv 0) (pa_cons (pe_callB (call_max2 rfl) rfl B.b_max L2.bt_max (pa_cons pe_int (pa_cons (pe_op op_sub (pv 7) pe_int) pa_nil))) pa_nil)))) (pa_cons (pv 7) pa_nil))))
    (pss_cons (ps_dput (hu1 hr.units) (pv 4) (pv 8) (pe_op op_add (pe_dget2 (hu1 hr.units) (pv 4) (pv 8) pe_int ⟨rfl,rfl,rfl,rfl⟩) pe_int) rfl)
    (pss_cons (ps_if (PW.pt (pw_and (pt_cmpR op_gt (pv 7) pe_int (nomark _)) (pw_and1 (pt_cmpR op_eq (pe_dget (hu1 hr.units) (pv 4) (pv 8) (fun _ _=>rfl)) (pv 0) (nomark _))))) (pss_one (ps_ret (pe_un un_neg pe_int))) pss_nil)
    (pss_one (ps_for PassesOwn.never rfl (pi_list (pe_slice sl_list (pv 1) po_none (po_some (pv 5)))) (pg_tup rfl (pgs_cons (pg_name (i:=9) S.nd rfl (Or.inl rfl)) (pgs_cons (pg_name (i:=10) S.nd rfl (Or.inl rfl)) pgs_nil))) (pss_one (ps_if (pt_cmpR op_eq (pe_op op_mod (pe_op op_sub (pv 6) (pv 9)) (pe_def d__law_power hr rfl (pa_cons (pv 0) (pa_cons (pe_callB (call_min2 rfl) rfl B.b_min L2.bt_min (pa_cons (pv 7) (pa_cons (pv 10) pa_nil))) pa_nil)))) pe_int (nomark _)) (pss_one (ps_ret (pe_un un_neg pe_int))) pss_nil)))))))))))
    (pss_one (ps_ret (pv 3))))))),?_⟩
  (try dsimp only); (first | refine hX _ _ ?_ | skip); (try dsimp only); (first | refine seqX (fun X hX=>?_) | skip); try walk_at "dr2"; (try simp only [sp__law_power]); try walk_at "dr2"
  (try dsimp only); (first | refine hX _ _ ?_ | skip); (try dsimp only); (first | refine seqX (fun X hX=>?_) | skip); try walk_at "dr2"; (try simp only [sp__law_power]); try walk_at "dr2"
  intro lu n_lu; generalize e_lu : upd _ lu _ = H1; obtain ⟨g1,k1⟩:=newH e_lu n_lu; clear e_lu
  (try dsimp only); (first | refine hX _ _ ?_ | skip); (try dsimp only); (first | refine seqX (fun X hX=>?_) | skip); try walk_at "dr2"; (try simp only [sp__law_power]); try walk_at "dr2"
  have hal:=hP.1
  refine ⟨_,.inl (SqL.of (g1 _ _ hc)),by rw [List.length_map]; omega,by rw [List.length_map]; omega,?_⟩
  rw [List.length_map,Int.toNat_natCast]
  obtain ⟨Pv,hPv⟩ : ∃ Pv : Nat → St → Hp → Prop,∀ i σ Hc,Pv i σ Hc ↔ (Same H Hc ∧ ∃ (kvs : List (List Key × V)) (t5 t6 t7 t8 t9 t10 : Option V),Hc lu = some (.dT kvs) ∧ UI p (bs.take i) kvs ∧ σ = [some (.int p),some (.ref c),some (.int N),some (.int ((Dr.massOf p N.toNat (bs.take i) : Nat) : Int)),some (.ref lu),t5,t6,t7,t8,t9,t10]):=⟨_,fun _ _ _=>Iff.rfl⟩
  (first | refine hX _ _ ?_ | skip); refine forR Pv ((hPv _ _ _).mpr ⟨g1,[],none,none,none,none,none,none,k1,⟨Nat.le_refl _,fun F=>rfl⟩,rfl⟩) ?_ ?_
  · intro i σ Hc hi z
    obtain ⟨gc,kvs,t5,t6,t7,t8,t9,t10,kd,hU,rfl⟩:=(hPv _ _ _).mp z
    have hi2 : i < bs.length:=by omega
    have ea : as[i]? = some as[i]:=List.getElem?_eq_getElem hi
    have eb : bs[i]? = some bs[i]:=List.getElem?_eq_getElem hi2
    have ka:=gc _ _ (hP.2 i _ _ ea eb)
    have hcc:=gc _ _ hc
    have hb:=so.tree.ok bs[i] (List.getElem_mem _)
    have hbd:=hd bs[i] (List.getElem_mem _)
    generalize ebl : bs[i] = bl at eb ka hb hbd
    generalize as[i] = ai at ea ka
    have qe : 0 < p ^ bl.2:=Dr.pow_pos hp.1 _
    (try dsimp only); (first | refine hX _ _ ?_ | skip); (try dsimp only); (first | refine seqX (fun X hX=>?_) | skip); try walk_at "dr2"; (try simp only [sp__law_power]); try walk_at "dr2"
    refine ⟨_,SqL.of hcc,_,atI_refs ea,_,rfl,_,SqT.of ka,rfl,_,_,rfl,_,_,rfl,rfl,?_⟩
    (try dsimp only); (first | refine hX _ _ ?_ | skip); (try dsimp only); (first | refine seqX (fun X hX=>?_) | skip); try walk_at "dr2"; (try simp only [sp__law_power]); try walk_at "dr2"
    have rest : X [some (V.int p),some (V.ref c),some (V.int N),some (V.int ((Dr.massOf p N.toNat (bs.take i) : Nat) : Int)),some (V.ref lu),some (V.int (0 + (i : Int))),some (V.int bl.1),some (V.int (bl.2 : Int)),t8,t9,t10] Hc:=by
      (try dsimp only); (first | refine hX _ _ ?_ | skip); (try dsimp only); (first | refine seqX (fun X hX=>?_) | skip); try walk_at "dr2"; (try simp only [sp__law_power]); try walk_at "dr2"
      refine ⟨hp.1,hp.2,by omega,by omega,?_⟩
      (try dsimp only); (first | refine hX _ _ ?_ | skip); (try dsimp only); (first | refine seqX (fun X hX=>?_) | skip); try walk_at "dr2"; (try simp only [sp__law_power]); try walk_at "dr2"
      have e1 : (if (bl.2 : Int) - 1 > 0 then (bl.2 : Int) - 1 else 0).toNat = bl.2 - 1:=by split <;> omega
      have e2 : 0 ≤ (if (bl.2 : Int) - 1 > 0 then (bl.2 : Int) - 1 else 0) ∧ (if (bl.2 : Int) - 1 > 0 then (bl.2 : Int) - 1 else 0) < 100000:=by split <;> omega
      rw [e1]
      refine ⟨hp.1,hp.2,e2.1,e2.2,Dr.pow_pos hp.1 _,by decide,?_⟩
      intro nt n_nt; generalize e_nt : upd _ nt _ = H2; obtain ⟨g2,k2⟩:=newH e_nt n_nt; clear e_nt
      have kd2:=g2 _ _ kd
      have kt : H2 nt = some (.tup ((fkey (upk p bl)).map kV)):=k2
      have em : ((Dr.massOf p N.toNat (bs.take i) : Nat) : Int) + p ^ (N - (bl.2 : Int)).toNat = ((Dr.massOf p N.toNat (bs.take (i + 1)) : Nat) : Int):=by
        rw [take_next eb,mass_snoc,Int.natCast_add,show (N - (bl.2 : Int)).toNat = N.toNat - bl.2 by omega,Int.natCast_pow,show ((p.toNat : Nat) : Int) = p by omega]
      rw [em]
      have hkl:=hU.len
      rw [List.length_take] at hkl
      have tk:=take_next eb
      (try dsimp only); (first | refine hX _ _ ?_ | skip); (try dsimp only); (first | refine seqX (fun X hX=>?_) | skip); try walk_at "dr2"; (try simp only [sp__law_power]); try walk_at "dr2"
      refine ⟨.inr ⟨kvs,.inl kd2⟩,_,DGet.t kd2 kt,(ucnt p (bs.take i) (upk p bl) : Int),?_,_,DPut.t kd2 kt (Nat.lt_of_le_of_lt (show kvs.length ≤ 13 by omega) (by decide)),?_⟩
      · rw [hU.val]
        split
        · rename_i z
          rw [z]
          rfl
        · rfl
      have ntl : nt ≠ lu:=fun z=>by rw [z,kd2] at kt; cases kt
      have g3 : Same H (upd H2 lu (.dT (putK kvs (fkey (upk p bl)) (.int ((ucnt p (bs.take i) (upk p bl) : Int) + 1))))):=(gc.trans g2).up n_lu _
      have hU3 : UI p (bs.take (i + 1)) (putK kvs (fkey (upk p bl)) (.int ((ucnt p (bs.take i) (upk p bl) : Int) + 1))):=by rw [tk]; exact hU.put
      have kd3 : upd H2 lu (.dT (putK kvs (fkey (upk p bl)) (.int ((ucnt p (bs.take i) (upk p bl) : Int) + 1)))) lu = some (.dT (putK kvs (fkey (upk p bl)) (.int ((ucnt p (bs.take i) (upk p bl) : Int) + 1)))):=upd_same
      have kt3 : upd H2 lu (.dT (putK kvs (fkey (upk p bl)) (.int ((ucnt p (bs.take i) (upk p bl) : Int) + 1)))) nt = some (.tup ((fkey (upk p bl)).map kV)):=by rw [upd_ne ntl]; exact kt
      generalize putK kvs (fkey (upk p bl)) (.int ((ucnt p (bs.take i) (upk p bl) : Int) + 1)) = kvs3 at g3 hU3 kd3 kt3 ⊢
      generalize upd H2 lu (.dT kvs3) = H3 at g3 kd3 kt3 ⊢
      have few : 0 < bl.2 → ((ucnt p (bs.take (i + 1)) (upk p bl) : Nat) : Int) < p:=fun h0=>ucnt_few hp.1 so.tree (List.take_sublist _ _) h0
      have some1 : ucnt p (bs.take (i + 1)) (upk p bl) ≠ 0:=by rw [tk,ucnt_snoc,if_pos rfl]; omega
      (try dsimp only); (first | refine hX _ _ ?_ | skip); (try dsimp only); (first | refine seqX (fun X hX=>?_) | skip); try walk_at "dr2"; (try simp only [sp__law_power]); try walk_at "dr2"
      have rest2 : X [some (V.int p),some (V.ref c),some (V.int N),some (V.int ((Dr.massOf p N.toNat (bs.take (i + 1)) : Nat) : Int)),some (V.ref lu),some (V.int (0 + (i : Int))),some (V.int bl.1),some (V.int (bl.2 : Int)),some (V.ref nt),t9,t10] H3:=by
        (first | refine hX _ _ ?_ | skip); (try dsimp only); try walk_at "dr1"; (try simp only [sp__law_power]); try walk_at "dr1"
        refine ⟨_,SqL.of (g3 _ _ hc),?_⟩
        rw [Int.zero_add,cut_to V.ref as (by omega),Int.toNat_natCast]
        intro l4 n_l4; generalize e_l4 : upd _ l4 _ = H4; obtain ⟨g4,k4⟩:=newH e_l4 n_l4; clear e_l4
        refine ⟨⟨_,SqL.of k4⟩,?_⟩
        obtain ⟨Pw,hPw⟩ : ∃ Pw : Nat → St → Hp → Prop,∀ j σ H5,Pw j σ H5 ↔ (H5 = H4 ∧ ∃ (t9 t10 : Option V),σ = [some (V.int p),some (V.ref c),some (V.int N),some (V.int ((Dr.massOf p N.toNat (bs.take (i + 1)) : Nat) : Int)),some (V.ref lu),some (V.int (i : Int)),some (V.int bl.1),some (V.int (bl.2 : Int)),some (V.ref nt),t9,t10]):=⟨_,fun _ _ _=>Iff.rfl⟩
        (first | refine hX _ _ ?_ | skip); refine forL ((as.take i).map V.ref) Pw ((hPw _ _ _).mpr ⟨rfl,_,_,rfl⟩) (fun j σ H5 _ z=>by rw [((hPw _ _ _).mp z).1]; exact SqL.of k4) ?_ ?_
        · intro j v σ H5 hv z
          obtain ⟨e5,t9,t10,rfl⟩:=(hPw _ _ _).mp z
          have hj:=(List.getElem?_eq_some_iff.mp hv).1
          rw [List.length_map,List.length_take] at hj
          have ej : as[j]? = some as[j]:=List.getElem?_eq_getElem (by omega)
          have ebj : bs[j]? = some bs[j]:=List.getElem?_eq_getElem (by omega)
          have kj:=g4 _ _ (g3 _ _ (hP.2 _ _ _ ej ebj))
          rw [List.getElem?_map,List.getElem?_take_of_lt (by omega),ej] at hv
          cases hv
          have dj : Dr.Disj p bs[j] bl:=by
            rw [← ebl]
            exact List.pairwise_iff_getElem.mp so.tree.disj j i (by omega) hi2 (by omega)
          have hbj:=hd bs[j] (List.getElem_mem _)
          generalize bs[j] = bj at kj dj hbj
          rw [← e5] at kj
          (first | refine hX _ _ ?_ | skip); (try dsimp only); try walk_at "dr1"; (try simp only [sp__law_power]); try walk_at "dr1"
          refine ⟨_,SqT.of kj,rfl,_,_,rfl,_,_,rfl,rfl,_,rfl,_,rfl,?_⟩
          refine ⟨hp.1,hp.2,by split <;> omega,by split <;> omega,Dr.pow_pos hp.1 _,?_⟩
          rw [if_neg fun z=>?_]
          · exact (hPw _ _ _).mpr ⟨e5,_,_,rfl⟩
          by_cases cc : (bj.2 : Int) < (bl.2 : Int)
          · rw [if_pos cc,Int.toNat_natCast] at z
            exact dj bl.1 z (Dr.InB.self p bl.1 bl.2)
          · rw [if_neg cc,Int.toNat_natCast] at z
            refine dj bj.1 (Dr.InB.self p bj.1 bj.2) ?_
            show (bj.1 - bl.1) % p ^ bl.2 = 0
            obtain ⟨k,ek⟩:=Int.dvd_of_emod_eq_zero z
            rw [show bj.1 - bl.1 = p ^ bl.2 * (-k) by rw [Int.mul_neg,← ek]; omega]
            exact Int.mul_emod_right ..
        · intro σ H5 z
          obtain ⟨e5,t9,t10,rfl⟩:=(hPw _ _ _).mp z
          rw [e5]
          refine (hPv _ _ _).mpr ⟨g3.trans g4,kvs3,_,_,_,_,_,_,g4 _ _ kd3,hU3,rfl⟩
      refine ite2 (fun h0=>⟨.int ((ucnt p (bs.take (i + 1)) (upk p bl) : Nat) : Int),?_,rfl,?_⟩) (fun _=>rest2)
      · have v:=hU3.val (upk p bl)
        rw [if_neg some1] at v
        have:=DGet.t kd3 kt3
        rwa [v] at this
      · rw [if_neg (fun z=>by have:=few (by omega); have:=V.int.inj z; omega)]
        exact rest2
    rw [if_neg (by omega)]
    refine ⟨hp.1,hp.2,by omega,by omega,?_⟩
    rw [Int.toNat_natCast,if_neg (by omega)]
    refine ite2 (fun c0=>?_) (fun _=>rest)
    have ej : as[i - 1]? = some as[i - 1]:=List.getElem?_eq_getElem (by omega)
    have ebj : bs[i - 1]? = some bs[i - 1]:=List.getElem?_eq_getElem (by omega)
    have kj:=gc _ _ (hP.2 _ _ _ ej ebj)
    have lt : Dr.Lt2 bs[i - 1] bl:=by
      rw [← ebl]
      exact List.pairwise_iff_getElem.mp so.inc (i - 1) i (by omega) hi2 (by omega)
    refine ⟨_,SqL.of hcc,_,atI_refs ea,_,SqL.of hcc,_,by rw [show (0 + (i : Int) - 1) = 0 + ((i - 1 : Nat) : Int) by omega]; exact atI_refs ej,_,_,[bl.1,(bl.2 : Int)],[bs[i - 1].1,(bs[i - 1].2 : Int)],rfl,rfl,SqT.of ka,SqT.of kj,?_⟩
    have e0 : HT.lexLe [bl.1,(bl.2 : Int)] [bs[i - 1].1,(bs[i - 1].2 : Int)] = false:=by
      simp only [HT.lexLe]
      rcases lt with h1 | ⟨h1,h2⟩
      · rw [if_neg (by omega)]
        exact decide_eq_false (by omega)
      · rw [if_pos h1.symm,if_neg (by omega)]
        exact decide_eq_false (by omega)
    rw [e0]
    refine ⟨_,rfl,?_⟩
    rw [if_neg (by decide)]
    exact rest
  · intro σ Hc z
    obtain ⟨gc,kvs,t5,t6,t7,t8,t9,t10,kd,hU,rfl⟩:=(hPv _ _ _).mp z
    rw [hal,List.take_length]
    (first | refine hX _ _ ?_ | skip); (try dsimp only); try walk_at "dr1"; (try simp only [sp__law_power]); try walk_at "dr1"
    exact q Hc gc
def sp__law_numbers (K : PySem.W.Frag) : Sp:=fun vs H Q _=>∃ (p : Int) (a lp lb : Addr) (ns : List Int) (as : List Addr) (fs : List (List Int)) (cs : List Addr) (bs : List (Int × Nat)),vs = [.ref a,.int p,.ref lp,.ref lb] ∧ p ∈ Dr.primes ∧ SqL K H a (ns.map V.int) ∧ ns.length ≤ 63 ∧
  H lp = some (.lst (as.map V.ref)) ∧ LL H as fs ∧ (1 ≤ fs.length ∧ fs.length ≤ 3) ∧ (∀ f,f ∈ fs → PartOk f) ∧ H lb = some (.lst (cs.map V.ref)) ∧ PairsAt H cs bs ∧ bs.length ≤ 13 ∧ (∀ b,b ∈ bs → 0 ≤ b.1 ∧ b.1.natAbs < 10 ^ 182) ∧
  ∀ (c : Addr) (xs : List Int) (H' : Hp),(xs.length ≤ 60 ∧ ∀ x,x ∈ xs → Dr.Sm x 700) → H c = none → Same H H' → H' c = some (.lst (xs.map V.int)) → Q (.ref c) H'
theorem ok__law_numbers (B : Bi mg K w) (d__law_cell : Def P w K mg base "_law_cell" 1 ["script","k"] (sp__law_cell K)) (d__law_power : Def P w K mg base "_law_power" 1 ["p","e"] (sp__law_power K)) (F : Fun K "_law_numbers" "_law_numbers" s__law_numbers f fd) : FnOk P w K mg base CX0 2 f fd ["script","p","parts","balls"] (sp__law_numbers K):=by
  refine F.ok S__law_numbers (fun vs H Q E h=>?_) (fun cdv A outer s H vs Q E hr h=>?_)
  · obtain ⟨p,a,lp,lb,ns,as,fs,cs,bs,rfl,_⟩:=h
    rfl
  obtain ⟨p,a,lp,lb,ns,as,fs,cs,bs,rfl,hpp,hS,hl,klp,hL,lfs,hok,klb,hP,lbs,hb,q⟩:=h
  have S:=S__law_numbers
  have p2:=Dr.primes_ge hpp
  have hp : 2 ≤ p ∧ p < 1000:=by omega
  refine ⟨_,((pss_cons (ps_set (i:=4) S.nd rfl (Or.inl rfl) (pe_lst pa_nil))
    (pss_cons (ps_for PassesOwn.never rfl (pi_range2 rfl B.b_range (pa_cons pe_int (pa_cons (pe_callB (call_max2 rfl) rfl B.b_max L2.bt_max (pa_cons pe_int (pa_cons (pe_callB (call_min2 rfl) rfl B.b_min L2.bt_min (pa_cons (pe_callB call_len_seq rfl B.b_len PySem.boot_len (pa_cons (pv 0) pa_nil)) (pa_cons pe_int pa_nil))) pa_nil))) pa_nil))) (pg_name (i:=5) S.nd rfl (Or.inl rfl)) (pss_cons (ps_set (i:=6) S.nd rfl (Or.inl rfl) (pe_def d__law_cell hr rfl (pa_cons (pv 0) (pa_cons (pv 5) pa_nil))))
    (pss_cons (ps_set (i:=7) S.nd rfl (Or.inl rfl) (pe_op op_sub (pe_op op_mod (pe_op op_fdivW (pv 6) pe_int) pe_int) pe_int))
    (pss_cons (ps_set (i:=8) S.nd rfl (Or.inl rfl) (pe_op op_mulW (pe_op op_add pe_int (pe_op op_mod (pe_op op_fdivW (pv 6) pe_int) pe_int)) (pe_def d__law_power hr rfl (pa_cons (pv 1) (pa_cons (pe_op op_mod (pe_op op_fdivW (pv 6) pe_int) pe_int) pa_nil)))))
    (pss_cons (ps_join (ps_if (PW.pt (pw_and (pt_cmpR op_eq (pe_op op_mod (pv 6) pe_int) pe_int (nomark _)) (pw_and1 (pt_cmpR (op_neD hr.units) (pv 3) (pe_lst pa_nil) (nomark _))))) (pss_one (ps_set (i:=7) S.nd rfl (Or.inl rfl) (pe_op op_add (pe_ix ix_tup (pe_ix ix_list (pv 3) (pe_op op_mod (pe_op op_fdivW (pv 6) pe_int) (pe_callB call_len_seq rfl B.b_len PySem.boot_len (pa_cons (pv 3) pa_nil))) (fun _ _=>rfl)) pe_int (fun _ _=>rfl)) (pv 8)))) pss_nil))
    (pss_cons (ps_join (ps_if (pt_cmpR op_eq (pe_op op_mod (pv 6) pe_int) pe_int (nomark _)) (pss_one (ps_set (i:=7) S.nd rfl (Or.inl rfl) (pe_op op_sub (pv 8) (pe_ix ix_list (pe_ix ix_list (pv 2) (pe_op op_mod (pe_op op_fdivW (pv 6) pe_int) (pe_callB call_len_seq rfl B.b_len PySem.boot_len (pa_cons (pv 2) pa_nil))) (fun _ _=>rfl)) pe_int (fun _ _=>rfl))))) pss_nil))
    (pss_one (ps_expr (pe_bm PySem.F.plainAttrs_list PySem.F.slot_list_append PySem.F.type_list_append mt_append (pv 4) (pa_cons (pv 7) pa_nil))))))))))
    (pss_one (ps_ret (pv 4)))))),?_⟩
  (try dsimp only); (first | refine hX _ _ ?_ | skip); (try dsimp only); (first | refine seqX (fun X hX=>?_) | skip); try walk_at "dr2"; (try simp only [sp__law_cell,sp__law_power]); try walk_at "dr2"
  refine ⟨by decide,?_⟩
  intro l n_l; generalize e_l : upd _ l _ = H1; obtain ⟨g1,k1⟩:=newH e_l n_l; clear e_l
  (try dsimp only); (first | refine hX _ _ ?_ | skip); (try dsimp only); (first | refine seqX (fun X hX=>?_) | skip); try walk_at "dr2"; (try simp only [sp__law_cell,sp__law_power]); try walk_at "dr2"
  refine ⟨_,.inl (g1.seq hS),by decide,by decide,by split <;> first | omega | (split <;> omega),by split <;> first | omega | (split <;> omega),?_⟩
  rw [List.length_map]
  have t40 : ((if (if 56 < (ns.length : Int) then 56 else (ns.length : Int)) > 17 then (if 56 < (ns.length : Int) then 56 else (ns.length : Int)) else 17) - 16).toNat ≤ 40:=by split <;> split <;> omega
  generalize ((if (if 56 < (ns.length : Int) then 56 else (ns.length : Int)) > 17 then (if 56 < (ns.length : Int) then 56 else (ns.length : Int)) else 17) - 16).toNat = many at t40 ⊢
  obtain ⟨Pv,hPv⟩ : ∃ Pv : Nat → St → Hp → Prop,∀ i σ H2,Pv i σ H2 ↔ (Same H H2 ∧ ∃ (xs : List Int) (t5 t6 t7 t8 : Option V),H2 l = some (.lst (xs.map V.int)) ∧ xs.length = i ∧ (∀ x,x ∈ xs → Dr.Sm x 700) ∧ σ = [some (.ref a),some (.int p),some (.ref lp),some (.ref lb),some (.ref l),t5,t6,t7,t8]):=⟨_,fun _ _ _=>Iff.rfl⟩
  (first | refine hX _ _ ?_ | skip); refine forR Pv ((hPv _ _ _).mpr ⟨g1,[],none,none,none,none,k1,rfl,(fun x hx=>nomatch hx),rfl⟩) ?_ ?_
  · intro i σ H2 hi z
    obtain ⟨g2,xs,t5,t6,t7,t8,k2,lx,bx,rfl⟩:=(hPv _ _ _).mp z
    (try dsimp only); (first | refine hX _ _ ?_ | skip); (try dsimp only); (first | refine seqX (fun X hX=>?_) | skip); try walk_at "dr2"; (try simp only [sp__law_cell,sp__law_power]); try walk_at "dr2"
    refine ⟨ns,g2.seq hS,hl,by omega,by omega,?_⟩
    generalize cellv ns (16 + (i : Int)) = cell
    have m1:=mod_in (cell / 3) (show (0 : Int) < 2000003 by decide)
    have m2:=mod_in (cell / 3) (show (0 : Int) < 11 by decide)
    have m3:=mod_in (cell / 33) (show (0 : Int) < 12 by decide)
    (try dsimp only); (first | refine hX _ _ ?_ | skip); (try dsimp only); (first | refine seqX (fun X hX=>?_) | skip); try walk_at "dr2"; (try simp only [sp__law_cell,sp__law_power]); try walk_at "dr2"
    refine ⟨cdv_small ⟨by decide,by decide⟩,?_⟩
    generalize cell / 3 % 2000003 = n0 at m1 ⊢
    (try dsimp only); (first | refine hX _ _ ?_ | skip); (try dsimp only); (first | refine seqX (fun X hX=>?_) | skip); try walk_at "dr2"; (try simp only [sp__law_cell,sp__law_power]); try walk_at "dr2"
    have bpw : Dr.Sm (p ^ (cell / 33 % 12).toNat) 121:=(show Dr.Sm _ (10 * (cell / 33 % 12).toNat + 1) from pow_bits hp _).mono (by omega)
    have b11 : Dr.Sm (1 + cell / 3 % 11) 4:=sm_of 11 (by omega) (by decide)
    refine ⟨cdv_small ⟨by decide,by decide⟩,cdv_small ⟨by decide,by decide⟩,hp.1,hp.2,by omega,by omega,mulSm b11 bpw (by decide),?_⟩
    have bst:=b11.mul bpw
    generalize (1 + cell / 3 % 11) * p ^ (cell / 33 % 12).toNat = step at bst ⊢
    clear bpw b11
    (first | refine hX _ _ ?_ | skip); refine seqI ?_
    obtain ⟨R,hR⟩ : ∃ R : St → Hp → Prop,∀ σ' H3,R σ' H3 ↔ (Same H2 H3 ∧ ∃ n : Int,Dr.Sm n 690 ∧ σ' = [some (.ref a),some (.int p),some (.ref lp),some (.ref lb),some (.ref l),some (.int (16 + (i : Int))),some (.int cell),some (.int n),some (.int step)]):=⟨_,fun _ _=>Iff.rfl⟩
    (first | refine hX _ _ ?_ | skip); refine joinB R ?_ ?_
    · (first | refine hX _ _ ?_ | skip); (try dsimp only); try walk_at "dr1"; (try simp only [sp__law_cell,sp__law_power]); try walk_at "dr1"
      have same : ∀ H3,Same H2 H3 → R [some (.ref a),some (.int p),some (.ref lp),some (.ref lb),some (.ref l),some (.int (16 + (i : Int))),some (.int cell),some (.int (n0 - 1000001)),some (.int step)] H3:=fun H3 g3=>(hR _ _).mpr ⟨g3,_,(sm_of (k:=22) 2000003 (by omega) (by decide)).mono (by decide),rfl⟩
      refine ite2 (fun _=>⟨by decide,fun l3 n3=>?_⟩) (fun _=>same H2 (Same.refl _))
      generalize e3 : upd H2 l3 _ = H3
      obtain ⟨g3,k3⟩:=newH e3 n3
      clear e3
      have G3:=g2.trans g3
      have hP3:=hP.same G3
      refine neP (fs:=bs.map natP) (gs:=[]) (cs:=[]) (SqL.of (G3 _ _ klb)) hP3.ints (SqL.of k3) (PairsI.nil _) ?_
      by_cases c0 : bs = []
      · rw [c0]
        exact ⟨_,rfl,same H3 g3⟩
      · have e1 : decide (bs.map natP = []) = false:=decide_eq_false fun z=>c0 (List.map_eq_nil_iff.mp z)
        rw [e1]
        refine ⟨_,rfl,?_⟩
        rw [if_pos (by rfl)]
        have l0 : 0 < bs.length:=by
          cases bs with
          | nil=>exact absurd rfl c0
          | cons b bs=>simp
        have hcl:=hP.1
        have mm:=mod_in (cell / 400) (show (0 : Int) < (cs.length : Int) by omega)
        refine ⟨cdv_small ⟨by decide,by decide⟩,_,.inl (SqL.of (G3 _ _ klb)),by rw [List.length_map]; omega,_,SqL.of (G3 _ _ klb),?_⟩
        rw [List.length_map]
        generalize cell / 400 % (cs.length : Int) = kk at mm ⊢
        obtain ⟨k,rfl⟩ : ∃ k : Nat,kk = k:=⟨kk.toNat,by omega⟩
        have ec : cs[k]? = some cs[k]:=List.getElem?_eq_getElem (by omega)
        obtain ⟨b,hbk,kb⟩:=hP3.get ec
        have hb1:=hb b (List.mem_of_getElem? hbk)
        refine ⟨_,atI_nat (j:=k) (by rw [List.getElem?_map,ec]; rfl),_,rfl,_,SqT.of kb,_,atI_nat (j:=0) rfl,_,rfl,(hR _ _).mpr ⟨g3,_,?_,rfl⟩⟩
        have b1 : Dr.Sm b.1 610:=Nat.lt_of_lt_of_le hb1.2 (by decide +kernel)
        exact (b1.add bst).mono (by decide)
    intro σ' H3 z
    refine byX fun X hX=>?_; obtain ⟨g3,n,bn,rfl⟩:=(hR _ _).mp z; refine hX ?_; clear hX X
    clear hR z
    (first | refine hX _ _ ?_ | skip); refine seqI ?_
    obtain ⟨R,hR⟩ : ∃ R : St → Hp → Prop,∀ σ' H4,R σ' H4 ↔ (Same H3 H4 ∧ ∃ n : Int,Dr.Sm n 700 ∧ σ' = [some (.ref a),some (.int p),some (.ref lp),some (.ref lb),some (.ref l),some (.int (16 + (i : Int))),some (.int cell),some (.int n),some (.int step)]):=⟨_,fun _ _=>Iff.rfl⟩
    (first | refine hX _ _ ?_ | skip); refine joinB R ?_ ?_
    · (first | refine hX _ _ ?_ | skip); (try dsimp only); try walk_at "dr1"; (try simp only [sp__law_cell,sp__law_power]); try walk_at "dr1"
      have G3:=g2.trans g3
      refine ite2 (fun _=>?_) (fun _=>(hR _ _).mpr ⟨Same.refl _,_,bn.mono (by decide),rfl⟩)
      have hla:=hL.len
      have mm:=mod_in (cell / 400) (show (0 : Int) < (as.length : Int) by omega)
      refine ⟨cdv_small ⟨by decide,by decide⟩,_,.inl (SqL.of (G3 _ _ klp)),by rw [List.length_map]; omega,_,SqL.of (G3 _ _ klp),?_⟩
      rw [List.length_map]
      generalize cell / 400 % (as.length : Int) = kk at mm ⊢
      obtain ⟨k,rfl⟩ : ∃ k : Nat,kk = k:=⟨kk.toNat,by omega⟩
      have ec : as[k]? = some as[k]:=List.getElem?_eq_getElem (by omega)
      obtain ⟨f,hfk,kfk⟩:=hL.at ec
      have okf:=hok f (List.mem_of_getElem? hfk)
      cases f with
      | nil=>exact absurd okf.len.1 (by decide)
      | cons f0 f=>
        have bf0 : Dr.Sm f0 59:=Nat.lt_of_le_of_lt (Nat.le_trans (Dr.l1_mem (f:=f0 :: f) (.head _)) okf.sum) (by decide)
        exact ⟨_,atI_nat (j:=k) (by rw [List.getElem?_map,ec]; rfl),_,rfl,_,SqL.of (G3 _ _ kfk),_,atI_nat (j:=0) rfl,_,rfl,(hR _ _).mpr ⟨Same.refl _,_,(bst.sub bf0).mono (by decide),rfl⟩⟩
    intro σ' H4 z
    refine byX fun X hX=>?_; obtain ⟨g4,n',bn',rfl⟩:=(hR _ _).mp z; refine hX ?_; clear hX X
    clear hR z
    have k4:=g4 _ _ (g3 _ _ k2)
    (first | refine hX _ _ ?_ | skip); (try dsimp only); try walk_at "dr1"; (try simp only [sp__law_cell,sp__law_power]); try walk_at "dr1"
    refine ⟨⟨_,SqL.of k4⟩,_,k4,by rw [List.length_map]; exact Nat.lt_of_le_of_lt (show xs.length ≤ 40 by omega) (by decide),(hPv _ _ _).mpr ⟨(g2.trans (g3.trans g4)).up n_l _,xs ++ [n'],_,_,_,_,by rw [upd_same,List.map_append]; rfl,by rw [List.length_append,lx]; rfl,fun x hx=>?_,rfl⟩⟩
    rcases List.mem_append.mp hx with z | z
    · exact bx x z
    · rw [List.mem_singleton.mp z]
      exact bn'
  · intro σ H2 z
    obtain ⟨g2,xs,t5,t6,t7,t8,k2,lx,bx,rfl⟩:=(hPv _ _ _).mp z
    (first | refine hX _ _ ?_ | skip); (try dsimp only); try walk_at "dr1"; (try simp only [sp__law_cell,sp__law_power]); try walk_at "dr1"
    exact q l xs H2 ⟨by omega,bx⟩ n_l g2 k2
theorem sq_put {K : PySem.W.Frag} {H : Hp} {kd a : Addr} {xs : List V} {kvs : List (Key × V)} {o : HO} (hk : H kd = some (.dK kvs)) (h : SqL K H a xs) : SqL K (upd H kd o) a xs:=by
  rcases h with (z | ⟨u,z⟩) | z
  · exact .inl (.inl (by rw [upd_ne (not_kd z hk)]; exact z))
  · refine .inl (.inr ⟨u,?_⟩)
    rw [upd_ne fun e=>by rw [e,hk] at z; cases z]
    exact z
  · exact .inr z
theorem LL.put {H : Hp} {as : List Addr} {fs : List (List Int)} {kd : Addr} {kvs : List (Key × V)} {o : HO} (h : LL H as fs) (hk : H kd = some (.dK kvs)) : LL (upd H kd o) as fs:=by
  induction h with
  | nil=>exact .nil
  | cons e _ ih=>exact .cons (by rw [upd_ne (not_kd e hk)]; exact e) ih
theorem pairs_tup {H : Hp} {as : List Addr} {bs : List (Int × Nat)} (h : PairsAt H as bs) : ∀ a,a ∈ as → ∃ xs,H a = some (.tup xs):=fun a ha=>by
  obtain ⟨i,e⟩:=List.getElem?_of_mem ha
  obtain ⟨b,_,k⟩:=h.get e
  exact ⟨_,k⟩
theorem ok_law (B : Bi mg K w) (d___init__ : MkD P w K mg base (clK K "Desk") 2 ["self","p"] (sp___init__ K)) (d_say : Met P w K mg base CX0 (clK K "Desk") "say" 70 ["self","row"] (sp_say K)) (d__law_cell : Def P w K mg base "_law_cell" 1 ["script","k"] (sp__law_cell K)) (d__law_prime : Def P w K mg base "_law_prime" 1 ["cell"] (sp__law_prime K)) (d__law_times : Def P w K mg base "_law_times" 1 ["f","g"] (sp__law_times K)) (d__law_parts : Def P w K mg base "_law_parts" 2 ["p","script"] (sp__law_parts K)) (d__law_balls : Def P w K mg base "_law_balls" 71 ["desk","deep"] (sp__law_balls K)) (d__law_power : Def P w K mg base "_law_power" 1 ["p","e"] (sp__law_power K)) (d__law_apart : Def P w K mg base "_law_apart" 2 ["p","balls","deep"] (sp__law_apart K)) (d__law_worth : Def P w K mg base "_law_worth" 1 ["f","x"] (sp__law_worth K)) (d__law_deep : Def P w K mg base "_law_deep" 2 ["script","p"] (sp__law_deep K)) (d__law_numbers : Def P w K mg base "_law_numbers" 2 ["script","p","parts","balls"] (sp__law_numbers K)) (F : Fun K "law" "law" s_law f fd) : FnOk P w K mg base CX0 72 f fd ["script"] (spLaw K):=by
  refine F.ok S_law (fun vs H Q E h=>?_) (fun cdv A outer s H vs Q E hr h=>?_)
  · obtain ⟨a,ns,rfl,_⟩:=h
    rfl
  obtain ⟨la,ns,rfl,hS,hl,hbits,q⟩:=h
  have S:=S_law
  refine ⟨_,((pss_cons (ps_set (i:=1) S.nd rfl (Or.inr rfl) (pe_def d__law_prime hr rfl (pa_cons (pe_def d__law_cell hr rfl (pa_cons (pv 0) (pa_cons pe_int pa_nil))) pa_nil)))
    (pss_cons (ps_set (i:=2) S.nd rfl (Or.inl rfl) (pe_def d__law_parts hr rfl (pa_cons (pv 1) (pa_cons (pv 0) pa_nil))))
    (pss_cons (ps_set (i:=3) S.nd rfl (Or.inl rfl) (pe_lst (pa_cons (pe_op op_add pe_int (pe_op op_mod (pe_def d__law_cell hr rfl (pa_cons (pv 0) (pa_cons pe_int pa_nil))) pe_int)) pa_nil)))
    (pss_cons (ps_join (ps_if (pt_cmpR op_eq (pe_op op_mod (pe_def d__law_cell hr rfl (pa_cons (pv 0) (pa_cons pe_int pa_nil))) pe_int) pe_int (nomark _)) (pss_one (ps_set (i:=3) S.nd rfl (Or.inl rfl) (pe_lst (pa_cons (pe_op op_mulW (pe_ix ix_list (pv 3) pe_int (fun _ _=>rfl)) (pv 1)) pa_nil)))) pss_nil))
    (pss_cons (ps_for PassesOwn.never rfl (pi_list (pv 2)) (pg_name (i:=4) S.nd rfl (Or.inl rfl)) (pss_one (ps_set (i:=3) S.nd rfl (Or.inl rfl) (pe_def d__law_times hr rfl (pa_cons (pv 3) (pa_cons (pv 4) pa_nil))))))
    (pss_cons (ps_set (i:=5) S.nd rfl (Or.inl rfl) (pe_def d__law_deep hr rfl (pa_cons (pv 0) (pa_cons (pv 1) pa_nil))))
    (pss_cons (ps_set (i:=6) S.nd rfl (Or.inl rfl) (pe_mk d___init__ hr rfl B.c_Desk (pa_cons (pv 1) pa_nil)))
    (pss_cons (ps_if (pt_cmpR op_ne (pe_met pass0 B.cl_Desk d_say hr (pv 6) (pa_cons (pe_op op_add_str pe_str (pe_bm PySem.F.plainAttrs_str PySem.F.slot_str_join PySem.F.type_str_join mt_join pe_str (pa_cons (pe_comp [] [] rfl rfl trivial trivial rfl rfl (by decide) (by decide) rfl rfl (by decide) (pi_list (pv 3)) (fun _ _ _ _=>pts_nil) (fun _ _ _ _=>(pe_callTy call_str_int rfl B.b_str L2.bt_str (pa_cons (pv 0) pa_nil)))) pa_nil))) pa_nil)) pe_str (nomark _)) (pss_one (ps_ret pe_bl)) pss_nil)
    (pss_cons (ps_set (i:=7) S.nd rfl (Or.inl rfl) (pe_def d__law_balls hr rfl (pa_cons (pv 6) (pa_cons (pv 5) pa_nil))))
    (pss_cons (ps_set (i:=8) S.nd rfl (Or.inl rfl) (pe_def d__law_balls hr rfl (pa_cons (pv 6) (pa_cons (pe_op op_add (pv 5) pe_int) pa_nil))))
    (pss_cons (ps_if (PW.pt (pw_or (pt_cmpR (op_inN (hu1 hr.units)) pe_non (pv 7) rfl) (pw_or (pt_cmpR (op_inN (hu1 hr.units)) pe_non (pv 8) rfl) (pw_or1 (pt_cmpR op_lt (pe_def d__law_apart hr rfl (pa_cons (pv 1) (pa_cons (pv 8) (pa_cons (pe_op op_add (pv 5) pe_int) pa_nil)))) pe_int (nomark _)))))) (pss_one (ps_ret pe_bl)) pss_nil)
    (pss_cons (ps_if (pt_cmpR op_ne (pe_met pass0 B.cl_Desk d_say hr (pv 6) (pa_cons (pe_op op_add_str pe_str (pe_callTy call_str_int rfl B.b_str L2.bt_str (pa_cons (pv 5) pa_nil))) pa_nil)) (pe_callTy call_str_int rfl B.b_str L2.bt_str (pa_cons (pe_def d__law_apart hr rfl (pa_cons (pv 1) (pa_cons (pv 7) (pa_cons (pv 5) pa_nil)))) pa_nil)) (nomark _)) (pss_one (ps_ret pe_bl)) pss_nil)
    (pss_cons (ps_set (i:=9) S.nd rfl (Or.inl rfl) (pe_def d__law_power hr rfl (pa_cons (pv 1) (pa_cons (pv 5) pa_nil))))
    (pss_cons (ps_for PassesOwn.never rfl (pi_list (pe_def d__law_numbers hr rfl (pa_cons (pv 0) (pa_cons (pv 1) (pa_cons (pv 2) (pa_cons (pv 7) pa_nil)))))) (pg_name (i:=10) S.nd rfl (Or.inr rfl)) (pss_cons (ps_set (i:=11) S.nd rfl (Or.inl rfl) (pe_callB call_len_seq rfl B.b_len PySem.boot_len (pa_cons (pe_comp2 [1,10] ["p","x"] rfl rfl ⟨rfl,rfl,trivial⟩ ⟨rfl,rfl,rfl,rfl,rfl,rfl,rfl,rfl,trivial⟩ rfl rfl (by decide) (by decide) rfl rfl rfl (by decide) (pi_list (pv 7)) (fun _ _ _ _=>(pts_one (pt_cmpR op_eq (pe_op op_mod (pe_op op_sub (pv 3) (pv 0)) (pe_def d__law_power hr rfl (pa_cons (pv 2) (pa_cons (pv 1) pa_nil)))) pe_int (nomark _)))) (fun _ _ _ _=>(pv 0))) pa_nil)))
    (pss_one (ps_if (pt_cmpR op_ne (pv 11) (pe_callTy call_intB rfl B.b_int L2.bt_int (pa_cons (pe_cmpR op_eq (pe_op op_mod (pe_def d__law_worth hr rfl (pa_cons (pv 3) (pa_cons (pv 10) pa_nil))) (pv 9)) pe_int (nomark _)) pa_nil)) (nomark _)) (pss_one (ps_ret pe_bl)) pss_nil))))
    (pss_cons (ps_for PassesOwn.never rfl (pi_list (pv 8)) (pg_tup rfl (pgs_cons (pg_name (i:=12) S.nd rfl (Or.inr rfl)) (pgs_cons (pg_name (i:=13) S.nd rfl (Or.inr rfl)) pgs_nil))) (pss_one (ps_if (pt_cmpR op_ne (pe_callB call_len_seq rfl B.b_len PySem.boot_len (pa_cons (pe_comp2 [12,13,1] ["b","d","p"] rfl rfl ⟨rfl,rfl,rfl,trivial⟩ ⟨rfl,rfl,rfl,rfl,rfl,rfl,rfl,rfl,rfl,rfl,rfl,rfl,trivial⟩ rfl rfl (by decide) (by decide) rfl rfl rfl (by decide) (pi_list (pv 7)) (fun _ _ _ _=>(pts_one (PW.pt (pw_and (pt_cmpR op_le (pv 1) (pv 3) (nomark _)) (pw_and1 (pt_cmpR op_eq (pe_op op_mod (pe_op op_sub (pv 2) (pv 0)) (pe_def d__law_power hr rfl (pa_cons (pv 4) (pa_cons (pv 1) pa_nil)))) pe_int (nomark _))))))) (fun _ _ _ _=>(pv 0))) pa_nil)) pe_int (nomark _)) (pss_one (ps_ret pe_bl)) pss_nil)))
    (pss_one (ps_ret pe_bl)))))))))))))))))),?_⟩
  (try dsimp only); (first | refine hX _ _ ?_ | skip); (try dsimp only); (first | refine seqX (fun X hX=>?_) | skip); try walk_at "dr2"; (try simp only [sp___init__,sp_say,sp__law_cell,sp__law_prime,sp__law_times,sp__law_parts,sp__law_balls,sp__law_power,sp__law_apart,sp__law_worth,sp__law_deep,sp__law_numbers]); try walk_at "dr2"
  refine ⟨ns,hS,hl,fun p H1 hpp g1=>?_⟩
  have p2:=Dr.primes_ge hpp
  have hp : 2 ≤ p ∧ p < 1000:=by omega
  (try dsimp only); (first | refine hX _ _ ?_ | skip); (try dsimp only); (first | refine seqX (fun X hX=>?_) | skip); try walk_at "dr2"; (try simp only [sp___init__,sp_say,sp__law_cell,sp__law_prime,sp__law_times,sp__law_parts,sp__law_balls,sp__law_power,sp__law_apart,sp__law_worth,sp__law_deep,sp__law_numbers]); try walk_at "dr2"
  refine ⟨hpp,ns,g1.seq hS,hl,fun lp as fs H2 hL lfs hok np g2 kp=>?_⟩
  have G2:=g1.trans g2
  have m6:=mod_in (cellv ns 2) (show (0 : Int) < 6 by decide)
  (try dsimp only); (first | refine hX _ _ ?_ | skip); (try dsimp only); (first | refine seqX (fun X hX=>?_) | skip); try walk_at "dr2"; (try simp only [sp___init__,sp_say,sp__law_cell,sp__law_prime,sp__law_times,sp__law_parts,sp__law_balls,sp__law_power,sp__law_apart,sp__law_worth,sp__law_deep,sp__law_numbers]); try walk_at "dr2"
  refine ⟨ns,G2.seq hS,hl,by decide,?_⟩
  have m61 : 1 ≤ 1 + cellv ns 2 % 6 ∧ 1 + cellv ns 2 % 6 ≤ 6:=by omega
  generalize 1 + cellv ns 2 % 6 = c0 at m61 ⊢
  intro l3 n_l3; generalize e_l3 : upd _ l3 _ = H3; obtain ⟨g3,k3⟩:=newH e_l3 n_l3; clear e_l3
  have k3 : H3 l3 = some (.lst ([c0].map V.int)):=k3
  (first | refine hX _ _ ?_ | skip); refine seqI ?_
  obtain ⟨R,hR⟩ : ∃ R : St → Hp → Prop,∀ σ' H4,R σ' H4 ↔ (Same H3 H4 ∧ ∃ (lf : Addr) (f0 : Int),H4 lf = some (.lst ([f0].map V.int)) ∧ (1 ≤ f0 ∧ f0 ≤ 582) ∧ σ' = [some (.ref la),some (.int p),some (.ref lp),some (.ref lf),none,none,none,none,none,none,none,none,none,none]):=⟨_,fun _ _=>Iff.rfl⟩
  (first | refine hX _ _ ?_ | skip); refine joinB R ?_ ?_
  · (first | refine hX _ _ ?_ | skip); (try dsimp only); try walk_at "dr1"; (try simp only [sp___init__,sp_say,sp__law_cell,sp__law_prime,sp__law_times,sp__law_parts,sp__law_balls,sp__law_power,sp__law_apart,sp__law_worth,sp__law_deep,sp__law_numbers]); try walk_at "dr1"
    have G3:=G2.trans g3
    refine ⟨ns,G3.seq hS,hl,ite2 (fun _=>?_) (fun _=>(hR _ _).mpr ⟨Same.refl _,l3,c0,k3,by omega,rfl⟩)⟩
    refine ⟨_,SqL.of k3,_,atI_nat (j:=0) rfl,_,rfl,IntMulOk.of_left (intBits_le_64 (by omega) (by omega)),by decide,fun l4 n4=>(hR _ _).mpr ⟨newS n4,l4,c0 * p,upd_same,?_,rfl⟩⟩
    have h1:=Int.mul_le_mul m61.2 (show p ≤ 97 by omega) (by omega) (by decide)
    have h2:=Int.mul_le_mul m61.1 (show 1 ≤ p by omega) (by decide) (by omega)
    generalize c0 * p = X1 at h1 h2 ⊢
    omega
  intro σ' H4 z
  refine byX fun X hX=>?_; obtain ⟨g4,lf0,f0,kf0,hf0,rfl⟩:=(hR _ _).mp z; refine hX ?_; clear hX X
  clear hR z k3
  (try dsimp only); (first | refine hX _ _ ?_ | skip); (try dsimp only); (first | refine seqX (fun X hX=>?_) | skip); try walk_at "dr2"; (try simp only [sp___init__,sp_say,sp__law_cell,sp__law_prime,sp__law_times,sp__law_parts,sp__law_balls,sp__law_power,sp__law_apart,sp__law_worth,sp__law_deep,sp__law_numbers]); try walk_at "dr2"
  have kp4:=g4 _ _ (g3 _ _ kp)
  have hL4:=hL.same fun b o _ k=>g4 _ _ (g3 _ _ k)
  have G4:=G2.trans (g3.trans g4)
  have hla:=hL.len
  refine ⟨⟨_,SqL.of kp4⟩,?_⟩
  obtain ⟨Pv,hPv⟩ : ∃ Pv : Nat → St → Hp → Prop,∀ i σ H5,Pv i σ H5 ↔ (Same H4 H5 ∧ ∃ (l : Addr) (f : List Int) (t4 : Option V),H5 l = some (.lst (f.map V.int)) ∧ (1 ≤ f.length ∧ f.length ≤ 1 + 4 * i) ∧ Dr.l1 f ≤ 582 * 2 ^ (58 * i) ∧ σ = [some (.ref la),some (.int p),some (.ref lp),some (.ref l),t4,none,none,none,none,none,none,none,none,none]):=⟨_,fun _ _ _=>Iff.rfl⟩
  (first | refine hX _ _ ?_ | skip); refine forL (as.map V.ref) Pv ((hPv _ _ _).mpr ⟨Same.refl _,lf0,[f0],none,kf0,⟨Nat.le_refl _,Nat.le_refl _⟩,by simp only [Dr.l1]; omega,rfl⟩) (fun i σ H5 _ z=>SqL.of (((hPv _ _ _).mp z).1 _ _ kp4)) ?_ ?_
  · intro i v σ H5 hv z
    obtain ⟨g5,l,f,t4,kf,lf,sf,rfl⟩:=(hPv _ _ _).mp z
    have hi:=(List.getElem?_eq_some_iff.mp hv).1
    rw [List.length_map] at hi
    have ea : as[i]? = some as[i]:=List.getElem?_eq_getElem hi
    rw [List.getElem?_map,ea] at hv
    cases hv
    obtain ⟨g,hg,kg⟩:=hL4.at ea
    have ok:=hok g (List.mem_of_getElem? hg)
    have og:=ok.len
    have bf : Dr.PolyB f (10 + 58 * i):=fun x hx=>by
      have h1:=Dr.l1_mem hx
      have h2 : 582 * 2 ^ (58 * i) < 2 ^ (10 + 58 * i):=by
        rw [Nat.pow_add]
        exact Nat.mul_lt_mul_of_pos_right (by decide) (Nat.pow_pos (by decide))
      exact Nat.lt_of_le_of_lt (Nat.le_trans h1 sf) h2
    have bg : Dr.PolyB g 59:=fun x hx=>Nat.lt_of_le_of_lt (Nat.le_trans (Dr.l1_mem hx) ok.sum) (by decide)
    (first | refine hX _ _ ?_ | skip); (try dsimp only); try walk_at "dr1"; (try simp only [sp___init__,sp_say,sp__law_cell,sp__law_prime,sp__law_times,sp__law_parts,sp__law_balls,sp__law_power,sp__law_apart,sp__law_worth,sp__law_deep,sp__law_numbers]); try walk_at "dr1"
    refine ⟨f,SqL.of kf,g,SqL.of (g5 _ _ kg),by omega,by omega,by omega,by omega,_,bf,59,bg,by omega,by decide,fun c r H6 hr _ _ g6 k6=>?_⟩
    have er : r = Dr.pmul f g:=hr.uniq (Dr.pmul_prod (by omega) (by omega))
    have lr:=hr.len
    refine (hPv _ _ _).mpr ⟨g5.trans g6,c,r,_,k6,by omega,?_,rfl⟩
    rw [er]
    have h1:=Dr.l1_pmul g f
    have h2:=Nat.mul_le_mul sf ok.sum
    rw [Nat.mul_assoc,← Nat.pow_add] at h2
    exact Nat.le_trans h1 h2
  intro σ H5 z
  refine byX fun X hX=>?_; obtain ⟨g5,lf,f,t4,kf,lnf,sf,rfl⟩:=(hPv _ _ _).mp z; refine hX ?_; clear hX X
  rw [List.length_map] at lnf sf
  clear hPv z
  have G5:=G4.trans g5
  have sf2 : Dr.l1 f ≤ 582 * 2 ^ 174:=Nat.le_trans sf (Nat.mul_le_mul_left _ (Nat.pow_le_pow_right (by decide) (by omega)))
  have bf : Dr.PolyB f 190:=fun x hx=>Nat.lt_of_le_of_lt (Nat.le_trans (Dr.l1_mem hx) sf2) (by decide)
  have b60 : ∀ x,x ∈ f → x.natAbs < 10 ^ 60:=fun x hx=>lt60 (bf x hx) (by decide)
  have lf13 : 0 < f.length ∧ f.length ≤ 13:=by omega
  have fn : f ≠ []:=fun z=>by rw [z] at lf13; exact absurd lf13.1 (by decide)
  have kp5:=g5 _ _ kp4
  have hL5:=hL4.same fun b o _ k=>g5 _ _ k
  (try dsimp only); (first | refine hX _ _ ?_ | skip); (try dsimp only); (first | refine seqX (fun X hX=>?_) | skip); try walk_at "dr2"; (try simp only [sp___init__,sp_say,sp__law_cell,sp__law_prime,sp__law_times,sp__law_parts,sp__law_balls,sp__law_power,sp__law_apart,sp__law_worth,sp__law_deep,sp__law_numbers]); try walk_at "dr2"
  refine ⟨ns,G5.seq hS,hl,fun deep hdp=>?_⟩
  (try dsimp only); (first | refine hX _ _ ?_ | skip); (try dsimp only); (first | refine seqX (fun X hX=>?_) | skip); try walk_at "dr2"; (try simp only [sp___init__,sp_say,sp__law_cell,sp__law_prime,sp__law_times,sp__law_parts,sp__law_balls,sp__law_power,sp__law_apart,sp__law_worth,sp__law_deep,sp__law_numbers]); try walk_at "dr2"
  intro d dx nd1 ndx ned
  refine ⟨dx,upd_same,hpp,fun kd H12 nek nk kI kD old=>?_⟩
  rw [upd_ne nek] at nk
  have nkx : kd ≠ dx:=fun z=>by rw [z,upd_same] at nk; cases nk
  rw [upd_ne nkx] at nk
  have g12 : Same H5 H12:=fun b o hb=>by
    have h1 : b ≠ d:=fun z=>by rw [z,nd1] at hb; cases hb
    have h2 : b ≠ dx:=fun z=>by rw [z,ndx] at hb; cases hb
    have h3 : b ≠ kd:=fun z=>by rw [z,nk] at hb; cases hb
    rw [old b h1 h3,upd_ne h1,upd_ne h2]
    exact hb
  have dk : DeskAt K H12 d dx kd p []:=⟨kI,kD⟩
  have kf:=g12 _ _ kf
  have kp:=g12 _ _ kp5
  have hL:=hL5.same fun b o _ k=>g12 _ _ k
  have hS:=(G5.trans g12).seq hS
  clear old nd1 ndx ned nek nk nkx kI kD
  have lsh : (Tx.shown f).length ≤ 868:=Tx.join_len (ms:=f) (by omega) b60
  (try dsimp only); (first | refine hX _ _ ?_ | skip); (try dsimp only); (first | refine seqX (fun X hX=>?_) | skip); try walk_at "dr2"; (try simp only [sp___init__,sp_say,sp__law_cell,sp__law_prime,sp__law_times,sp__law_parts,sp__law_balls,sp__law_power,sp__law_apart,sp__law_worth,sp__law_deep,sp__law_numbers]); try walk_at "dr2"
  refine ⟨_,_,dk.ins,look_no (by decide +kernel) (by decide +kernel),rfl,⟨_,SqL.of kf⟩,?_⟩
  obtain ⟨Pc,hPc⟩ : ∃ Pc : Nat → List V → Hp → Prop,∀ i ys H',Pc i ys H' ↔ (H' = H12 ∧ ys = ((f.take i).map Tx.tx).map V.str):=⟨_,fun _ _ _=>Iff.rfl⟩
  (first | refine hX _ _ ?_ | skip); refine compI f Pc (Nat.le_trans lf13.2 (by decide)) ((hPc _ _ _).mpr ⟨rfl,rfl⟩) (fun i ys H7 p=>?_) (fun i x ys H7 hx p=>?_) (fun ys H7 p l7 n7=>?_)
  · rw [((hPc _ _ _).mp p).1]
    exact SqL.of kf
  · obtain ⟨rfl,rfl⟩:=(hPc _ _ _).mp p
    (first | refine hX _ _ ?_ | skip); (try dsimp only); try walk_at "dr1"; (try simp only [sp___init__,sp_say,sp__law_cell,sp__law_prime,sp__law_times,sp__law_parts,sp__law_balls,sp__law_power,sp__law_apart,sp__law_worth,sp__law_deep,sp__law_numbers]); try walk_at "dr1"
    refine ⟨log60 (b60 x (List.mem_of_getElem? hx)),(hPc _ _ _).mpr ⟨rfl,?_⟩⟩
    rw [take_next hx,List.map_append,List.map_append]
    rfl
  obtain ⟨e7,rfl⟩:=(hPc _ _ _).mp p
  clear hPc p
  rw [List.take_length]
  have g8:=newS n7 (o:=HO.lst ((f.map Tx.tx).map V.str))
  have k8 : upd H7 l7 (HO.lst ((f.map Tx.tx).map V.str)) l7 = some (HO.lst ((f.map Tx.tx).map V.str)):=upd_same
  generalize upd H7 l7 (HO.lst ((f.map Tx.tx).map V.str)) = H8 at g8 k8 ⊢
  rw [e7] at g8 n7
  have dk:=dk.same g8
  have kf:=g8 _ _ kf
  have kp:=g8 _ _ kp
  have hL:=hL.same fun b o _ k=>g8 _ _ k
  have hS:=g8.seq hS
  refine ⟨_,l7,f.map Tx.tx,rfl,rfl,SqL.of k8,Tx.join_ok (by omega) b60,_,rfl,le_line (by rw [l_poly]; exact Nat.le_trans (Nat.add_le_add_left lsh 7) (by decide)),dx,kd,p,[],_,_,_,_,row2 _ t_poly,dk,hpp,by decide,?_,.poly nm_a fn lf13.2 b60 fun lA H9 g9 n9 k9=>⟨rfl,if_no rfl ?_⟩⟩
  · rw [← row2 _ t_poly,app_len,l_poly]
    exact Nat.le_trans (Nat.add_le_add_left lsh 7) (by decide)
  have dk9:=dk.same g9
  have kf:=g9 _ _ kf
  have kp:=g9 _ _ kp
  have hL:=hL.same fun b o _ k=>g9 _ _ k
  have hS:=g9.seq hS
  have st : Stand K _ _ "a" lA f:=Stand.new (kvs:=[]) nm_a k9 dk9.kept lf13 (fun x hx=>(bf x hx).mono (by decide))
  have dk:=dk9.put (kvs':=putK [] (Sum.inr (Str.ofString "a")) (V.ref lA))
  have kf:=(upd_ne (o:=HO.dK (putK [] (Sum.inr (Str.ofString "a")) (V.ref lA))) (not_kd kf dk9.kept)).trans kf
  have kp:=(upd_ne (o:=HO.dK (putK [] (Sum.inr (Str.ofString "a")) (V.ref lA))) (not_kd kp dk9.kept)).trans kp
  have hL:=hL.put (o:=HO.dK (putK [] (Sum.inr (Str.ofString "a")) (V.ref lA))) dk9.kept
  have hS:=sq_put (o:=HO.dK (putK [] (Sum.inr (Str.ofString "a")) (V.ref lA))) dk9.kept hS
  have kl : (putK ([] : List (Key × V)) (Sum.inr (Str.ofString "a")) (V.ref lA)).length ≤ 1:=putK_len _ _ _
  generalize upd H9 kd (HO.dK (putK [] (Sum.inr (Str.ofString "a")) (V.ref lA))) = H13 at st dk kf kp hL hS ⊢
  generalize putK ([] : List (Key × V)) (Sum.inr (Str.ofString "a")) (V.ref lA) = kvs at st dk kl ⊢
  clear dk9 k9 n9 g9 k8 g8 e7 n7
  (try dsimp only); (first | refine hX _ _ ?_ | skip); (try dsimp only); (first | refine seqX (fun X hX=>?_) | skip); try walk_at "dr2"; (try simp only [sp___init__,sp_say,sp__law_cell,sp__law_prime,sp__law_times,sp__law_parts,sp__law_balls,sp__law_power,sp__law_apart,sp__law_worth,sp__law_deep,sp__law_numbers]); try walk_at "dr2"
  refine ⟨dx,kd,lA,p,f,kvs,dk,hpp,by omega,st,by omega,by omega,fun lb cs bs H14 so lbs bdp nlb g14 kb hP=>?_⟩
  have dk:=dk.same g14
  have st:=st.same g14
  have kf:=g14 _ _ kf
  have kp:=g14 _ _ kp
  have hL:=hL.same fun b o _ k=>g14 _ _ k
  have hS:=g14.seq hS
  (try dsimp only); (first | refine hX _ _ ?_ | skip); (try dsimp only); (first | refine seqX (fun X hX=>?_) | skip); try walk_at "dr2"; (try simp only [sp___init__,sp_say,sp__law_cell,sp__law_prime,sp__law_times,sp__law_parts,sp__law_balls,sp__law_power,sp__law_apart,sp__law_worth,sp__law_deep,sp__law_numbers]); try walk_at "dr2"
  refine ⟨dx,kd,lA,p,f,kvs,dk,hpp,by omega,st,by omega,by omega,fun lm ds ms H15 som lms mdp nlm g15 km hM=>?_⟩
  have dk:=dk.same g15
  have st:=st.same g15
  have kf:=g15 _ _ kf
  have kp:=g15 _ _ kp
  have hL:=hL.same fun b o _ k=>g15 _ _ k
  have hS:=g15.seq hS
  have kb:=g15 _ _ kb
  have hP:=hP.same g15
  (try dsimp only); (first | refine hX _ _ ?_ | skip); (try dsimp only); (first | refine seqX (fun X hX=>?_) | skip); try walk_at "dr2"; (try simp only [sp___init__,sp_say,sp__law_cell,sp__law_prime,sp__law_times,sp__law_parts,sp__law_balls,sp__law_power,sp__law_apart,sp__law_worth,sp__law_deep,sp__law_numbers]); try walk_at "dr2"
  refine ⟨rfl,lb,cs,rfl,SqL.of kb,pairs_tup hP,_,rfl,?_⟩
  rw [if_neg (by decide)]
  refine ⟨rfl,lm,ds,rfl,SqL.of km,pairs_tup hM,_,rfl,?_⟩
  rw [if_neg (by decide)]
  refine ⟨hpp,by omega,by omega,ds,km,ms,hM,lms,mdp,⟨_,som⟩,fun H16 g16=>?_⟩
  rw [if_neg (by omega)]
  have dk:=dk.same g16
  have st:=st.same g16
  have kf:=g16 _ _ kf
  have kp:=g16 _ _ kp
  have hL:=hL.same fun b o _ k=>g16 _ _ k
  have hS:=g16.seq hS
  have kb:=g16 _ _ kb
  have hP:=hP.same g16
  have km:=g16 _ _ km
  have hM:=hM.same g16
  have hdeep : 0 ≤ deep ∧ deep ≤ 60:=by omega
  have ldp:=len60 (small_val hdeep)
  have mlt : ∀ bs : List (Int × Nat),Dr.Solve p (fun x=>Dr.pev f x % p ^ deep.toNat = 0) bs → Dr.massOf p deep.toNat bs < 10 ^ 190:=fun bs so=>by
    have h1:=so.tree.mass_le hp.1 (so.tree.depth (Nat.zero_le _))
    have h2 : p.toNat ^ deep.toNat ≤ 97 ^ deep.toNat:=Nat.pow_le_pow_left (by omega) _
    have h3 : 97 ^ deep.toNat ≤ 97 ^ 16:=Nat.pow_le_pow_right (by decide) (by omega)
    have h4 : 97 ^ 16 < 10 ^ 190:=by decide +kernel
    exact Nat.lt_of_le_of_lt (Nat.le_trans h1 (Nat.le_trans h2 h3)) h4
  (try dsimp only); (first | refine hX _ _ ?_ | skip); (try dsimp only); (first | refine seqX (fun X hX=>?_) | skip); try walk_at "dr2"; (try simp only [sp___init__,sp_say,sp__law_cell,sp__law_prime,sp__law_times,sp__law_parts,sp__law_balls,sp__law_power,sp__law_apart,sp__law_worth,sp__law_deep,sp__law_numbers]); try walk_at "dr2"
  refine ⟨_,_,dk.ins,look_no (by decide +kernel) (by decide +kernel),log60 (small_val hdeep),le_line (by rw [l_count]; omega),dx,kd,p,kvs,_,_,_,_,row2 _ t_count,dk,hpp,by omega,?_,.count st hdeep mlt fun bs' H17 so' _ g17=>?_⟩
  · rw [← row2 _ t_count,app_len,l_count]
    omega
  obtain rfl : bs' = bs:=so'.uniq hp.1 so fun _=>Iff.rfl
  have dk:=dk.same g17
  have kf:=g17 _ _ kf
  have kp:=g17 _ _ kp
  have hL:=hL.same fun b o _ k=>g17 _ _ k
  have hS:=g17.seq hS
  have kb:=g17 _ _ kb
  have hP:=hP.same g17
  have km:=g17 _ _ km
  have hM:=hM.same g17
  refine ⟨hpp,by omega,by omega,cs,kb,bs',hP,lbs,bdp,⟨_,so⟩,fun H18 g18=>⟨log_big (by have:=mlt bs' so; omega),rfl,if_no rfl ?_⟩⟩
  have kf:=g18 _ _ kf
  have kp:=g18 _ _ kp
  have hL:=hL.same fun b o _ k=>g18 _ _ k
  have hS:=g18.seq hS
  have kb:=g18 _ _ kb
  have hP:=hP.same g18
  have km:=g18 _ _ km
  have hM:=hM.same g18
  have qd : 0 < p ^ deep.toNat:=Dr.pow_pos hp.1 _
  (try dsimp only); (first | refine hX _ _ ?_ | skip); (try dsimp only); (first | refine seqX (fun X hX=>?_) | skip); try walk_at "dr2"; (try simp only [sp___init__,sp_say,sp__law_cell,sp__law_prime,sp__law_times,sp__law_parts,sp__law_balls,sp__law_power,sp__law_apart,sp__law_worth,sp__law_deep,sp__law_numbers]); try walk_at "dr2"
  refine ⟨hp.1,hp.2,by omega,by omega,?_⟩
  (try dsimp only); (first | refine hX _ _ ?_ | skip); (try dsimp only); (first | refine seqX (fun X hX=>?_) | skip); try walk_at "dr2"; (try simp only [sp___init__,sp_say,sp__law_cell,sp__law_prime,sp__law_times,sp__law_parts,sp__law_balls,sp__law_power,sp__law_apart,sp__law_worth,sp__law_deep,sp__law_numbers]); try walk_at "dr2"
  have bx : ∀ x,x ∈ bs' → (0 ≤ x.1 ∧ x.1 < p ^ x.2) ∧ x.2 ≤ 60:=fun x hx=>⟨⟨(so.tree.ok x hx).2.1,(so.tree.ok x hx).2.2.1⟩,by have:=bdp x hx; omega⟩
  refine ⟨hpp,ns,hS,hl,as,kp,fs,hL,lfs.1,lfs.2,hok,cs,kb,bs',hP,lbs,(fun b hb=>⟨(bx b hb).1.1,rest_lt hp (bx b hb).2 (bx b hb).1⟩),fun lx xs H19 hxs nlx g19 kx=>?_⟩
  have kf:=g19 _ _ kf
  have kb:=g19 _ _ kb
  have hP:=hP.same g19
  have km:=g19 _ _ km
  have hM:=hM.same g19
  refine ⟨⟨_,SqL.of kx⟩,?_⟩
  obtain ⟨Pv,hPv⟩ : ∃ Pv : Nat → St → Hp → Prop,∀ i σ H20,Pv i σ H20 ↔ (Same H19 H20 ∧ ∃ (t10 t11 : Option V),σ = [some (.ref la),some (.int p),some (.ref lp),some (.ref lf),t4,some (.int deep),some (.ref d),some (.ref lb),some (.ref lm),some (.int (p ^ deep.toNat)),t10,t11,none,none]):=⟨_,fun _ _ _=>Iff.rfl⟩
  (first | refine hX _ _ ?_ | skip); refine forI xs Pv ((hPv _ _ _).mpr ⟨Same.refl _,_,_,rfl⟩) (fun i σ H20 z=>SqL.of (((hPv _ _ _).mp z).1 _ _ kx)) ?_ ?_
  · intro i x σ H20 hx z
    obtain ⟨g20,t10,t11,rfl⟩:=(hPv _ _ _).mp z
    have bxx:=hxs.2 x (List.mem_of_getElem? hx)
    have kb:=g20 _ _ kb
    have hP:=hP.same g20
    have kf:=g20 _ _ kf
    (try dsimp only); (first | refine hX _ _ ?_ | skip); (try dsimp only); (first | refine seqX (fun X hX=>?_) | skip); try walk_at "dr2"; (try simp only [sp___init__,sp_say,sp__law_cell,sp__law_prime,sp__law_times,sp__law_parts,sp__law_balls,sp__law_power,sp__law_apart,sp__law_worth,sp__law_deep,sp__law_numbers]); try walk_at "dr2"
    refine ⟨⟨_,SqL.of kb⟩,?_⟩
    obtain ⟨Pc,hPc⟩ : ∃ Pc : Nat → List V → Hp → Prop,∀ j ys H21,Pc j ys H21 ↔ (H21 = H20 ∧ ys.length = ((bs'.take j).filter fun b=>decide (Dr.InB p x b)).length):=⟨_,fun _ _ _=>Iff.rfl⟩
    refine comp2P (fs:=bs'.map natP) Pc (by rw [List.length_map]; exact Nat.le_trans lbs (by decide)) ((hPc _ _ _).mpr ⟨rfl,rfl⟩) (fun j ys H21 z=>by rw [((hPc _ _ _).mp z).1]; exact ⟨SqL.of kb,hP.ints⟩) (fun j b ys H21 hb z=>?_) (fun ys H21 z l21 n21=>?_)
    · obtain ⟨rfl,hys⟩:=(hPc _ _ _).mp z
      rw [List.getElem?_map] at hb
      cases e3 : bs'[j]? with
      | none=>rw [e3] at hb; cases hb
      | some c=>
        rw [e3] at hb
        cases hb
        have hc:=bx c (List.mem_of_getElem? e3)
        (first | refine hX _ _ ?_ | skip); (try dsimp only); try walk_at "dr1"; (try simp only [sp___init__,sp_say,sp__law_cell,sp__law_prime,sp__law_times,sp__law_parts,sp__law_balls,sp__law_power,sp__law_apart,sp__law_worth,sp__law_deep,sp__law_numbers]); try walk_at "dr1"
        refine ⟨hp.1,hp.2,by show (0 : Int) ≤ (c.2 : Int); omega,by show (c.2 : Int) < 100000; omega,Dr.pow_pos hp.1 _,?_⟩
        by_cases w : Dr.InB p x c
        · rw [if_pos (show (x - (natP c).1) % p ^ (natP c).2.toNat = 0 from w)]
          exact (hPc _ _ _).mpr ⟨rfl,by rw [take_next e3,List.filter_append,List.length_append,List.length_append,hys]; simp [w]⟩
        · rw [if_neg (show ¬ (x - (natP c).1) % p ^ (natP c).2.toNat = 0 from w)]
          exact (hPc _ _ _).mpr ⟨rfl,by rw [take_next e3,List.filter_append,List.length_append,hys]; simp [w]⟩
    obtain ⟨e21,hys⟩:=(hPc _ _ _).mp z
    rw [List.length_map,List.take_length] at hys
    have g21 : Same H20 (upd H21 l21 (HO.lst ys)):=by rw [e21] at n21 ⊢; exact newS n21
    refine ⟨l21,rfl,_,.inl (SqL.of upd_same),?_⟩
    rw [hys]
    generalize upd H21 l21 (HO.lst ys) = H22 at g21 ⊢
    have kf:=g21 _ _ kf
    obtain ⟨hs1,hs0⟩:=so.tree.holders x
    (first | refine hX _ _ ?_ | skip); (try dsimp only); try walk_at "dr1"; (try simp only [sp___init__,sp_say,sp__law_cell,sp__law_prime,sp__law_times,sp__law_parts,sp__law_balls,sp__law_power,sp__law_apart,sp__law_worth,sp__law_deep,sp__law_numbers]); try walk_at "dr1"
    refine ⟨f,SqL.of kf,by omega,190,bf,700,bxx,by decide,by decide,fun H23 g23=>⟨qd,?_⟩⟩
    have fin : Pv (i + 1) [some (.ref la),some (.int p),some (.ref lp),some (.ref lf),t4,some (.int deep),some (.ref d),some (.ref lb),some (.ref lm),some (.int (p ^ deep.toNat)),some (.int x),some (.int (((bs'.filter fun b=>decide (Dr.InB p x b)).length : Nat) : Int)),none,none] H23:=(hPv _ _ _).mpr ⟨g20.trans (g21.trans g23),_,_,rfl⟩
    split
    · rename_i c1
      rw [if_neg (not_not_intro (by rw [hs1 c1]; rfl))]
      exact fin
    · rename_i c1
      rw [if_neg (not_not_intro (by rw [hs0 c1]; rfl))]
      exact fin
  intro σ H20 z
  refine byX fun X hX=>?_; obtain ⟨g20,t10,t11,rfl⟩:=(hPv _ _ _).mp z; refine hX ?_; clear hX X
  clear hPv z
  have kb:=g20 _ _ kb
  have hP:=hP.same g20
  have km:=g20 _ _ km
  have hM:=hM.same g20
  (try dsimp only); (first | refine hX _ _ ?_ | skip); (try dsimp only); (first | refine seqX (fun X hX=>?_) | skip); try walk_at "dr2"; (try simp only [sp___init__,sp_say,sp__law_cell,sp__law_prime,sp__law_times,sp__law_parts,sp__law_balls,sp__law_power,sp__law_apart,sp__law_worth,sp__law_deep,sp__law_numbers]); try walk_at "dr2"
  have imp : ∀ x,Dr.pev f x % p ^ (deep + 1).toNat = 0 → Dr.pev f x % p ^ deep.toNat = 0:=fun x hx=>Dr.dvd_of_le hx (by omega)
  refine ⟨⟨_,SqL.of km⟩,?_⟩
  obtain ⟨Pv,hPv⟩ : ∃ Pv : Nat → St → Hp → Prop,∀ i σ H21,Pv i σ H21 ↔ (Same H20 H21 ∧ ∃ (t12 t13 : Option V),σ = [some (.ref la),some (.int p),some (.ref lp),some (.ref lf),t4,some (.int deep),some (.ref d),some (.ref lb),some (.ref lm),some (.int (p ^ deep.toNat)),t10,t11,t12,t13]):=⟨_,fun _ _ _=>Iff.rfl⟩
  (first | refine hX _ _ ?_ | skip); refine forL (ds.map V.ref) Pv ((hPv _ _ _).mpr ⟨Same.refl _,_,_,rfl⟩) (fun i σ H21 _ z=>SqL.of (((hPv _ _ _).mp z).1 _ _ km)) ?_ ?_
  · intro i v σ H21 hv z
    obtain ⟨g21,t12,t13,rfl⟩:=(hPv _ _ _).mp z
    have hi:=(List.getElem?_eq_some_iff.mp hv).1
    rw [List.length_map] at hi
    have ea : ds[i]? = some ds[i]:=List.getElem?_eq_getElem hi
    rw [List.getElem?_map,ea] at hv
    cases hv
    obtain ⟨dl,hdl,kdl⟩:=(hM.same g21).get ea
    have hdm:=List.mem_of_getElem? hdl
    have kb:=g21 _ _ kb
    have hP:=hP.same g21
    have hw:=so.tree.within som.tree imp hdm
    have h1:=(so.tree.holders dl.1).1 (imp _ (som.tree.centre hdm))
    have hone : (bs'.filter fun b=>decide (Dr.Within p dl b)).length = 1:=by
      rw [← h1]
      congr 1
      exact List.filter_congr fun b hb=>decide_eq_decide.mpr (hw b hb)
    (first | refine hX _ _ ?_ | skip); (try dsimp only); try walk_at "dr1"; (try simp only [sp___init__,sp_say,sp__law_cell,sp__law_prime,sp__law_times,sp__law_parts,sp__law_balls,sp__law_power,sp__law_apart,sp__law_worth,sp__law_deep,sp__law_numbers]); try walk_at "dr1"
    refine ⟨_,SqT.of kdl,rfl,_,_,rfl,_,_,rfl,rfl,?_⟩
    refine ⟨⟨_,SqL.of kb⟩,?_⟩
    obtain ⟨Pc,hPc⟩ : ∃ Pc : Nat → List V → Hp → Prop,∀ j ys H22,Pc j ys H22 ↔ (H22 = H21 ∧ ys.length = ((bs'.take j).filter fun b=>decide (Dr.Within p dl b)).length):=⟨_,fun _ _ _=>Iff.rfl⟩
    refine comp2P (fs:=bs'.map natP) Pc (by rw [List.length_map]; exact Nat.le_trans lbs (by decide)) ((hPc _ _ _).mpr ⟨rfl,rfl⟩) (fun j ys H22 z=>by rw [((hPc _ _ _).mp z).1]; exact ⟨SqL.of kb,hP.ints⟩) (fun j b ys H22 hb z=>?_) (fun ys H22 z l22 n22=>?_)
    · obtain ⟨rfl,hys⟩:=(hPc _ _ _).mp z
      rw [List.getElem?_map] at hb
      cases e3 : bs'[j]? with
      | none=>rw [e3] at hb; cases hb
      | some c=>
        rw [e3] at hb
        cases hb
        have hc:=bx c (List.mem_of_getElem? e3)
        have no : ¬ Dr.Within p dl c → Pc (j + 1) ys H22:=fun w=>(hPc _ _ _).mpr ⟨rfl,by rw [take_next e3,List.filter_append,List.length_append,hys]; simp [w]⟩
        have yes : Dr.Within p dl c → ∀ v,Pc (j + 1) (ys ++ [v]) H22:=fun w v=>(hPc _ _ _).mpr ⟨rfl,by rw [take_next e3,List.filter_append,List.length_append,List.length_append,hys]; simp [w]⟩
        (first | refine hX _ _ ?_ | skip); (try dsimp only); try walk_at "dr1"; (try simp only [sp___init__,sp_say,sp__law_cell,sp__law_prime,sp__law_times,sp__law_parts,sp__law_balls,sp__law_power,sp__law_apart,sp__law_worth,sp__law_deep,sp__law_numbers]); try walk_at "dr1"
        refine ite2 (fun c1=>⟨hp.1,hp.2,by show (0 : Int) ≤ (c.2 : Int); omega,by show (c.2 : Int) < 100000; omega,Dr.pow_pos hp.1 _,ite2 (fun c2=>yes ⟨Int.ofNat_le.mp c1,c2⟩ _) (fun c2=>no fun w=>c2 w.2)⟩) (fun c1=>no fun w=>c1 (Int.ofNat_le.mpr w.1))
    obtain ⟨e22,hys⟩:=(hPc _ _ _).mp z
    rw [List.length_map,List.take_length,hone] at hys
    have g22 : Same H21 (upd H22 l22 (HO.lst ys)):=by rw [e22] at n22 ⊢; exact newS n22
    refine ⟨l22,rfl,_,.inl (SqL.of upd_same),?_⟩
    rw [hys,if_neg (by decide)]
    exact (hPv _ _ _).mpr ⟨g21.trans g22,_,_,rfl⟩
  · intro σ H21 z
    obtain ⟨g21,t12,t13,rfl⟩:=(hPv _ _ _).mp z
    (first | refine hX _ _ ?_ | skip); (try dsimp only); try walk_at "dr1"; (try simp only [sp___init__,sp_say,sp__law_cell,sp__law_prime,sp__law_times,sp__law_parts,sp__law_balls,sp__law_power,sp__law_apart,sp__law_worth,sp__law_deep,sp__law_numbers]); try walk_at "dr1"
    exact q _
theorem all_mk {h : Heap} {fa f1 f2 f3 f4 f5 f6 f7 f8 f9 f10 f11 f12 f13 f14 f15 f16 f17 f18 f19 f20 f21 f22 f23 f24 f25 f26 f27 f28 f29 f30 f31 f32 f33 f34 f35 f36 f37 f38 f39 f40 f41 f42 f43 f44 : Addr} (X : K.In h) (G : h.Ns mainGlobals mg) (hfa : mg "law" = some (.ref fa))
    {od1 an1 od2 an2 od3 an3 od4 an4 od5 an5 od6 an6 od7 an7 od8 an8 od9 an9 od10 an10 od11 an11 od12 an12 od13 an13 od14 an14 od15 an15 od16 an16 od17 an17 od18 an18 od19 an19 od20 an20 od21 an21 od22 an22 od23 an23 od24 an24 od25 an25 od26 an26 od27 an27 od28 an28 od29 an29 od30 an30 od31 an31 od32 an32 od33 an33 od34 an34 od35 an35 od36 an36 od37 an37 od38 an38 od39 an39 od40 an40 od41 an41 od42 an42 od43 an43 od44 an44 : Option Addr} {sl1 sl2 sl3 sl4 sl5 sl6 sl7 sl8 sl9 sl10 sl11 sl12 sl13 sl14 sl15 sl16 sl17 sl18 sl19 sl20 sl21 sl22 sl23 sl24 sl25 sl26 sl27 sl28 sl29 sl30 sl31 sl32 sl33 sl34 sl35 sl36 sl37 sl38 sl39 sl40 sl41 sl42 sl43 sl44 : Array (Option Value)} {oc1 kV1 dc1 pm1 cd1 ct1 oc2 kV2 dc2 pm2 cd2 ct2 oc3 kV3 dc3 pm3 cd3 ct3 oc4 kV4 dc4 pm4 cd4 ct4 oc5 kV5 dc5 pm5 cd5 ct5 oc6 kV6 dc6 pm6 cd6 ct6 oc7 kV7 dc7 pm7 cd7 ct7 oc8 kV8 dc8 pm8 cd8 ct8 oc9 kV9 dc9 pm9 cd9 ct9 oc10 kV10 dc10 pm10 cd10 ct10 oc11 kV11 dc11 pm11 cd11 ct11 oc12 kV12 dc12 pm12 cd12 ct12 oc13 kV13 dc13 pm13 cd13 ct13 oc14 kV14 dc14 pm14 cd14 ct14 oc15 kV15 dc15 pm15 cd15 ct15 oc16 kV16 dc16 pm16 cd16 ct16 oc17 kV17 dc17 pm17 cd17 ct17 oc18 kV18 dc18 pm18 cd18 ct18 oc19 kV19 dc19 pm19 cd19 ct19 oc20 kV20 dc20 pm20 cd20 ct20 oc21 kV21 dc21 pm21 cd21 ct21 oc22 kV22 dc22 pm22 cd22 ct22 oc23 kV23 dc23 pm23 cd23 ct23 oc24 kV24 dc24 pm24 cd24 ct24 oc25 kV25 dc25 pm25 cd25 ct25 oc26 kV26 dc26 pm26 cd26 ct26 oc27 kV27 dc27 pm27 cd27 ct27 oc28 kV28 dc28 pm28 cd28 ct28 oc29 kV29 dc29 pm29 cd29 ct29 oc30 kV30 dc30 pm30 cd30 ct30 oc31 kV31 dc31 pm31 cd31 ct31 oc32 kV32 dc32 pm32 cd32 ct32 oc33 kV33 dc33 pm33 cd33 ct33 oc34 kV34 dc34 pm34 cd34 ct34 oc35 kV35 dc35 pm35 cd35 ct35 oc36 kV36 dc36 pm36 cd36 ct36 oc37 kV37 dc37 pm37 cd37 ct37 oc38 kV38 dc38 pm38 cd38 ct38 oc39 kV39 dc39 pm39 cd39 ct39 oc40 kV40 dc40 pm40 cd40 ct40 oc41 kV41 dc41 pm41 cd41 ct41 oc42 kV42 dc42 pm42 cd42 ct42 oc43 kV43 dc43 pm43 cd43 ct43 oc44 kV44 dc44 pm44 cd44 ct44 : Value}
    (a1 : PySem.W.nsIn K mainGlobals "is_prime" = some (some (.ref f1))) (l1 : K.lookup f1 = some ⟨oc1,od1,.func (PySem.W.fnOf "is_prime" "is_prime" (defArgs s_is_prime) (defBody s_is_prime) (defScope s_is_prime) .none kV1 dc1 pm1 an1 cd1 ct1),sl1⟩) (c1 : PySem.W.codeIn K cd1 "is_prime" = true) (k1 : PySem.W.keepIn K (.ref f1) = true)
    (a2 : PySem.W.nsIn K mainGlobals "power_of" = some (some (.ref f2))) (l2 : K.lookup f2 = some ⟨oc2,od2,.func (PySem.W.fnOf "power_of" "power_of" (defArgs s_power_of) (defBody s_power_of) (defScope s_power_of) .none kV2 dc2 pm2 an2 cd2 ct2),sl2⟩) (c2 : PySem.W.codeIn K cd2 "power_of" = true) (k2 : PySem.W.keepIn K (.ref f2) = true)
    (a3 : PySem.W.nsIn K mainGlobals "worth_at" = some (some (.ref f3))) (l3 : K.lookup f3 = some ⟨oc3,od3,.func (PySem.W.fnOf "worth_at" "worth_at" (defArgs s_worth_at) (defBody s_worth_at) (defScope s_worth_at) .none kV3 dc3 pm3 an3 cd3 ct3),sl3⟩) (c3 : PySem.W.codeIn K cd3 "worth_at" = true) (k3 : PySem.W.keepIn K (.ref f3) = true)
    (a4 : PySem.W.nsIn K mainGlobals "degree_of" = some (some (.ref f4))) (l4 : K.lookup f4 = some ⟨oc4,od4,.func (PySem.W.fnOf "degree_of" "degree_of" (defArgs s_degree_of) (defBody s_degree_of) (defScope s_degree_of) .none kV4 dc4 pm4 an4 cd4 ct4),sl4⟩) (c4 : PySem.W.codeIn K cd4 "degree_of" = true) (k4 : PySem.W.keepIn K (.ref f4) = true)
    (a5 : PySem.W.nsIn K mainGlobals "poly_product" = some (some (.ref f5))) (l5 : K.lookup f5 = some ⟨oc5,od5,.func (PySem.W.fnOf "poly_product" "poly_product" (defArgs s_poly_product) (defBody s_poly_product) (defScope s_poly_product) .none kV5 dc5 pm5 an5 cd5 ct5),sl5⟩) (c5 : PySem.W.codeIn K cd5 "poly_product" = true) (k5 : PySem.W.keepIn K (.ref f5) = true)
    (a6 : PySem.W.nsIn K mainGlobals "seen_from" = some (some (.ref f6))) (l6 : K.lookup f6 = some ⟨oc6,od6,.func (PySem.W.fnOf "seen_from" "seen_from" (defArgs s_seen_from) (defBody s_seen_from) (defScope s_seen_from) .none kV6 dc6 pm6 an6 cd6 ct6),sl6⟩) (c6 : PySem.W.codeIn K cd6 "seen_from" = true) (k6 : PySem.W.keepIn K (.ref f6) = true)
    (a7 : PySem.W.nsIn K mainGlobals "content_of" = some (some (.ref f7))) (l7 : K.lookup f7 = some ⟨oc7,od7,.func (PySem.W.fnOf "content_of" "content_of" (defArgs s_content_of) (defBody s_content_of) (defScope s_content_of) .none kV7 dc7 pm7 an7 cd7 ct7),sl7⟩) (c7 : PySem.W.codeIn K cd7 "content_of" = true) (k7 : PySem.W.keepIn K (.ref f7) = true)
    (a8 : PySem.W.nsIn K mainGlobals "without_content" = some (some (.ref f8))) (l8 : K.lookup f8 = some ⟨oc8,od8,.func (PySem.W.fnOf "without_content" "without_content" (defArgs s_without_content) (defBody s_without_content) (defScope s_without_content) .none kV8 dc8 pm8 an8 cd8 ct8),sl8⟩) (c8 : PySem.W.codeIn K cd8 "without_content" = true) (k8 : PySem.W.keepIn K (.ref f8) = true)
    (a9 : PySem.W.nsIn K mainGlobals "rests_by_prime" = some (some (.ref f9))) (l9 : K.lookup f9 = some ⟨oc9,od9,.func (PySem.W.fnOf "rests_by_prime" "rests_by_prime" (defArgs s_rests_by_prime) (defBody s_rests_by_prime) (defScope s_rests_by_prime) .none kV9 dc9 pm9 an9 cd9 ct9),sl9⟩) (c9 : PySem.W.codeIn K cd9 "rests_by_prime" = true) (k9 : PySem.W.keepIn K (.ref f9) = true)
    (a10 : PySem.W.nsIn K mainGlobals "divides_every_worth" = some (some (.ref f10))) (l10 : K.lookup f10 = some ⟨oc10,od10,.func (PySem.W.fnOf "divides_every_worth" "divides_every_worth" (defArgs s_divides_every_worth) (defBody s_divides_every_worth) (defScope s_divides_every_worth) .none kV10 dc10 pm10 an10 cd10 ct10),sl10⟩) (c10 : PySem.W.codeIn K cd10 "divides_every_worth" = true) (k10 : PySem.W.keepIn K (.ref f10) = true)
    (a11 : PySem.W.nsIn K mainGlobals "solving_balls_within" = some (some (.ref f11))) (l11 : K.lookup f11 = some ⟨oc11,od11,.func (PySem.W.fnOf "solving_balls_within" "solving_balls_within" (defArgs s_solving_balls_within) (defBody s_solving_balls_within) (defScope s_solving_balls_within) .none kV11 dc11 pm11 an11 cd11 ct11),sl11⟩) (c11 : PySem.W.codeIn K cd11 "solving_balls_within" = true) (k11 : PySem.W.keepIn K (.ref f11) = true)
    (a12 : PySem.W.nsIn K mainGlobals "solving_balls" = some (some (.ref f12))) (l12 : K.lookup f12 = some ⟨oc12,od12,.func (PySem.W.fnOf "solving_balls" "solving_balls" (defArgs s_solving_balls) (defBody s_solving_balls) (defScope s_solving_balls) .none kV12 dc12 pm12 an12 cd12 ct12),sl12⟩) (c12 : PySem.W.codeIn K cd12 "solving_balls" = true) (k12 : PySem.W.keepIn K (.ref f12) = true)
    (a13 : PySem.W.nsIn K mainGlobals "solving_rests" = some (some (.ref f13))) (l13 : K.lookup f13 = some ⟨oc13,od13,.func (PySem.W.fnOf "solving_rests" "solving_rests" (defArgs s_solving_rests) (defBody s_solving_rests) (defScope s_solving_rests) .none kV13 dc13 pm13 an13 cd13 ct13),sl13⟩) (c13 : PySem.W.codeIn K cd13 "solving_rests" = true) (k13 : PySem.W.keepIn K (.ref f13) = true)
    (a14 : PySem.W.nsIn K mainGlobals "is_made_of" = some (some (.ref f14))) (l14 : K.lookup f14 = some ⟨oc14,od14,.func (PySem.W.fnOf "is_made_of" "is_made_of" (defArgs s_is_made_of) (defBody s_is_made_of) (defScope s_is_made_of) .none kV14 dc14 pm14 an14 cd14 ct14),sl14⟩) (c14 : PySem.W.codeIn K cd14 "is_made_of" = true) (k14 : PySem.W.keepIn K (.ref f14) = true)
    (a15 : PySem.W.nsIn K mainGlobals "is_written_number" = some (some (.ref f15))) (l15 : K.lookup f15 = some ⟨oc15,od15,.func (PySem.W.fnOf "is_written_number" "is_written_number" (defArgs s_is_written_number) (defBody s_is_written_number) (defScope s_is_written_number) .none kV15 dc15 pm15 an15 cd15 ct15),sl15⟩) (c15 : PySem.W.codeIn K cd15 "is_written_number" = true) (k15 : PySem.W.keepIn K (.ref f15) = true)
    (a16 : PySem.W.nsIn K mainGlobals "can_be_written" = some (some (.ref f16))) (l16 : K.lookup f16 = some ⟨oc16,od16,.func (PySem.W.fnOf "can_be_written" "can_be_written" (defArgs s_can_be_written) (defBody s_can_be_written) (defScope s_can_be_written) .none kV16 dc16 pm16 an16 cd16 ct16),sl16⟩) (c16 : PySem.W.codeIn K cd16 "can_be_written" = true) (k16 : PySem.W.keepIn K (.ref f16) = true)
    (a17 : PySem.W.nsIn K mainGlobals "read_number" = some (some (.ref f17))) (l17 : K.lookup f17 = some ⟨oc17,od17,.func (PySem.W.fnOf "read_number" "read_number" (defArgs s_read_number) (defBody s_read_number) (defScope s_read_number) .none kV17 dc17 pm17 an17 cd17 ct17),sl17⟩) (c17 : PySem.W.codeIn K cd17 "read_number" = true) (k17 : PySem.W.keepIn K (.ref f17) = true)
    (a18 : PySem.W.nsIn K mainGlobals "read_poly" = some (some (.ref f18))) (l18 : K.lookup f18 = some ⟨oc18,od18,.func (PySem.W.fnOf "read_poly" "read_poly" (defArgs s_read_poly) (defBody s_read_poly) (defScope s_read_poly) .none kV18 dc18 pm18 an18 cd18 ct18),sl18⟩) (c18 : PySem.W.codeIn K cd18 "read_poly" = true) (k18 : PySem.W.keepIn K (.ref f18) = true)
    (a19 : PySem.W.nsIn K mainGlobals "words_of" = some (some (.ref f19))) (l19 : K.lookup f19 = some ⟨oc19,od19,.func (PySem.W.fnOf "words_of" "words_of" (defArgs s_words_of) (defBody s_words_of) (defScope s_words_of) .none kV19 dc19 pm19 an19 cd19 ct19),sl19⟩) (c19 : PySem.W.codeIn K cd19 "words_of" = true) (k19 : PySem.W.keepIn K (.ref f19) = true)
    (a20 : PySem.W.nsIn K mainGlobals "read_name" = some (some (.ref f20))) (l20 : K.lookup f20 = some ⟨oc20,od20,.func (PySem.W.fnOf "read_name" "read_name" (defArgs s_read_name) (defBody s_read_name) (defScope s_read_name) .none kV20 dc20 pm20 an20 cd20 ct20),sl20⟩) (c20 : PySem.W.codeIn K cd20 "read_name" = true) (k20 : PySem.W.keepIn K (.ref f20) = true)
    (a21 : PySem.W.nsIn K mainGlobals "read_depth" = some (some (.ref f21))) (l21 : K.lookup f21 = some ⟨oc21,od21,.func (PySem.W.fnOf "read_depth" "read_depth" (defArgs s_read_depth) (defBody s_read_depth) (defScope s_read_depth) .none kV21 dc21 pm21 an21 cd21 ct21),sl21⟩) (c21 : PySem.W.codeIn K cd21 "read_depth" = true) (k21 : PySem.W.keepIn K (.ref f21) = true)
    (a22 : PySem.W.nsIn K mainGlobals "listed" = some (some (.ref f22))) (l22 : K.lookup f22 = some ⟨oc22,od22,.func (PySem.W.fnOf "listed" "listed" (defArgs s_listed) (defBody s_listed) (defScope s_listed) .none kV22 dc22 pm22 an22 cd22 ct22),sl22⟩) (c22 : PySem.W.codeIn K cd22 "listed" = true) (k22 : PySem.W.keepIn K (.ref f22) = true)
    (a23 : PySem.W.nsIn K mainGlobals "made_poly" = some (some (.ref f23))) (l23 : K.lookup f23 = some ⟨oc23,od23,.func (PySem.W.fnOf "made_poly" "made_poly" (defArgs s_made_poly) (defBody s_made_poly) (defScope s_made_poly) .none kV23 dc23 pm23 an23 cd23 ct23),sl23⟩) (c23 : PySem.W.codeIn K cd23 "made_poly" = true) (k23 : PySem.W.keepIn K (.ref f23) = true)
    (a24 : PySem.W.nsIn K mainGlobals "told_solve" = some (some (.ref f24))) (l24 : K.lookup f24 = some ⟨oc24,od24,.func (PySem.W.fnOf "told_solve" "told_solve" (defArgs s_told_solve) (defBody s_told_solve) (defScope s_told_solve) .none kV24 dc24 pm24 an24 cd24 ct24),sl24⟩) (c24 : PySem.W.codeIn K cd24 "told_solve" = true) (k24 : PySem.W.keepIn K (.ref f24) = true)
    (a25 : PySem.W.nsIn K mainGlobals "told_count" = some (some (.ref f25))) (l25 : K.lookup f25 = some ⟨oc25,od25,.func (PySem.W.fnOf "told_count" "told_count" (defArgs s_told_count) (defBody s_told_count) (defScope s_told_count) .none kV25 dc25 pm25 an25 cd25 ct25),sl25⟩) (c25 : PySem.W.codeIn K cd25 "told_count" = true) (k25 : PySem.W.keepIn K (.ref f25) = true)
    (l26 : K.lookup f26 = some ⟨oc26,od26,.func (PySem.W.fnOf "__init__" "Desk.__init__" (defArgs s___init__) (defBody s___init__) (defScope s___init__) .none kV26 dc26 pm26 an26 cd26 ct26),sl26⟩) (c26 : PySem.W.codeIn K cd26 "Desk.__init__" = true) (k26 : PySem.W.keepIn K (.ref f26) = true) (n26 : PySem.W.isFn K (.ref f26) = true)
    (l27 : K.lookup f27 = some ⟨oc27,od27,.func (PySem.W.fnOf "say" "Desk.say" (defArgs s_say) (defBody s_say) (defScope s_say) .none kV27 dc27 pm27 an27 cd27 ct27),sl27⟩) (c27 : PySem.W.codeIn K cd27 "Desk.say" = true) (k27 : PySem.W.keepIn K (.ref f27) = true) (n27 : PySem.W.isFn K (.ref f27) = true)
    (l28 : K.lookup f28 = some ⟨oc28,od28,.func (PySem.W.fnOf "thing_of" "Desk.thing_of" (defArgs s_thing_of) (defBody s_thing_of) (defScope s_thing_of) .none kV28 dc28 pm28 an28 cd28 ct28),sl28⟩) (c28 : PySem.W.codeIn K cd28 "Desk.thing_of" = true) (k28 : PySem.W.keepIn K (.ref f28) = true) (n28 : PySem.W.isFn K (.ref f28) = true)
    (l29 : K.lookup f29 = some ⟨oc29,od29,.func (PySem.W.fnOf "standing" "Desk.standing" (defArgs s_standing) (defBody s_standing) (defScope s_standing) .none kV29 dc29 pm29 an29 cd29 ct29),sl29⟩) (c29 : PySem.W.codeIn K cd29 "Desk.standing" = true) (k29 : PySem.W.keepIn K (.ref f29) = true) (n29 : PySem.W.isFn K (.ref f29) = true)
    (l30 : K.lookup f30 = some ⟨oc30,od30,.func (PySem.W.fnOf "keep" "Desk.keep" (defArgs s_keep) (defBody s_keep) (defScope s_keep) .none kV30 dc30 pm30 an30 cd30 ct30),sl30⟩) (c30 : PySem.W.codeIn K cd30 "Desk.keep" = true) (k30 : PySem.W.keepIn K (.ref f30) = true) (n30 : PySem.W.isFn K (.ref f30) = true)
    (a31 : PySem.W.nsIn K mainGlobals "_law_cell" = some (some (.ref f31))) (l31 : K.lookup f31 = some ⟨oc31,od31,.func (PySem.W.fnOf "_law_cell" "_law_cell" (defArgs s__law_cell) (defBody s__law_cell) (defScope s__law_cell) .none kV31 dc31 pm31 an31 cd31 ct31),sl31⟩) (c31 : PySem.W.codeIn K cd31 "_law_cell" = true) (k31 : PySem.W.keepIn K (.ref f31) = true)
    (a32 : PySem.W.nsIn K mainGlobals "_law_prime" = some (some (.ref f32))) (l32 : K.lookup f32 = some ⟨oc32,od32,.func (PySem.W.fnOf "_law_prime" "_law_prime" (defArgs s__law_prime) (defBody s__law_prime) (defScope s__law_prime) .none kV32 dc32 pm32 an32 cd32 ct32),sl32⟩) (c32 : PySem.W.codeIn K cd32 "_law_prime" = true) (k32 : PySem.W.keepIn K (.ref f32) = true)
    (a33 : PySem.W.nsIn K mainGlobals "_law_times" = some (some (.ref f33))) (l33 : K.lookup f33 = some ⟨oc33,od33,.func (PySem.W.fnOf "_law_times" "_law_times" (defArgs s__law_times) (defBody s__law_times) (defScope s__law_times) .none kV33 dc33 pm33 an33 cd33 ct33),sl33⟩) (c33 : PySem.W.codeIn K cd33 "_law_times" = true) (k33 : PySem.W.keepIn K (.ref f33) = true)
    (a34 : PySem.W.nsIn K mainGlobals "_law_root" = some (some (.ref f34))) (l34 : K.lookup f34 = some ⟨oc34,od34,.func (PySem.W.fnOf "_law_root" "_law_root" (defArgs s__law_root) (defBody s__law_root) (defScope s__law_root) .none kV34 dc34 pm34 an34 cd34 ct34),sl34⟩) (c34 : PySem.W.codeIn K cd34 "_law_root" = true) (k34 : PySem.W.keepIn K (.ref f34) = true)
    (a35 : PySem.W.nsIn K mainGlobals "_law_free" = some (some (.ref f35))) (l35 : K.lookup f35 = some ⟨oc35,od35,.func (PySem.W.fnOf "_law_free" "_law_free" (defArgs s__law_free) (defBody s__law_free) (defScope s__law_free) .none kV35 dc35 pm35 an35 cd35 ct35),sl35⟩) (c35 : PySem.W.codeIn K cd35 "_law_free" = true) (k35 : PySem.W.keepIn K (.ref f35) = true)
    (a36 : PySem.W.nsIn K mainGlobals "_law_parts" = some (some (.ref f36))) (l36 : K.lookup f36 = some ⟨oc36,od36,.func (PySem.W.fnOf "_law_parts" "_law_parts" (defArgs s__law_parts) (defBody s__law_parts) (defScope s__law_parts) .none kV36 dc36 pm36 an36 cd36 ct36),sl36⟩) (c36 : PySem.W.codeIn K cd36 "_law_parts" = true) (k36 : PySem.W.keepIn K (.ref f36) = true)
    (a37 : PySem.W.nsIn K mainGlobals "_law_pair" = some (some (.ref f37))) (l37 : K.lookup f37 = some ⟨oc37,od37,.func (PySem.W.fnOf "_law_pair" "_law_pair" (defArgs s__law_pair) (defBody s__law_pair) (defScope s__law_pair) .none kV37 dc37 pm37 an37 cd37 ct37),sl37⟩) (c37 : PySem.W.codeIn K cd37 "_law_pair" = true) (k37 : PySem.W.keepIn K (.ref f37) = true)
    (a38 : PySem.W.nsIn K mainGlobals "_law_balls" = some (some (.ref f38))) (l38 : K.lookup f38 = some ⟨oc38,od38,.func (PySem.W.fnOf "_law_balls" "_law_balls" (defArgs s__law_balls) (defBody s__law_balls) (defScope s__law_balls) .none kV38 dc38 pm38 an38 cd38 ct38),sl38⟩) (c38 : PySem.W.codeIn K cd38 "_law_balls" = true) (k38 : PySem.W.keepIn K (.ref f38) = true)
    (a39 : PySem.W.nsIn K mainGlobals "_law_power" = some (some (.ref f39))) (l39 : K.lookup f39 = some ⟨oc39,od39,.func (PySem.W.fnOf "_law_power" "_law_power" (defArgs s__law_power) (defBody s__law_power) (defScope s__law_power) .none kV39 dc39 pm39 an39 cd39 ct39),sl39⟩) (c39 : PySem.W.codeIn K cd39 "_law_power" = true) (k39 : PySem.W.keepIn K (.ref f39) = true)
    (a40 : PySem.W.nsIn K mainGlobals "_law_apart" = some (some (.ref f40))) (l40 : K.lookup f40 = some ⟨oc40,od40,.func (PySem.W.fnOf "_law_apart" "_law_apart" (defArgs s__law_apart) (defBody s__law_apart) (defScope s__law_apart) .none kV40 dc40 pm40 an40 cd40 ct40),sl40⟩) (c40 : PySem.W.codeIn K cd40 "_law_apart" = true) (k40 : PySem.W.keepIn K (.ref f40) = true)
    (a41 : PySem.W.nsIn K mainGlobals "_law_worth" = some (some (.ref f41))) (l41 : K.lookup f41 = some ⟨oc41,od41,.func (PySem.W.fnOf "_law_worth" "_law_worth" (defArgs s__law_worth) (defBody s__law_worth) (defScope s__law_worth) .none kV41 dc41 pm41 an41 cd41 ct41),sl41⟩) (c41 : PySem.W.codeIn K cd41 "_law_worth" = true) (k41 : PySem.W.keepIn K (.ref f41) = true)
    (a42 : PySem.W.nsIn K mainGlobals "_law_deep" = some (some (.ref f42))) (l42 : K.lookup f42 = some ⟨oc42,od42,.func (PySem.W.fnOf "_law_deep" "_law_deep" (defArgs s__law_deep) (defBody s__law_deep) (defScope s__law_deep) .none kV42 dc42 pm42 an42 cd42 ct42),sl42⟩) (c42 : PySem.W.codeIn K cd42 "_law_deep" = true) (k42 : PySem.W.keepIn K (.ref f42) = true)
    (a43 : PySem.W.nsIn K mainGlobals "_law_numbers" = some (some (.ref f43))) (l43 : K.lookup f43 = some ⟨oc43,od43,.func (PySem.W.fnOf "_law_numbers" "_law_numbers" (defArgs s__law_numbers) (defBody s__law_numbers) (defScope s__law_numbers) .none kV43 dc43 pm43 an43 cd43 ct43),sl43⟩) (c43 : PySem.W.codeIn K cd43 "_law_numbers" = true) (k43 : PySem.W.keepIn K (.ref f43) = true)
    (a44 : PySem.W.nsIn K mainGlobals "law" = some (some (.ref f44))) (l44 : K.lookup f44 = some ⟨oc44,od44,.func (PySem.W.fnOf "law" "law" (defArgs s_law) (defBody s_law) (defScope s_law) .none kV44 dc44 pm44 an44 cd44 ct44),sl44⟩) (c44 : PySem.W.codeIn K cd44 "law" = true) (k44 : PySem.W.keepIn K (.ref f44) = true)
    (z_abs : PySem.W.nsIn K mainGlobals "abs" = some none) (z_all : PySem.W.nsIn K mainGlobals "all" = some none) (z_bool : PySem.W.nsIn K mainGlobals "bool" = some none) (z_enumerate : PySem.W.nsIn K mainGlobals "enumerate" = some none) (z_int : PySem.W.nsIn K mainGlobals "int" = some none) (z_isinstance : PySem.W.nsIn K mainGlobals "isinstance" = some none) (z_len : PySem.W.nsIn K mainGlobals "len" = some none) (z_list : PySem.W.nsIn K mainGlobals "list" = some none) (z_max : PySem.W.nsIn K mainGlobals "max" = some none) (z_min : PySem.W.nsIn K mainGlobals "min" = some none) (z_range : PySem.W.nsIn K mainGlobals "range" = some none) (z_reversed : PySem.W.nsIn K mainGlobals "reversed" = some none) (z_sorted : PySem.W.nsIn K mainGlobals "sorted" = some none) (z_str : PySem.W.nsIn K mainGlobals "str" = some none) (z_sum : PySem.W.nsIn K mainGlobals "sum" = some none) (z_zip : PySem.W.nsIn K mainGlobals "zip" = some none) {t_FIGURES : Tok} (z_FIGURES : PySem.W.nsIn K mainGlobals "FIGURES" = some (some (.str "0123456789" t_FIGURES))) {t_GREATEST_DEPTH : Tok} (z_GREATEST_DEPTH : PySem.W.nsIn K mainGlobals "GREATEST_DEPTH" = some (some (.int 60 t_GREATEST_DEPTH))) {t_GREATEST_PRIME : Tok} (z_GREATEST_PRIME : PySem.W.nsIn K mainGlobals "GREATEST_PRIME" = some (some (.int 97 t_GREATEST_PRIME))) {t_LETTERS : Tok} (z_LETTERS : PySem.W.nsIn K mainGlobals "LETTERS" = some (some (.str "abcdefghijklmnopqrstuvwxyz" t_LETTERS))) {t_MOST_FIGURES : Tok} (z_MOST_FIGURES : PySem.W.nsIn K mainGlobals "MOST_FIGURES" = some (some (.int 60 t_MOST_FIGURES))) {t_MOST_LETTERS : Tok} (z_MOST_LETTERS : PySem.W.nsIn K mainGlobals "MOST_LETTERS" = some (some (.int 8 t_MOST_LETTERS))) {t_MOST_NUMBERS : Tok} (z_MOST_NUMBERS : PySem.W.nsIn K mainGlobals "MOST_NUMBERS" = some (some (.int 13 t_MOST_NUMBERS))) (kd_WANTED : KDict K w 419 l_WANTED) (gd_WANTED : PySem.W.nsIn K mainGlobals "WANTED" = some (some (.ref 419))) (kd_MADE : KDict K w 546 l_MADE) (gd_MADE : PySem.W.nsIn K mainGlobals "MADE" = some (some (.ref 546))) (kd_TOLD : KDict K w 547 l_TOLD) (gd_TOLD : PySem.W.nsIn K mainGlobals "TOLD" = some (some (.ref 547))) (tu_420 : KTup K 420 [.str "new",.str "poly"]) (tu_427 : KTup K 427 [.str "name",.str "depth"]) (tu_428 : KTup K 428 [.str "name",.str "depth"]) (fa_made_poly : PySem.W.nsIn K mainGlobals "made_poly" = some (some (.ref 469))) (fa_told_solve : PySem.W.nsIn K mainGlobals "told_solve" = some (some (.ref 502))) (fa_told_count : PySem.W.nsIn K mainGlobals "told_count" = some (some (.ref 509))) {e_Desk : Addr} (z_Desk : PySem.W.nsIn K mainGlobals "Desk" = some (some (.ref e_Desk))) {e_NoDepth : Addr} (z_NoDepth : PySem.W.nsIn K mainGlobals "NoDepth" = some (some (.ref e_NoDepth))) {e_NoInverse : Addr} (z_NoInverse : PySem.W.nsIn K mainGlobals "NoInverse" = some (some (.ref e_NoInverse))) {e_NoName : Addr} (z_NoName : PySem.W.nsIn K mainGlobals "NoName" = some (some (.ref e_NoName))) {e_NoParts : Addr} (z_NoParts : PySem.W.nsIn K mainGlobals "NoParts" = some (some (.ref e_NoParts))) {e_NoPrime : Addr} (z_NoPrime : PySem.W.nsIn K mainGlobals "NoPrime" = some (some (.ref e_NoPrime))) {e_NoRow : Addr} (z_NoRow : PySem.W.nsIn K mainGlobals "NoRow" = some (some (.ref e_NoRow))) {e_NoSingle : Addr} (z_NoSingle : PySem.W.nsIn K mainGlobals "NoSingle" = some (some (.ref e_NoSingle))) {e_NoSmall : Addr} (z_NoSmall : PySem.W.nsIn K mainGlobals "NoSmall" = some (some (.ref e_NoSmall))) {e_NoText : Addr} (z_NoText : PySem.W.nsIn K mainGlobals "NoText" = some (some (.ref e_NoText))) {e_TooDeep : Addr} (z_TooDeep : PySem.W.nsIn K mainGlobals "TooDeep" = some (some (.ref e_TooDeep))) {e_TooGreat : Addr} (z_TooGreat : PySem.W.nsIn K mainGlobals "TooGreat" = some (some (.ref e_TooGreat))) (x_NoDepth : ExcK K e_NoDepth) (cl_Desk : Cls K e_Desk) (mk_Desk : PySem.W.makesIn K e_Desk = true) (kc_Desk : PySem.W.keepIn K (.ref e_Desk) = true) (na_prime : NoAttr K e_Desk "prime") (na_kept : NoAttr K e_Desk "kept") (a26 : PySem.W.findIn K (.ref e_Desk) "__init__" = some (some (.ref f26))) (a27 : PySem.W.findIn K (.ref e_Desk) "say" = some (some (.ref f27))) (a28 : PySem.W.findIn K (.ref e_Desk) "thing_of" = some (some (.ref f28))) (a29 : PySem.W.findIn K (.ref e_Desk) "standing" = some (some (.ref f29))) (a30 : PySem.W.findIn K (.ref e_Desk) "keep" = some (some (.ref f30))) :
    ∃ fd : FuncData,(∀ (s : Shared) (v : Value),BindsTo s fd ⟨[v],[]⟩ [("script",v)]) ∧ ∀ base : Heap,K.In base → base.Ns mainGlobals mg → FnOk P w K mg base CX0 72 fa fd ["script"] (spLaw K):=by
  have e:=hfa.symm.trans (PySem.W.mg_of X G a44)
  cases e
  have F1:=fun_mk (st:=s_is_prime) l1 c1 k1
  have b1:=F1.binds (ps:=["thing"]) fun _ _ _ _ _ _ us hl=>by obtain ⟨_,rfl⟩:=us1 hl; rfl
  have F2:=fun_mk (st:=s_power_of) l2 c2 k2
  have b2:=F2.binds (ps:=["p","e"]) fun _ _ _ _ _ _ us hl=>by obtain ⟨_,_,rfl⟩:=us2 hl; rfl
  have F3:=fun_mk (st:=s_worth_at) l3 c3 k3
  have b3:=F3.binds (ps:=["f","x"]) fun _ _ _ _ _ _ us hl=>by obtain ⟨_,_,rfl⟩:=us2 hl; rfl
  have F4:=fun_mk (st:=s_degree_of) l4 c4 k4
  have b4:=F4.binds (ps:=["f"]) fun _ _ _ _ _ _ us hl=>by obtain ⟨_,rfl⟩:=us1 hl; rfl
  have F5:=fun_mk (st:=s_poly_product) l5 c5 k5
  have b5:=F5.binds (ps:=["f","g"]) fun _ _ _ _ _ _ us hl=>by obtain ⟨_,_,rfl⟩:=us2 hl; rfl
  have F6:=fun_mk (st:=s_seen_from) l6 c6 k6
  have b6:=F6.binds (ps:=["p","f","a","e"]) fun _ _ _ _ _ _ us hl=>by obtain ⟨_,_,_,_,rfl⟩:=us4 hl; rfl
  have F7:=fun_mk (st:=s_content_of) l7 c7 k7
  have b7:=F7.binds (ps:=["p","f"]) fun _ _ _ _ _ _ us hl=>by obtain ⟨_,_,rfl⟩:=us2 hl; rfl
  have F8:=fun_mk (st:=s_without_content) l8 c8 k8
  have b8:=F8.binds (ps:=["p","f"]) fun _ _ _ _ _ _ us hl=>by obtain ⟨_,_,rfl⟩:=us2 hl; rfl
  have F9:=fun_mk (st:=s_rests_by_prime) l9 c9 k9
  have b9:=F9.binds (ps:=["p","f"]) fun _ _ _ _ _ _ us hl=>by obtain ⟨_,_,rfl⟩:=us2 hl; rfl
  have F10:=fun_mk (st:=s_divides_every_worth) l10 c10 k10
  have b10:=F10.binds (ps:=["p","f","N"]) fun _ _ _ _ _ _ us hl=>by obtain ⟨_,_,_,rfl⟩:=us3 hl; rfl
  have F11:=fun_mk (st:=s_solving_balls_within) l11 c11 k11
  have b11:=F11.binds (ps:=["p","a","e","seen","N"]) fun _ _ _ _ _ _ us hl=>by obtain ⟨_,_,_,_,_,rfl⟩:=us5 hl; rfl
  have F12:=fun_mk (st:=s_solving_balls) l12 c12 k12
  have b12:=F12.binds (ps:=["p","f","N"]) fun _ _ _ _ _ _ us hl=>by obtain ⟨_,_,_,rfl⟩:=us3 hl; rfl
  have F13:=fun_mk (st:=s_solving_rests) l13 c13 k13
  have b13:=F13.binds (ps:=["p","f","N"]) fun _ _ _ _ _ _ us hl=>by obtain ⟨_,_,_,rfl⟩:=us3 hl; rfl
  have F14:=fun_mk (st:=s_is_made_of) l14 c14 k14
  have b14:=F14.binds (ps:=["text","signs"]) fun _ _ _ _ _ _ us hl=>by obtain ⟨_,_,rfl⟩:=us2 hl; rfl
  have F15:=fun_mk (st:=s_is_written_number) l15 c15 k15
  have b15:=F15.binds (ps:=["text"]) fun _ _ _ _ _ _ us hl=>by obtain ⟨_,rfl⟩:=us1 hl; rfl
  have F16:=fun_mk (st:=s_can_be_written) l16 c16 k16
  have b16:=F16.binds (ps:=["number"]) fun _ _ _ _ _ _ us hl=>by obtain ⟨_,rfl⟩:=us1 hl; rfl
  have F17:=fun_mk (st:=s_read_number) l17 c17 k17
  have b17:=F17.binds (ps:=["text"]) fun _ _ _ _ _ _ us hl=>by obtain ⟨_,rfl⟩:=us1 hl; rfl
  have F18:=fun_mk (st:=s_read_poly) l18 c18 k18
  have b18:=F18.binds (ps:=["text"]) fun _ _ _ _ _ _ us hl=>by obtain ⟨_,rfl⟩:=us1 hl; rfl
  have F19:=fun_mk (st:=s_words_of) l19 c19 k19
  have b19:=F19.binds (ps:=["row"]) fun _ _ _ _ _ _ us hl=>by obtain ⟨_,rfl⟩:=us1 hl; rfl
  have F20:=fun_mk (st:=s_read_name) l20 c20 k20
  have b20:=F20.binds (ps:=["word"]) fun _ _ _ _ _ _ us hl=>by obtain ⟨_,rfl⟩:=us1 hl; rfl
  have F21:=fun_mk (st:=s_read_depth) l21 c21 k21
  have b21:=F21.binds (ps:=["word"]) fun _ _ _ _ _ _ us hl=>by obtain ⟨_,rfl⟩:=us1 hl; rfl
  have F22:=fun_mk (st:=s_listed) l22 c22 k22
  have b22:=F22.binds (ps:=["texts","without"]) fun _ _ _ _ _ _ us hl=>by obtain ⟨_,_,rfl⟩:=us2 hl; rfl
  have F23:=fun_mk (st:=s_made_poly) l23 c23 k23
  have b23:=F23.binds (ps:=["p","things"]) fun _ _ _ _ _ _ us hl=>by obtain ⟨_,_,rfl⟩:=us2 hl; rfl
  have F24:=fun_mk (st:=s_told_solve) l24 c24 k24
  have b24:=F24.binds (ps:=["p","things"]) fun _ _ _ _ _ _ us hl=>by obtain ⟨_,_,rfl⟩:=us2 hl; rfl
  have F25:=fun_mk (st:=s_told_count) l25 c25 k25
  have b25:=F25.binds (ps:=["p","things"]) fun _ _ _ _ _ _ us hl=>by obtain ⟨_,_,rfl⟩:=us2 hl; rfl
  have F26:=fun_mk (st:=s___init__) l26 c26 k26
  have b26:=F26.binds (ps:=["self","p"]) fun _ _ _ _ _ _ us hl=>by obtain ⟨_,_,rfl⟩:=us2 hl; rfl
  have F27:=fun_mk (st:=s_say) l27 c27 k27
  have b27:=F27.binds (ps:=["self","row"]) fun _ _ _ _ _ _ us hl=>by obtain ⟨_,_,rfl⟩:=us2 hl; rfl
  have F28:=fun_mk (st:=s_thing_of) l28 c28 k28
  have b28:=F28.binds (ps:=["self","wanted","word"]) fun _ _ _ _ _ _ us hl=>by obtain ⟨_,_,_,rfl⟩:=us3 hl; rfl
  have F29:=fun_mk (st:=s_standing) l29 c29 k29
  have b29:=F29.binds (ps:=["self","name"]) fun _ _ _ _ _ _ us hl=>by obtain ⟨_,_,rfl⟩:=us2 hl; rfl
  have F30:=fun_mk (st:=s_keep) l30 c30 k30
  have b30:=F30.binds (ps:=["self","name","polynomial"]) fun _ _ _ _ _ _ us hl=>by obtain ⟨_,_,_,rfl⟩:=us3 hl; rfl
  have F31:=fun_mk (st:=s__law_cell) l31 c31 k31
  have b31:=F31.binds (ps:=["script","k"]) fun _ _ _ _ _ _ us hl=>by obtain ⟨_,_,rfl⟩:=us2 hl; rfl
  have F32:=fun_mk (st:=s__law_prime) l32 c32 k32
  have b32:=F32.binds (ps:=["cell"]) fun _ _ _ _ _ _ us hl=>by obtain ⟨_,rfl⟩:=us1 hl; rfl
  have F33:=fun_mk (st:=s__law_times) l33 c33 k33
  have b33:=F33.binds (ps:=["f","g"]) fun _ _ _ _ _ _ us hl=>by obtain ⟨_,_,rfl⟩:=us2 hl; rfl
  have F34:=fun_mk (st:=s__law_root) l34 c34 k34
  have b34:=F34.binds (ps:=["p","one","other"]) fun _ _ _ _ _ _ us hl=>by obtain ⟨_,_,_,rfl⟩:=us3 hl; rfl
  have F35:=fun_mk (st:=s__law_free) l35 c35 k35
  have b35:=F35.binds (ps:=["p","one","other"]) fun _ _ _ _ _ _ us hl=>by obtain ⟨_,_,_,rfl⟩:=us3 hl; rfl
  have F36:=fun_mk (st:=s__law_parts) l36 c36 k36
  have b36:=F36.binds (ps:=["p","script"]) fun _ _ _ _ _ _ us hl=>by obtain ⟨_,_,rfl⟩:=us2 hl; rfl
  have F37:=fun_mk (st:=s__law_pair) l37 c37 k37
  have b37:=F37.binds (ps:=["word"]) fun _ _ _ _ _ _ us hl=>by obtain ⟨_,rfl⟩:=us1 hl; rfl
  have F38:=fun_mk (st:=s__law_balls) l38 c38 k38
  have b38:=F38.binds (ps:=["desk","deep"]) fun _ _ _ _ _ _ us hl=>by obtain ⟨_,_,rfl⟩:=us2 hl; rfl
  have F39:=fun_mk (st:=s__law_power) l39 c39 k39
  have b39:=F39.binds (ps:=["p","e"]) fun _ _ _ _ _ _ us hl=>by obtain ⟨_,_,rfl⟩:=us2 hl; rfl
  have F40:=fun_mk (st:=s__law_apart) l40 c40 k40
  have b40:=F40.binds (ps:=["p","balls","deep"]) fun _ _ _ _ _ _ us hl=>by obtain ⟨_,_,_,rfl⟩:=us3 hl; rfl
  have F41:=fun_mk (st:=s__law_worth) l41 c41 k41
  have b41:=F41.binds (ps:=["f","x"]) fun _ _ _ _ _ _ us hl=>by obtain ⟨_,_,rfl⟩:=us2 hl; rfl
  have F42:=fun_mk (st:=s__law_deep) l42 c42 k42
  have b42:=F42.binds (ps:=["script","p"]) fun _ _ _ _ _ _ us hl=>by obtain ⟨_,_,rfl⟩:=us2 hl; rfl
  have F43:=fun_mk (st:=s__law_numbers) l43 c43 k43
  have b43:=F43.binds (ps:=["script","p","parts","balls"]) fun _ _ _ _ _ _ us hl=>by obtain ⟨_,_,_,_,rfl⟩:=us4 hl; rfl
  have F44:=fun_mk (st:=s_law) l44 c44 k44
  have k_Desk : clK K "Desk" = e_Desk:=clK_of z_Desk
  have k_NoDepth : clK K "NoDepth" = e_NoDepth:=clK_of z_NoDepth
  have k_NoInverse : clK K "NoInverse" = e_NoInverse:=clK_of z_NoInverse
  have k_NoName : clK K "NoName" = e_NoName:=clK_of z_NoName
  have k_NoParts : clK K "NoParts" = e_NoParts:=clK_of z_NoParts
  have k_NoPrime : clK K "NoPrime" = e_NoPrime:=clK_of z_NoPrime
  have k_NoRow : clK K "NoRow" = e_NoRow:=clK_of z_NoRow
  have k_NoSingle : clK K "NoSingle" = e_NoSingle:=clK_of z_NoSingle
  have k_NoSmall : clK K "NoSmall" = e_NoSmall:=clK_of z_NoSmall
  have k_NoText : clK K "NoText" = e_NoText:=clK_of z_NoText
  have k_TooDeep : clK K "TooDeep" = e_TooDeep:=clK_of z_TooDeep
  have k_TooGreat : clK K "TooGreat" = e_TooGreat:=clK_of z_TooGreat
  have B : Bi mg K w:=⟨kd_WANTED,PySem.W.mg_of X G gd_WANTED,kd_MADE,PySem.W.mg_of X G gd_MADE,kd_TOLD,PySem.W.mg_of X G gd_TOLD,tu_420,tu_427,tu_428,PySem.W.mg_of X G fa_made_poly,PySem.W.mg_of X G fa_told_solve,PySem.W.mg_of X G fa_told_count,(by rw [k_Desk]; exact cl_Desk),(by rw [k_Desk]; exact na_prime),(by rw [k_Desk]; exact na_kept),PySem.W.mg_none_of X G z_abs,PySem.W.mg_none_of X G z_all,PySem.W.mg_none_of X G z_bool,PySem.W.mg_none_of X G z_enumerate,PySem.W.mg_none_of X G z_int,PySem.W.mg_none_of X G z_isinstance,PySem.W.mg_none_of X G z_len,PySem.W.mg_none_of X G z_list,PySem.W.mg_none_of X G z_max,PySem.W.mg_none_of X G z_min,PySem.W.mg_none_of X G z_range,PySem.W.mg_none_of X G z_reversed,PySem.W.mg_none_of X G z_sorted,PySem.W.mg_none_of X G z_str,PySem.W.mg_none_of X G z_sum,PySem.W.mg_none_of X G z_zip,⟨_,PySem.W.mg_of X G z_FIGURES⟩,⟨_,PySem.W.mg_of X G z_GREATEST_DEPTH⟩,⟨_,PySem.W.mg_of X G z_GREATEST_PRIME⟩,⟨_,PySem.W.mg_of X G z_LETTERS⟩,⟨_,PySem.W.mg_of X G z_MOST_FIGURES⟩,⟨_,PySem.W.mg_of X G z_MOST_LETTERS⟩,⟨_,PySem.W.mg_of X G z_MOST_NUMBERS⟩,(by rw [k_Desk]; exact PySem.W.mg_of X G z_Desk),(by rw [k_NoDepth]; exact PySem.W.mg_of X G z_NoDepth),(by rw [k_NoInverse]; exact PySem.W.mg_of X G z_NoInverse),(by rw [k_NoName]; exact PySem.W.mg_of X G z_NoName),(by rw [k_NoParts]; exact PySem.W.mg_of X G z_NoParts),(by rw [k_NoPrime]; exact PySem.W.mg_of X G z_NoPrime),(by rw [k_NoRow]; exact PySem.W.mg_of X G z_NoRow),(by rw [k_NoSingle]; exact PySem.W.mg_of X G z_NoSingle),(by rw [k_NoSmall]; exact PySem.W.mg_of X G z_NoSmall),(by rw [k_NoText]; exact PySem.W.mg_of X G z_NoText),(by rw [k_TooDeep]; exact PySem.W.mg_of X G z_TooDeep),(by rw [k_TooGreat]; exact PySem.W.mg_of X G z_TooGreat),(by rw [k_NoDepth]; exact x_NoDepth)⟩
  refine ⟨PySem.W.fnOf "law" "law" (defArgs s_law) (defBody s_law) (defScope s_law) .none kV44 dc44 pm44 an44 cd44 ct44,fun s v=>.of_eq rfl,fun base _ _=>?_⟩
  have D_is_prime:=def_mk (P:=P) (w:=w) (base:=base) F1 (ok_is_prime B  F1) b1 (PySem.W.mg_of X G a1)
  have D_power_of:=def_mk (P:=P) (w:=w) (base:=base) F2 (ok_power_of B  F2) b2 (PySem.W.mg_of X G a2)
  have D_worth_at:=def_mk (P:=P) (w:=w) (base:=base) F3 (ok_worth_at B  F3) b3 (PySem.W.mg_of X G a3)
  have D_degree_of:=def_mk (P:=P) (w:=w) (base:=base) F4 (ok_degree_of B  F4) b4 (PySem.W.mg_of X G a4)
  have D_poly_product:=def_mk (P:=P) (w:=w) (base:=base) F5 (ok_poly_product B  F5) b5 (PySem.W.mg_of X G a5)
  have D_is_made_of:=def_mk (P:=P) (w:=w) (base:=base) F14 (ok_is_made_of B  F14) b14 (PySem.W.mg_of X G a14)
  have D_words_of:=def_mk (P:=P) (w:=w) (base:=base) F19 (ok_words_of B  F19) b19 (PySem.W.mg_of X G a19)
  have D_listed:=def_mk (P:=P) (w:=w) (base:=base) F22 (ok_listed B  F22) b22 (PySem.W.mg_of X G a22)
  have D_made_poly:=def_mk (P:=P) (w:=w) (base:=base) F23 (ok_made_poly B  F23) b23 (PySem.W.mg_of X G a23)
  have D_standing : Met P w K mg base CX0 (clK K "Desk") "standing" 1 ["self","name"] (sp_standing K):=⟨⟨f29,_,ok_standing B  F29,b29,(by rw [k_Desk]; exact ⟨a29,n29,k29⟩)⟩⟩
  have D__law_cell:=def_mk (P:=P) (w:=w) (base:=base) F31 (ok__law_cell B  F31) b31 (PySem.W.mg_of X G a31)
  have D__law_prime:=def_mk (P:=P) (w:=w) (base:=base) F32 (ok__law_prime B  F32) b32 (PySem.W.mg_of X G a32)
  have D__law_times:=def_mk (P:=P) (w:=w) (base:=base) F33 (ok__law_times B  F33) b33 (PySem.W.mg_of X G a33)
  have D__law_root:=def_mk (P:=P) (w:=w) (base:=base) F34 (ok__law_root B  F34) b34 (PySem.W.mg_of X G a34)
  have D__law_free:=def_mk (P:=P) (w:=w) (base:=base) F35 (ok__law_free B  F35) b35 (PySem.W.mg_of X G a35)
  have D__law_pair:=def_mk (P:=P) (w:=w) (base:=base) F37 (ok__law_pair B  F37) b37 (PySem.W.mg_of X G a37)
  have D__law_power:=def_mk (P:=P) (w:=w) (base:=base) F39 (ok__law_power B  F39) b39 (PySem.W.mg_of X G a39)
  have D__law_worth:=def_mk (P:=P) (w:=w) (base:=base) F41 (ok__law_worth B  F41) b41 (PySem.W.mg_of X G a41)
  have T_MADE : TabOk P w K mg base CX0 1 (Tab_MADE K):=tab_one B.fa_made_poly D_made_poly.ex
  have D_seen_from:=def_mk (P:=P) (w:=w) (base:=base) F6 (ok_seen_from B D_power_of D_poly_product F6) b6 (PySem.W.mg_of X G a6)
  have D_content_of:=defE_mk (P:=P) (w:=w) (base:=base) F7 (ok_content_of B D_degree_of F7) b7 (PySem.W.mg_of X G a7)
  have D_rests_by_prime:=def_mk (P:=P) (w:=w) (base:=base) F9 (ok_rests_by_prime B D_worth_at F9) b9 (PySem.W.mg_of X G a9)
  have D_divides_every_worth:=def_mk (P:=P) (w:=w) (base:=base) F10 (ok_divides_every_worth B D_power_of D_worth_at F10) b10 (PySem.W.mg_of X G a10)
  have D_is_written_number:=def_mk (P:=P) (w:=w) (base:=base) F15 (ok_is_written_number B D_is_made_of F15) b15 (PySem.W.mg_of X G a15)
  have D_can_be_written:=def_mk (P:=P) (w:=w) (base:=base) F16 (ok_can_be_written B D_power_of F16) b16 (PySem.W.mg_of X G a16)
  have D_read_name:=def_mk (P:=P) (w:=w) (base:=base) F20 (ok_read_name B D_is_made_of F20) b20 (PySem.W.mg_of X G a20)
  have D___init__ : MkD P w K mg base (clK K "Desk") 2 ["self","p"] (sp___init__ K):=⟨⟨f26,_,ok___init__ B D_is_prime F26,b26,(by rw [k_Desk]; exact ⟨mk_Desk,a26,n26,kc_Desk⟩)⟩⟩
  have D__law_parts:=def_mk (P:=P) (w:=w) (base:=base) F36 (ok__law_parts B D__law_cell D__law_root D__law_free F36) b36 (PySem.W.mg_of X G a36)
  have D__law_apart:=def_mk (P:=P) (w:=w) (base:=base) F40 (ok__law_apart B D__law_power F40) b40 (PySem.W.mg_of X G a40)
  have D__law_deep:=def_mk (P:=P) (w:=w) (base:=base) F42 (ok__law_deep B D__law_cell F42) b42 (PySem.W.mg_of X G a42)
  have D__law_numbers:=def_mk (P:=P) (w:=w) (base:=base) F43 (ok__law_numbers B D__law_cell D__law_power F43) b43 (PySem.W.mg_of X G a43)
  have D_without_content:=def_mk (P:=P) (w:=w) (base:=base) F8 (ok_without_content B D_power_of D_content_of F8) b8 (PySem.W.mg_of X G a8)
  have D_read_number:=def_mk (P:=P) (w:=w) (base:=base) F17 (ok_read_number B D_is_written_number F17) b17 (PySem.W.mg_of X G a17)
  have D_keep : Met P w K mg base CX0 (clK K "Desk") "keep" 3 ["self","name","polynomial"] (sp_keep K):=⟨⟨f30,_,ok_keep B D_can_be_written F30,b30,(by rw [k_Desk]; exact ⟨a30,n30,k30⟩)⟩⟩
  have D_read_poly:=def_mk (P:=P) (w:=w) (base:=base) F18 (ok_read_poly B D_read_number F18) b18 (PySem.W.mg_of X G a18)
  have D_read_depth:=def_mk (P:=P) (w:=w) (base:=base) F21 (ok_read_depth B D_read_number F21) b21 (PySem.W.mg_of X G a21)
  have D_thing_of : Met P w K mg base CX0 (clK K "Desk") "thing_of" 5 ["self","wanted","word"] (sp_thing_of K):=⟨⟨f28,_,ok_thing_of B D_read_number D_read_poly D_read_name D_read_depth D_standing F28,b28,(by rw [k_Desk]; exact ⟨a28,n28,k28⟩)⟩⟩
  have D_solving_balls_within:=rec_mk (P:=P) (w:=w) (base:=base) (sp:=spN_solving_balls_within K) F11 b11 (PySem.W.mg_of X G a11) 3 (fun n d=>ok_solving_balls_within B D_power_of D_seen_from D_content_of D_without_content D_rests_by_prime D_divides_every_worth d F11) 62
  have D_solving_balls:=def_mk (P:=P) (w:=w) (base:=base) F12 (ok_solving_balls B D_solving_balls_within F12) b12 (PySem.W.mg_of X G a12)
  have D_solving_rests:=def_mk (P:=P) (w:=w) (base:=base) F13 (ok_solving_rests B D_power_of D_solving_balls F13) b13 (PySem.W.mg_of X G a13)
  have D_told_solve:=def_mk (P:=P) (w:=w) (base:=base) F24 (ok_told_solve B D_solving_balls D_listed F24) b24 (PySem.W.mg_of X G a24)
  have D_told_count:=def_mk (P:=P) (w:=w) (base:=base) F25 (ok_told_count B D_solving_rests F25) b25 (PySem.W.mg_of X G a25)
  have T_TOLD : TabOk P w K mg base CX0 69 (Tab_TOLD K):=tab_or (tab_one B.fa_told_solve D_told_solve.ex) (tab_one B.fa_told_count D_told_count.ex)
  have D_say : Met P w K mg base CX0 (clK K "Desk") "say" 70 ["self","row"] (sp_say K):=⟨⟨f27,_,ok_say B T_TOLD T_MADE D_words_of D_thing_of D_keep F27,b27,(by rw [k_Desk]; exact ⟨a27,n27,k27⟩)⟩⟩
  have D__law_balls:=def_mk (P:=P) (w:=w) (base:=base) F38 (ok__law_balls B D_say D__law_pair F38) b38 (PySem.W.mg_of X G a38)
  exact ok_law B D___init__ D_say D__law_cell D__law_prime D__law_times D__law_parts D__law_balls D__law_power D__law_apart D__law_worth D__law_deep D__law_numbers F44
end
end K91
namespace PySem.W.Fast
theorem tw8923201373242630144:True:=.intro
theorem tw6419235537101458496:True:=.intro
theorem tw8091501396670752832:True:=.intro
theorem tw14010076710233628768:True:=.intro
theorem tw9988007186436962496:True:=.intro
theorem tw119054793299933408:True:=.intro
theorem tw17110365154009586912:True:=.intro
theorem tw5512177044404727040:True:=.intro
theorem tw17921703895210230048:True:=.intro
theorem tw18142073225807007008:True:=.intro
theorem tw16932231526087755104:True:=.intro
theorem tw1203890452499947936:True:=.intro
theorem tw4071237139003871680:True:=.intro
theorem tw14379119047283997152:True:=.intro
theorem tw1276753596527427072:True:=.intro
theorem tw11171825486223185408:True:=.intro
theorem tw18433551257973247488:True:=.intro
theorem tw5250559889483344416:True:=.intro
theorem tw14030344606116302496:True:=.intro
theorem tw5148475128162692928:True:=.intro
theorem tw5673172616472179552:True:=.intro
theorem tw12947116191470789504:True:=.intro
theorem tw2212805506488021952:True:=.intro
theorem tw2166010334846936129:True:=.intro
theorem tw12205121507426861249:True:=.intro
theorem tw7035601251291063489:True:=.intro
theorem tw6912274798700736801:True:=.intro
theorem tw11867859061509445921:True:=.intro
theorem tw8050976791503084865:True:=.intro
theorem tw6639384478438862145:True:=.intro
theorem tw3298608719964372321:True:=.intro
theorem tw4575970442113812929:True:=.intro
theorem tw12783609743233232353:True:=.intro
theorem tw15224075835304870433:True:=.intro
theorem tw18130121449178885761:True:=.intro
theorem tw7156408638769717889:True:=.intro
theorem tw7197986376744615617:True:=.intro
theorem tw7584357633417250497:True:=.intro
theorem tw5591973168412850913:True:=.intro
theorem tw3525830031624335201:True:=.intro
theorem tw16841249517106816897:True:=.intro
theorem tw17157113749978149793:True:=.intro
theorem tw10929867804978083745:True:=.intro
theorem tw14243721171511273441:True:=.intro
theorem tw2371804775602294850:True:=.intro
theorem tw14048517328829177922:True:=.intro
theorem tw16364200549194033282:True:=.intro
theorem tw326720539519555778:True:=.intro
theorem tw6791788400786138338:True:=.intro
theorem tw764332019956909378:True:=.intro
theorem tw2559174050515641666:True:=.intro
theorem tw2782199359333459266:True:=.intro
theorem tw6595054801663617346:True:=.intro
theorem tw7586089115765199202:True:=.intro
theorem tw3819575303010085378:True:=.intro
theorem tw10910346141000251970:True:=.intro
theorem tw535300455363233410:True:=.intro
theorem tw18278984033470390946:True:=.intro
theorem tw11168562814889738914:True:=.intro
theorem tw11521484110297381602:True:=.intro
theorem tw11011100963288716098:True:=.intro
theorem tw8767988182448225090:True:=.intro
theorem tw12990345619891969890:True:=.intro
theorem tw13544958167854088066:True:=.intro
theorem tw7151422550526517186:True:=.intro
theorem tw17217887764204220386:True:=.intro
theorem tw2426831345918682211:True:=.intro
theorem tw10984300023912946819:True:=.intro
theorem tw307764933572447395:True:=.intro
theorem tw7073721414711067843:True:=.intro
theorem tw17244264760170775811:True:=.intro
theorem tw16791859760968997123:True:=.intro
theorem tw11375358733842429219:True:=.intro
theorem tw6420411701876763011:True:=.intro
theorem tw16495457054560621027:True:=.intro
theorem tw9954980790199958019:True:=.intro
theorem tw4010335302722912803:True:=.intro
theorem tw11950163906703783459:True:=.intro
theorem tw4154109809626106435:True:=.intro
theorem tw12892026893956440675:True:=.intro
theorem tw16819335631256998627:True:=.intro
theorem tw3025396910520066787:True:=.intro
theorem tw2835763158382539523:True:=.intro
theorem tw6198109866448786211:True:=.intro
theorem tw6276118666016239427:True:=.intro
theorem tw11065320773828672323:True:=.intro
theorem tw17054268911226370947:True:=.intro
theorem tw15642858614948964323:True:=.intro
theorem tw16204146122085014596:True:=.intro
theorem tw13973299615716622404:True:=.intro
theorem tw2645634395262865476:True:=.intro
theorem tw3144660098208490660:True:=.intro
theorem tw17797626892725789892:True:=.intro
theorem tw5948916763118599428:True:=.intro
theorem tw4100080008223788356:True:=.intro
theorem tw10332891619965608260:True:=.intro
theorem tw8416689719183597892:True:=.intro
theorem tw15936876291604128164:True:=.intro
theorem tw12876721856527195556:True:=.intro
theorem tw3578197919009857956:True:=.intro
theorem tw14059865298556475908:True:=.intro
theorem tw14998196928996607684:True:=.intro
theorem tw9794888270024440516:True:=.intro
theorem tw3474240453863164676:True:=.intro
theorem tw10963918385797258052:True:=.intro
theorem tw14561540656445224836:True:=.intro
theorem tw12761819706766234532:True:=.intro
theorem tw12218369000884806596:True:=.intro
theorem tw13210953360848217060:True:=.intro
theorem tw2683503447486901220:True:=.intro
theorem tw14100557407032176645:True:=.intro
theorem tw349759729634995301:True:=.intro
theorem tw7767741574484930661:True:=.intro
theorem tw875840215792699653:True:=.intro
theorem tw1253193699570115877:True:=.intro
theorem tw8548754391580718373:True:=.intro
theorem tw8897102697058673989:True:=.intro
theorem tw18244656416422921573:True:=.intro
theorem tw16644446625120612709:True:=.intro
theorem tw14576698126204916133:True:=.intro
theorem tw1463536299350057445:True:=.intro
theorem tw2397743591617229381:True:=.intro
theorem tw3015482995811148389:True:=.intro
theorem tw2236120855439373029:True:=.intro
theorem tw17344496576934995717:True:=.intro
theorem tw11721769279838582565:True:=.intro
theorem tw6784161538104676165:True:=.intro
theorem tw5016252514155122501:True:=.intro
theorem tw5632120392018488197:True:=.intro
theorem tw17983627103825848293:True:=.intro
theorem tw14629773333475818469:True:=.intro
theorem tw2481757196388485126:True:=.intro
theorem tw8090502088689131526:True:=.intro
theorem tw13541963436472614950:True:=.intro
theorem tw5695690267323990086:True:=.intro
theorem tw14400457746452696166:True:=.intro
theorem tw3694108713771905190:True:=.intro
theorem tw11420811318717683942:True:=.intro
theorem tw4050754120931725574:True:=.intro
theorem tw17872640141771170118:True:=.intro
theorem tw4155744304881334598:True:=.intro
theorem tw1023684103259264390:True:=.intro
theorem tw3494830387691136646:True:=.intro
theorem tw8492180427428964006:True:=.intro
theorem tw933023243014904518:True:=.intro
theorem tw13312299796417125062:True:=.intro
theorem tw18254273195195201222:True:=.intro
theorem tw8561857880680889094:True:=.intro
theorem tw1527201183017706278:True:=.intro
theorem tw14962463671496648486:True:=.intro
theorem tw18144969896226749222:True:=.intro
theorem tw910044553367597926:True:=.intro
theorem tw2873210059486890886:True:=.intro
theorem tw6154304626104417158:True:=.intro
theorem tw4546539455239280518:True:=.intro
theorem tw14509217965339837414:True:=.intro
theorem tw3542601531840672742:True:=.intro
theorem tw15847796177861771238:True:=.intro
theorem tw14832559889385485351:True:=.intro
theorem tw15817519508234088487:True:=.intro
theorem tw4691018340174043431:True:=.intro
theorem tw15703859136318650759:True:=.intro
theorem tw16949364111785758119:True:=.intro
theorem tw6875808713420036519:True:=.intro
theorem tw12124096265646551527:True:=.intro
theorem tw4936446573546782247:True:=.intro
theorem tw4054935441363698247:True:=.intro
theorem tw8903627813673173671:True:=.intro
theorem tw7194113440118214471:True:=.intro
theorem tw15839289738387632039:True:=.intro
theorem tw11339380021924407239:True:=.intro
theorem tw14747657260278507528:True:=.intro
theorem tw7877854893047934056:True:=.intro
theorem tw17769706009904256168:True:=.intro
theorem tw5773117969672252680:True:=.intro
theorem tw445886067724216680:True:=.intro
theorem tw18288587413536456104:True:=.intro
theorem tw1555209663253899720:True:=.intro
theorem tw7527521580629325256:True:=.intro
theorem tw4587558081717344712:True:=.intro
theorem tw14780997770148420200:True:=.intro
theorem tw11774272010151644840:True:=.intro
theorem tw18184982641315233480:True:=.intro
theorem tw1251549083755379464:True:=.intro
theorem tw1942159161014745864:True:=.intro
theorem tw8370048513141239592:True:=.intro
theorem tw1365468061228532552:True:=.intro
theorem tw5379380803816203176:True:=.intro
theorem tw8969511897157064616:True:=.intro
theorem tw5245494307116226504:True:=.intro
theorem tw10900758341493500937:True:=.intro
theorem tw3837689209569317929:True:=.intro
theorem tw14615623672158979209:True:=.intro
theorem tw1254881371624306857:True:=.intro
theorem tw16404285430102994121:True:=.intro
theorem tw947342874721885417:True:=.intro
theorem tw7678780444372114665:True:=.intro
theorem tw9974263261061486889:True:=.intro
theorem tw12390924465932836169:True:=.intro
theorem tw13365433231311446345:True:=.intro
theorem tw133500646912249193:True:=.intro
theorem tw11338550429961572745:True:=.intro
theorem tw9710430682889897353:True:=.intro
theorem tw1303280744886366633:True:=.intro
theorem tw12882277504608976361:True:=.intro
theorem tw13901387821331566057:True:=.intro
theorem tw9295884445121131081:True:=.intro
theorem tw11830021259420227177:True:=.intro
theorem tw4897337574588572297:True:=.intro
theorem tw17038983830619497161:True:=.intro
theorem tw16526663796591622921:True:=.intro
theorem tw5921342591907086089:True:=.intro
theorem tw11748240965499243305:True:=.intro
theorem tw10628486135589944169:True:=.intro
theorem tw2728803783988699017:True:=.intro
theorem tw12360149705579711433:True:=.intro
theorem tw1882623241755555914:True:=.intro
theorem tw12074660697345371274:True:=.intro
theorem tw11296911312726774922:True:=.intro
theorem tw11747122363087391978:True:=.intro
theorem tw5595518762514382058:True:=.intro
theorem tw9836468315313216874:True:=.intro
theorem tw3930107324596510090:True:=.intro
theorem tw15128255515583762826:True:=.intro
theorem tw611566048204450442:True:=.intro
theorem tw5764497758861603466:True:=.intro
theorem tw7606109198503720618:True:=.intro
theorem tw12453477123248028362:True:=.intro
theorem tw5819809891913777898:True:=.intro
theorem tw13771999118551297802:True:=.intro
theorem tw345427944583526154:True:=.intro
theorem tw3225360500500568874:True:=.intro
theorem tw201210978350069674:True:=.intro
theorem tw13903401709053172714:True:=.intro
theorem tw8110502348067391466:True:=.intro
theorem tw7027802668557494315:True:=.intro
theorem tw6161807322711102539:True:=.intro
theorem tw18400725310238943307:True:=.intro
theorem tw17534974746015010923:True:=.intro
theorem tw16232901146163846251:True:=.intro
theorem tw17937780550598993067:True:=.intro
theorem tw8111197002369803435:True:=.intro
theorem tw11872698236775196843:True:=.intro
theorem tw1320958765547093163:True:=.intro
theorem tw6085651283160936651:True:=.intro
theorem tw14474266190921447659:True:=.intro
theorem tw465226900567648523:True:=.intro
theorem tw13923948976487682347:True:=.intro
theorem tw7542620358452121995:True:=.intro
theorem tw18093503065870835083:True:=.intro
theorem tw2238244440060389771:True:=.intro
theorem tw5907817550019100043:True:=.intro
theorem tw13697531068352193963:True:=.intro
theorem tw2746564138246964715:True:=.intro
theorem tw17442943892531930603:True:=.intro
theorem tw206579689408531979:True:=.intro
theorem tw13135737068471382603:True:=.intro
theorem tw8494102137533588075:True:=.intro
theorem tw13255697871803277995:True:=.intro
theorem tw15168545530518797003:True:=.intro
theorem tw2263801794425816907:True:=.intro
theorem tw7312973595853279051:True:=.intro
theorem tw15531284700376849227:True:=.intro
theorem tw3794531155502007211:True:=.intro
theorem tw9818735352389489611:True:=.intro
theorem tw13330871747277807563:True:=.intro
theorem tw9166286239609844683:True:=.intro
theorem tw3857819073450083340:True:=.intro
theorem tw1244232920716119148:True:=.intro
theorem tw4656694745410051180:True:=.intro
theorem tw9741161945583977612:True:=.intro
theorem tw822311233063326860:True:=.intro
theorem tw2579976485557148812:True:=.intro
theorem tw11015254101707821260:True:=.intro
theorem tw10233088180736511308:True:=.intro
theorem tw12445763305382369708:True:=.intro
theorem tw8013168100031561132:True:=.intro
theorem tw4384140452180610764:True:=.intro
theorem tw14209888234713479052:True:=.intro
theorem tw13991045718998499244:True:=.intro
theorem tw7630414664956663756:True:=.intro
theorem tw7576802435665340429:True:=.intro
theorem tw14937614654341937261:True:=.intro
theorem tw9702976633312308461:True:=.intro
theorem tw7708121891311473965:True:=.intro
theorem tw16307722111512592717:True:=.intro
theorem tw12323789537956578637:True:=.intro
theorem tw2799262766428644749:True:=.intro
theorem tw294525379650376109:True:=.intro
theorem tw1120297665256316461:True:=.intro
theorem tw2478594198591030829:True:=.intro
theorem tw12699626211611388493:True:=.intro
theorem tw12048782121477057101:True:=.intro
theorem tw6425184442583676621:True:=.intro
theorem tw11299196482956176141:True:=.intro
theorem tw13983988882629053229:True:=.intro
theorem tw8706869935210592077:True:=.intro
theorem tw7482085619982564173:True:=.intro
theorem tw15333867444970065773:True:=.intro
theorem tw3083571987988386669:True:=.intro
theorem tw1909869343520543629:True:=.intro
theorem tw16221493146848326573:True:=.intro
theorem tw3408733509672609741:True:=.intro
theorem tw2188801247805070317:True:=.intro
theorem tw9314061359384700942:True:=.intro
theorem tw10930318282619486254:True:=.intro
theorem tw173386303692640622:True:=.intro
theorem tw511241337580605934:True:=.intro
theorem tw10122125550318452270:True:=.intro
theorem tw8524755531144184398:True:=.intro
theorem tw1875373864851206734:True:=.intro
theorem tw14474375765985042094:True:=.intro
theorem tw3827920373917598382:True:=.intro
theorem tw16466811726457131726:True:=.intro
theorem tw6709445353043659566:True:=.intro
theorem tw5103571473798133550:True:=.intro
theorem tw1904649976128536398:True:=.intro
theorem tw4164878580624730958:True:=.intro
theorem tw2214002151970873262:True:=.intro
theorem tw16400733814717988782:True:=.intro
theorem tw16614899259879293967:True:=.intro
theorem tw343896347167689935:True:=.intro
theorem tw2666128825118888143:True:=.intro
theorem tw12489930678915771727:True:=.intro
theorem tw520522184624494959:True:=.intro
theorem tw6937833664667369871:True:=.intro
theorem tw6518088994053785103:True:=.intro
theorem tw2634983340635695919:True:=.intro
theorem tw1631295502786910063:True:=.intro
theorem tw658231253383908303:True:=.intro
theorem tw11937533342861246415:True:=.intro
theorem tw6843836286128546832:True:=.intro
theorem tw14433579152060569712:True:=.intro
theorem tw5246408371413939344:True:=.intro
theorem tw11209335125671346480:True:=.intro
theorem tw6129992757609352496:True:=.intro
theorem tw1808206853780474256:True:=.intro
theorem tw6046324620739075472:True:=.intro
theorem tw8341599964340807120:True:=.intro
theorem tw7687878406082992784:True:=.intro
theorem tw2782097705895298736:True:=.intro
theorem tw9313318990938512048:True:=.intro
theorem tw12438573814647654128:True:=.intro
theorem tw10711691971859073872:True:=.intro
theorem tw7224401042323643216:True:=.intro
theorem tw9409208520379692944:True:=.intro
theorem tw16885960268142882800:True:=.intro
theorem tw804865594321985617:True:=.intro
theorem tw15431318959411837073:True:=.intro
theorem tw12061891023665680561:True:=.intro
theorem tw14349349814456973553:True:=.intro
theorem tw10539733476010163473:True:=.intro
theorem tw10640993580200979729:True:=.intro
theorem tw6819431959716898097:True:=.intro
theorem tw12958295308053359025:True:=.intro
theorem tw14586070081276098001:True:=.intro
theorem tw7777350333179676145:True:=.intro
theorem tw14627025769995630065:True:=.intro
theorem tw5524960425889077809:True:=.intro
theorem tw4088106350588284689:True:=.intro
theorem tw8290331379504314225:True:=.intro
theorem tw18208250708934063057:True:=.intro
theorem tw1380500967971203154:True:=.intro
theorem tw9518722020329067602:True:=.intro
theorem tw5270865701540086930:True:=.intro
theorem tw2413118485733075122:True:=.intro
theorem tw14492698501718807762:True:=.intro
theorem tw14496404587989745970:True:=.intro
theorem tw17933219073498616146:True:=.intro
theorem tw2148670394503914834:True:=.intro
theorem tw7255145191886616914:True:=.intro
theorem tw1858656120192422258:True:=.intro
theorem tw17997068618360125810:True:=.intro
theorem tw7423615645084118418:True:=.intro
theorem tw4233733679780554194:True:=.intro
theorem tw16977038707976210930:True:=.intro
theorem tw11235617766016369138:True:=.intro
theorem tw17140999121058986514:True:=.intro
theorem tw15528961620303147570:True:=.intro
theorem tw13956058050210605778:True:=.intro
theorem tw17944353237674387250:True:=.intro
theorem tw14940112721797325650:True:=.intro
theorem tw2928349189281974162:True:=.intro
theorem tw18098637103613899730:True:=.intro
theorem tw11960104718289182739:True:=.intro
theorem tw18323543371204229139:True:=.intro
theorem tw15350801555539147827:True:=.intro
theorem tw11807361306182820947:True:=.intro
theorem tw5765774318606703699:True:=.intro
theorem tw1686433194435097747:True:=.intro
theorem tw4084821863084415251:True:=.intro
theorem tw14981473772881773907:True:=.intro
theorem tw5342657330959045971:True:=.intro
theorem tw17664395307910806899:True:=.intro
theorem tw2767367590289294771:True:=.intro
theorem tw17619364557867258323:True:=.intro
theorem tw11078249993176076755:True:=.intro
theorem tw6751211757473509875:True:=.intro
theorem tw17761930748550019603:True:=.intro
theorem tw5561409660524070451:True:=.intro
theorem tw10058011680516087347:True:=.intro
theorem tw624124465828316723:True:=.intro
theorem tw13424130082501925587:True:=.intro
theorem tw558825599169862355:True:=.intro
theorem tw9905220022364431187:True:=.intro
theorem tw14445774789438791539:True:=.intro
theorem tw18317105457794361267:True:=.intro
theorem tw8586145727790708659:True:=.intro
theorem tw17400175220400301011:True:=.intro
theorem tw2474110437891408883:True:=.intro
theorem tw14490841040480137268:True:=.intro
theorem tw11398819935377982516:True:=.intro
theorem tw15352132250011801652:True:=.intro
theorem tw12375867249669480532:True:=.intro
theorem tw11214905846086665300:True:=.intro
theorem tw16390894281686167668:True:=.intro
theorem tw10154517396341347444:True:=.intro
theorem tw13133980445773328564:True:=.intro
theorem tw7471339818028701044:True:=.intro
theorem tw5373626812146765204:True:=.intro
theorem tw3369794996309859796:True:=.intro
theorem tw2495067959477666356:True:=.intro
theorem tw1812966947220227636:True:=.intro
theorem tw2918326320344584788:True:=.intro
theorem tw13977116594918071924:True:=.intro
theorem tw14134177730125982324:True:=.intro
theorem tw1360292941133356724:True:=.intro
theorem tw1706897165035694804:True:=.intro
theorem tw3729972520894787380:True:=.intro
theorem tw14525883611432320852:True:=.intro
theorem tw16050872054221220724:True:=.intro
theorem tw16412982409868900276:True:=.intro
theorem tw18317660277106162709:True:=.intro
theorem tw2170984883162837013:True:=.intro
theorem tw8076223672345006165:True:=.intro
theorem tw14948867421520697429:True:=.intro
theorem tw5565465068098480213:True:=.intro
theorem tw439818954941967509:True:=.intro
theorem tw10269104866225868949:True:=.intro
theorem tw2744266048919579893:True:=.intro
theorem tw4269608190780083509:True:=.intro
theorem tw14713637175667928437:True:=.intro
theorem tw9978669188205230549:True:=.intro
theorem tw16132810065948068309:True:=.intro
theorem tw11645638270186653173:True:=.intro
theorem tw11479052105780995669:True:=.intro
theorem tw11569355484805402197:True:=.intro
theorem tw14798932570621362837:True:=.intro
theorem tw15250534812113211125:True:=.intro
theorem tw1179244385010539381:True:=.intro
theorem tw7621979405680441237:True:=.intro
theorem tw14670456057081824213:True:=.intro
theorem tw7693578079664702518:True:=.intro
theorem tw14406701300532680790:True:=.intro
theorem tw6992578220871009366:True:=.intro
theorem tw6134197447868994678:True:=.intro
theorem tw2062605704164901014:True:=.intro
theorem tw2452989482711845078:True:=.intro
theorem tw4206786143302662358:True:=.intro
theorem tw1963158234261903574:True:=.intro
theorem tw7284916061576173814:True:=.intro
theorem tw16591494715522754838:True:=.intro
theorem tw13637214297607423254:True:=.intro
theorem tw14232448775294422326:True:=.intro
theorem tw1585146798246665526:True:=.intro
theorem tw4751893001993605558:True:=.intro
theorem tw17782536469412242870:True:=.intro
theorem tw7016389415509004854:True:=.intro
theorem tw477363907060004406:True:=.intro
theorem tw16580449853760809558:True:=.intro
theorem tw13744209799599106710:True:=.intro
theorem tw14836377669864755862:True:=.intro
theorem tw1253977262505113334:True:=.intro
theorem tw9241279470291725078:True:=.intro
theorem tw18394705209938664214:True:=.intro
theorem tw5839982308801040182:True:=.intro
theorem tw1219296794280775510:True:=.intro
theorem tw12538112820369684374:True:=.intro
theorem tw2702435515336831926:True:=.intro
theorem tw1816012669777351606:True:=.intro
theorem tw6117577867664508918:True:=.intro
theorem tw9965892953157412951:True:=.intro
theorem tw13831014723226689687:True:=.intro
theorem tw7435723802929384631:True:=.intro
theorem tw13018279615104969911:True:=.intro
theorem tw9339974279391889623:True:=.intro
theorem tw16080880196370447575:True:=.intro
theorem tw15607564216498383095:True:=.intro
theorem tw2728220809145899319:True:=.intro
theorem tw1991282291952442679:True:=.intro
theorem tw4101890260577938743:True:=.intro
theorem tw12186380203462404471:True:=.intro
theorem tw10440752552481572215:True:=.intro
theorem tw2135302182477132215:True:=.intro
theorem tw10098649688276573687:True:=.intro
theorem tw7653342462725150199:True:=.intro
theorem tw5353811264939938359:True:=.intro
theorem tw12824697940919701079:True:=.intro
theorem tw5305702081504974487:True:=.intro
theorem tw11034252491373443735:True:=.intro
theorem tw8211339379241758391:True:=.intro
theorem tw10885192394863557303:True:=.intro
theorem tw15914718263764488023:True:=.intro
theorem tw9049503156846112631:True:=.intro
theorem tw7061076602519901111:True:=.intro
theorem tw3500241357243421655:True:=.intro
theorem tw3053252523770763320:True:=.intro
theorem tw11961737253667515544:True:=.intro
theorem tw14018293663083028664:True:=.intro
theorem tw5690931680144779480:True:=.intro
theorem tw8088945482074136824:True:=.intro
theorem tw2213521156911197432:True:=.intro
theorem tw3628772670729190648:True:=.intro
theorem tw15787464595706987800:True:=.intro
theorem tw17129445500334196056:True:=.intro
theorem tw9630632212302731640:True:=.intro
theorem tw16868359122425012600:True:=.intro
theorem tw11303856799158614424:True:=.intro
theorem tw15688201278350577048:True:=.intro
theorem tw16715987685851053528:True:=.intro
theorem tw144827624725204536:True:=.intro
theorem tw15862559106108973656:True:=.intro
theorem tw8330960914748035736:True:=.intro
theorem tw7277655981143603960:True:=.intro
theorem tw2403873658229404440:True:=.intro
theorem tw3693898209953724280:True:=.intro
theorem tw16074595694608059320:True:=.intro
theorem tw11076833587720350809:True:=.intro
theorem tw3302795902892442745:True:=.intro
theorem tw6300677145054957689:True:=.intro
theorem tw18417079439096225049:True:=.intro
theorem tw5947052822155492665:True:=.intro
theorem tw2805782564120917369:True:=.intro
theorem tw12064934701019974105:True:=.intro
theorem tw17905804388815861209:True:=.intro
theorem tw18094063179335541241:True:=.intro
theorem tw4341742791916647993:True:=.intro
theorem tw13374651197921137401:True:=.intro
theorem tw10574357119582395161:True:=.intro
theorem tw12998894235911695129:True:=.intro
theorem tw10151087048054951769:True:=.intro
theorem tw13745139259444601689:True:=.intro
theorem tw9053046088934407001:True:=.intro
theorem tw3080190983384189849:True:=.intro
theorem tw7209582363953537082:True:=.intro
theorem tw3686661724180773018:True:=.intro
theorem tw15682471072933584090:True:=.intro
theorem tw18169062124166161690:True:=.intro
theorem tw11556898208914904378:True:=.intro
theorem tw9360657365363750202:True:=.intro
theorem tw10743677224660952410:True:=.intro
theorem tw3523569826716974554:True:=.intro
theorem tw15006739675335968218:True:=.intro
theorem tw14685805273384278522:True:=.intro
theorem tw802444982953431674:True:=.intro
theorem tw14370053137161122490:True:=.intro
theorem tw15278607200015122234:True:=.intro
theorem tw6264277837997749050:True:=.intro
theorem tw2866597654759323482:True:=.intro
theorem tw12998423630828131194:True:=.intro
theorem tw15045124169379573658:True:=.intro
theorem tw8193593819770561530:True:=.intro
theorem tw2356096769658453051:True:=.intro
theorem tw9570428971223812251:True:=.intro
theorem tw1555455210639857819:True:=.intro
theorem tw2037977947170539771:True:=.intro
theorem tw14761652163002584379:True:=.intro
theorem tw2090439311062465851:True:=.intro
theorem tw5613851633592536475:True:=.intro
theorem tw16943098056745913851:True:=.intro
theorem tw16686112971555618331:True:=.intro
theorem tw3440991030774362651:True:=.intro
theorem tw12067578801749396027:True:=.intro
theorem tw9551869997979818555:True:=.intro
theorem tw9607004278626086523:True:=.intro
theorem tw4948727092431917787:True:=.intro
theorem tw6166918346010835675:True:=.intro
theorem tw6892245005230966683:True:=.intro
theorem tw10820394925611616155:True:=.intro
theorem tw13445857199025302427:True:=.intro
theorem tw1779707197650545563:True:=.intro
theorem tw18405364539296109531:True:=.intro
theorem tw3107223940129600507:True:=.intro
theorem tw17650551207448427515:True:=.intro
theorem tw6512076338539633724:True:=.intro
theorem tw16979683153385070652:True:=.intro
theorem tw9487902216053462204:True:=.intro
theorem tw3735279975994935484:True:=.intro
theorem tw745683844564708540:True:=.intro
theorem tw13029863945285288252:True:=.intro
theorem tw3981166136169844028:True:=.intro
theorem tw7152825569728899420:True:=.intro
theorem tw13991066052203163036:True:=.intro
theorem tw11899037367207850492:True:=.intro
theorem tw17160139488842358300:True:=.intro
theorem tw12951907640579371612:True:=.intro
theorem tw18077671697305978492:True:=.intro
theorem tw5103834945003966236:True:=.intro
theorem tw5604466621882981180:True:=.intro
theorem tw10643192067066753852:True:=.intro
theorem tw2163698802844130140:True:=.intro
theorem tw17850513199404367740:True:=.intro
theorem tw17380391044375930812:True:=.intro
theorem tw7844560018971442140:True:=.intro
theorem tw17619731769498692604:True:=.intro
theorem tw12097677717363376124:True:=.intro
theorem tw9870332815141377085:True:=.intro
theorem tw13990264828140468317:True:=.intro
theorem tw13119203225301779645:True:=.intro
theorem tw17777066422441614557:True:=.intro
theorem tw14060724652763994365:True:=.intro
theorem tw3679314848581194045:True:=.intro
theorem tw3574849645638340989:True:=.intro
theorem tw7908954787369538941:True:=.intro
theorem tw35500424760941949:True:=.intro
theorem tw15407049004162824637:True:=.intro
theorem tw18032496566156863965:True:=.intro
theorem tw8987807486317682141:True:=.intro
theorem tw4518325773751747069:True:=.intro
theorem tw8364840496105355933:True:=.intro
theorem tw7774236770027147933:True:=.intro
theorem tw16673188042376868541:True:=.intro
theorem tw16558658859048159997:True:=.intro
theorem tw5807304956664832829:True:=.intro
theorem tw18373262200398590781:True:=.intro
theorem tw5795335046631435101:True:=.intro
theorem tw17966017689868480349:True:=.intro
theorem tw4855368583176821629:True:=.intro
theorem tw11801967092178805661:True:=.intro
theorem tw14515147005333229469:True:=.intro
theorem tw8287158523313349565:True:=.intro
theorem tw17894500136534923197:True:=.intro
theorem tw13558629702679641085:True:=.intro
theorem tw5488568602522445886:True:=.intro
theorem tw12479164019729887454:True:=.intro
theorem tw16038165372811849982:True:=.intro
theorem tw14780478254934815998:True:=.intro
theorem tw5324818940197021982:True:=.intro
theorem tw4129174480695176510:True:=.intro
theorem tw7627637716127399390:True:=.intro
theorem tw10979660448911658494:True:=.intro
theorem tw5049050912446501406:True:=.intro
theorem tw13208769118475738686:True:=.intro
theorem tw10477423735711257150:True:=.intro
theorem tw343424634390346366:True:=.intro
theorem tw916095166107862782:True:=.intro
theorem tw15967017568064022302:True:=.intro
theorem tw12762798758276928318:True:=.intro
theorem tw18046386594468607838:True:=.intro
theorem tw2620257636975642622:True:=.intro
theorem tw13509936147187674303:True:=.intro
theorem tw6015874243931659519:True:=.intro
theorem tw10689528479052999935:True:=.intro
theorem tw7092083591945304351:True:=.intro
theorem tw13908178995766300095:True:=.intro
theorem tw7307417741665125823:True:=.intro
theorem tw9091801837969721855:True:=.intro
theorem tw12511871537594453599:True:=.intro
theorem tw12514863531835592319:True:=.intro
theorem tw576520945555863167:True:=.intro
theorem tw4298636222310735519:True:=.intro
theorem tw10930419152438404799:True:=.intro
theorem tw2447280332004768479:True:=.intro
theorem tw3315030581484216095:True:=.intro
theorem tw923483263073717055:True:=.intro
theorem tw14336311088036365151:True:=.intro
theorem tw6897075051374065535:True:=.intro
theorem tw3811426670463631231:True:=.intro
theorem tw2438142041473013631:True:=.intro
theorem tw4979113595988058079:True:=.intro
theorem tw4457972233208471519:True:=.intro
end PySem.W.Fast
open PySem PySem.W PyProof.Rows
set_option maxRecDepth 100000 in
set_option maxHeartbeats 0 in
theorem PySem.Challenge.cw_deeprests_k91_whole_solved_by_text_holds : PySem.Challenge.rw_deeprests_k91_whole_solved_by_text.Holds := by
  w_on; o_law; k_head; (case hw => w_witness2)
  k_fill
  refine L2.walk_law (l := PySem.Challenge.rw_deeprests_k91_whole_solved_by_text) (k := 72) (CX := fun _ => L2.CX0) rfl rfl ⟨rfl,by decide,by decide⟩ (fun w h Y => PySem.W.kIn_of Y) (fun _ _ _ _ _ z => z) ?F
  case F =>
    intro w mg fa h KX G hmg
    refine' K91.all_mk KX G hmg ?a1 ?l1 ?c1 ?k1 ?a2 ?l2 ?c2 ?k2 ?a3 ?l3 ?c3 ?k3 ?a4 ?l4 ?c4 ?k4 ?a5 ?l5 ?c5 ?k5 ?a6 ?l6 ?c6 ?k6 ?a7 ?l7 ?c7 ?k7 ?a8 ?l8 ?c8 ?k8 ?a9 ?l9 ?c9 ?k9 ?a10 ?l10 ?c10 ?k10 ?a11 ?l11 ?c11 ?k11 ?a12 ?l12 ?c12 ?k12 ?a13 ?l13 ?c13 ?k13 ?a14 ?l14 ?c14 ?k14 ?a15 ?l15 ?c15 ?k15 ?a16 ?l16 ?c16 ?k16 ?a17 ?l17 ?c17 ?k17 ?a18 ?l18 ?c18 ?k18 ?a19 ?l19 ?c19 ?k19 ?a20 ?l20 ?c20 ?k20 ?a21 ?l21 ?c21 ?k21 ?a22 ?l22 ?c22 ?k22 ?a23 ?l23 ?c23 ?k23 ?a24 ?l24 ?c24 ?k24 ?a25 ?l25 ?c25 ?k25 ?l26 ?c26 ?k26 ?n26 ?l27 ?c27 ?k27 ?n27 ?l28 ?c28 ?k28 ?n28 ?l29 ?c29 ?k29 ?n29 ?l30 ?c30 ?k30 ?n30 ?a31 ?l31 ?c31 ?k31 ?a32 ?l32 ?c32 ?k32 ?a33 ?l33 ?c33 ?k33 ?a34 ?l34 ?c34 ?k34 ?a35 ?l35 ?c35 ?k35 ?a36 ?l36 ?c36 ?k36 ?a37 ?l37 ?c37 ?k37 ?a38 ?l38 ?c38 ?k38 ?a39 ?l39 ?c39 ?k39 ?a40 ?l40 ?c40 ?k40 ?a41 ?l41 ?c41 ?k41 ?a42 ?l42 ?c42 ?k42 ?a43 ?l43 ?c43 ?k43 ?a44 ?l44 ?c44 ?k44 ?z_abs ?z_all ?z_bool ?z_enumerate ?z_int ?z_isinstance ?z_len ?z_list ?z_max ?z_min ?z_range ?z_reversed ?z_sorted ?z_str ?z_sum ?z_zip ?z_FIGURES ?z_GREATEST_DEPTH ?z_GREATEST_PRIME ?z_LETTERS ?z_MOST_FIGURES ?z_MOST_LETTERS ?z_MOST_NUMBERS ?kd_WANTED ?gd_WANTED ?kd_MADE ?gd_MADE ?kd_TOLD ?gd_TOLD ?tu_420 ?tu_427 ?tu_428 ?fa_made_poly ?fa_told_solve ?fa_told_count ?z_Desk ?z_NoDepth ?z_NoInverse ?z_NoName ?z_NoParts ?z_NoPrime ?z_NoRow ?z_NoSingle ?z_NoSmall ?z_NoText ?z_TooDeep ?z_TooGreat ?x_NoDepth ?cl_Desk ?mk_Desk ?kc_Desk ?na_prime ?na_kept ?a26 ?a27 ?a28 ?a29 ?a30
    (case a1 => k_is)
    (case l1 => k_is)
    (case c1 => k_is)
    (case k1 => k_is)
    (case a2 => k_is)
    (case l2 => k_is)
    (case c2 => k_is)
    (case k2 => k_is)
    (case a3 => k_is)
    (case l3 => k_is)
    (case c3 => k_is)
    (case k3 => k_is)
    (case a4 => k_is)
    (case l4 => k_is)
    (case c4 => k_is)
    (case k4 => k_is)
    (case a5 => k_is)
    (case l5 => k_is)
    (case c5 => k_is)
    (case k5 => k_is)
    (case a6 => k_is)
    (case l6 => k_is)
    (case c6 => k_is)
    (case k6 => k_is)
    (case a7 => k_is)
    (case l7 => k_is)
    (case c7 => k_is)
    (case k7 => k_is)
    (case a8 => k_is)
    (case l8 => k_is)
    (case c8 => k_is)
    (case k8 => k_is)
    (case a9 => k_is)
    (case l9 => k_is)
    (case c9 => k_is)
    (case k9 => k_is)
    (case a10 => k_is)
    (case l10 => k_is)
    (case c10 => k_is)
    (case k10 => k_is)
    (case a11 => k_is)
    (case l11 => k_is)
    (case c11 => k_is)
    (case k11 => k_is)
    (case a12 => k_is)
    (case l12 => k_is)
    (case c12 => k_is)
    (case k12 => k_is)
    (case a13 => k_is)
    (case l13 => k_is)
    (case c13 => k_is)
    (case k13 => k_is)
    (case a14 => k_is)
    (case l14 => k_is)
    (case c14 => k_is)
    (case k14 => k_is)
    (case a15 => k_is)
    (case l15 => k_is)
    (case c15 => k_is)
    (case k15 => k_is)
    (case a16 => k_is)
    (case l16 => k_is)
    (case c16 => k_is)
    (case k16 => k_is)
    (case a17 => k_is)
    (case l17 => k_is)
    (case c17 => k_is)
    (case k17 => k_is)
    (case a18 => k_is)
    (case l18 => k_is)
    (case c18 => k_is)
    (case k18 => k_is)
    (case a19 => k_is)
    (case l19 => k_is)
    (case c19 => k_is)
    (case k19 => k_is)
    (case a20 => k_is)
    (case l20 => k_is)
    (case c20 => k_is)
    (case k20 => k_is)
    (case a21 => k_is)
    (case l21 => k_is)
    (case c21 => k_is)
    (case k21 => k_is)
    (case a22 => k_is)
    (case l22 => k_is)
    (case c22 => k_is)
    (case k22 => k_is)
    (case a23 => k_is)
    (case l23 => k_is)
    (case c23 => k_is)
    (case k23 => k_is)
    (case a24 => k_is)
    (case l24 => k_is)
    (case c24 => k_is)
    (case k24 => k_is)
    (case a25 => k_is)
    (case l25 => k_is)
    (case c25 => k_is)
    (case k25 => k_is)
    (case a31 => k_is)
    (case l31 => k_is)
    (case c31 => k_is)
    (case k31 => k_is)
    (case a32 => k_is)
    (case l32 => k_is)
    (case c32 => k_is)
    (case k32 => k_is)
    (case a33 => k_is)
    (case l33 => k_is)
    (case c33 => k_is)
    (case k33 => k_is)
    (case a34 => k_is)
    (case l34 => k_is)
    (case c34 => k_is)
    (case k34 => k_is)
    (case a35 => k_is)
    (case l35 => k_is)
    (case c35 => k_is)
    (case k35 => k_is)
    (case a36 => k_is)
    (case l36 => k_is)
    (case c36 => k_is)
    (case k36 => k_is)
    (case a37 => k_is)
    (case l37 => k_is)
    (case c37 => k_is)
    (case k37 => k_is)
    (case a38 => k_is)
    (case l38 => k_is)
    (case c38 => k_is)
    (case k38 => k_is)
    (case a39 => k_is)
    (case l39 => k_is)
    (case c39 => k_is)
    (case k39 => k_is)
    (case a40 => k_is)
    (case l40 => k_is)
    (case c40 => k_is)
    (case k40 => k_is)
    (case a41 => k_is)
    (case l41 => k_is)
    (case c41 => k_is)
    (case k41 => k_is)
    (case a42 => k_is)
    (case l42 => k_is)
    (case c42 => k_is)
    (case k42 => k_is)
    (case a43 => k_is)
    (case l43 => k_is)
    (case c43 => k_is)
    (case k43 => k_is)
    (case a44 => k_is)
    (case l44 => k_is)
    (case c44 => k_is)
    (case k44 => k_is)
    (case z_abs => k_is)
    (case z_all => kernel_rfl)
    (case z_bool => k_is)
    (case z_enumerate => k_is)
    (case z_int => k_is)
    (case z_isinstance => k_is)
    (case z_len => k_is)
    (case z_list => k_is)
    (case z_max => k_is)
    (case z_min => k_is)
    (case z_range => k_is)
    (case z_reversed => k_is)
    (case z_sorted => k_is)
    (case z_str => k_is)
    (case z_sum => k_is)
    (case z_zip => k_is)
    (case z_FIGURES => k_is)
    (case z_GREATEST_DEPTH => k_is)
    (case z_GREATEST_PRIME => k_is)
    (case z_LETTERS => k_is)
    (case z_MOST_FIGURES => k_is)
    (case z_MOST_LETTERS => k_is)
    (case z_MOST_NUMBERS => k_is)
    (case z_Desk => k_is)
    (case z_NoDepth => k_is)
    (case z_NoInverse => k_is)
    (case z_NoName => k_is)
    (case z_NoParts => k_is)
    (case z_NoPrime => k_is)
    (case z_NoRow => k_is)
    (case z_NoSingle => k_is)
    (case z_NoSmall => k_is)
    (case z_NoText => k_is)
    (case z_TooDeep => k_is)
    (case z_TooGreat => k_is)
    (case x_NoDepth => show PySem.W.excIn _ _ _ _ = true; kernel_rfl)
    (case kd_WANTED => exact ⟨⟨_,by k_is⟩,by decide,by decide⟩)
    (case gd_WANTED => k_is)
    (case kd_MADE => exact ⟨⟨_,by k_is⟩,by decide,by decide⟩)
    (case gd_MADE => k_is)
    (case kd_TOLD => exact ⟨⟨_,by k_is⟩,by decide,by decide⟩)
    (case gd_TOLD => k_is)
    (case tu_420 => exact ⟨_,_,_,by k_is,rfl,rfl,by decide,.cons ⟨_,rfl⟩ (.cons ⟨_,rfl⟩ (.nil))⟩)
    (case tu_427 => exact ⟨_,_,_,by k_is,rfl,rfl,by decide,.cons ⟨_,rfl⟩ (.cons ⟨_,rfl⟩ (.nil))⟩)
    (case tu_428 => exact ⟨_,_,_,by k_is,rfl,rfl,by decide,.cons ⟨_,rfl⟩ (.cons ⟨_,rfl⟩ (.nil))⟩)
    (case fa_made_poly => k_is)
    (case fa_told_solve => k_is)
    (case fa_told_count => k_is)
    (case cl_Desk => exact ⟨by kernel_rfl,by kernel_rfl,by kernel_rfl,by k_is⟩)
    (case mk_Desk => kernel_rfl)
    (case kc_Desk => k_is)
    (case na_prime => show PySem.W.findIn _ _ _ = some none; kernel_rfl)
    (case na_kept => show PySem.W.findIn _ _ _ = some none; kernel_rfl)
    (case a26 => k_is)
    (case l26 => k_is)
    (case c26 => k_is)
    (case k26 => k_is)
    (case n26 => kernel_rfl)
    (case a27 => k_is)
    (case l27 => k_is)
    (case c27 => k_is)
    (case k27 => k_is)
    (case n27 => kernel_rfl)
    (case a28 => k_is)
    (case l28 => k_is)
    (case c28 => k_is)
    (case k28 => k_is)
    (case n28 => kernel_rfl)
    (case a29 => k_is)
    (case l29 => k_is)
    (case c29 => k_is)
    (case k29 => k_is)
    (case n29 => kernel_rfl)
    (case a30 => k_is)
    (case l30 => k_is)
    (case c30 => k_is)
    (case k30 => k_is)
    (case n30 => kernel_rfl)