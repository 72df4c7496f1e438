import PyProof.Rows.All
import Wide.All
import OpenK.AllK
import Wide.FinOn
import Lean
import PyProof.EqAt
import PyProof.EqKinds
import PyProof.TupleCall
import PySem.Challenge.RW_deeprests_k82_whole_polynomials_kept
set_option Elab.async false
set_option linter.all false
set_option maxRecDepth 100000
set_option compiler.extract_closed false
namespace L2
open PySem PySem.Spec PyProof.Rows
abbrev Key := Sum Int Str
def keyIs : Key → Value → Bool
  | .inl k, v => Value.isInt k v
  | .inr x, v => Value.isStrOf x v
def keyH (w : World) : Key → Int
  | .inl k => hashInt k
  | .inr x => hashStr w x
theorem keyIs_shape : ∀ {k : Key} {v : Value}, keyIs k v = true → (∃ i t, k = Sum.inl i ∧ v = Value.int i t) ∨ (∃ x t, k = Sum.inr x ∧ v = Value.str x t)
  | .inl i, v, h => by
    obtain ⟨t, e⟩ := Value.isInt_shape (k := i) (v := v) h
    exact .inl ⟨i, t, rfl, e⟩
  | .inr x, v, h => by
    obtain ⟨t, e⟩ := Value.isStrOf_shape (x := x) (v := v) h
    exact .inr ⟨x, t, rfl, e⟩
theorem keyIs_int (i : Int) (t : Tok) : keyIs (.inl i) (.int i t) = true := by simp [keyIs, Value.isInt]
theorem keyIs_str (x : Str) (t : Tok) : keyIs (.inr x) (.str x t) = true := by simp [keyIs, Value.isStrOf]
theorem key_ll (a b : Int) : decide ((Sum.inl a : Key) = Sum.inl b) = (a == b) := by
  by_cases e : a = b
  · subst e; simp
  · have h : ¬ (Sum.inl a : Key) = Sum.inl b := fun q => e (Sum.inl.inj q)
    rw [decide_eq_false h]
    exact (beq_eq_false_iff_ne.mpr e).symm
theorem key_rr (a b : Str) : decide ((Sum.inr a : Key) = Sum.inr b) = decide (a = b) := by
  by_cases e : a = b
  · subst e; simp
  · have h : ¬ (Sum.inr a : Key) = Sum.inr b := fun q => e (Sum.inr.inj q)
    rw [decide_eq_false h, decide_eq_false e]
theorem key_lr (a : Int) (b : Str) : decide ((Sum.inl a : Key) = Sum.inr b) = false := decide_eq_false (fun q => nomatch q)
theorem key_rl (a : Str) (b : Int) : decide ((Sum.inr a : Key) = Sum.inl b) = false := decide_eq_false (fun q => nomatch q)
def mixKind (prog : Program) (w : World) : PySem.KeyKind prog w Key where
  is := keyIs
  hash := keyH w
  inj := fun v a b ha hb => by
    rcases keyIs_shape ha with ⟨i, t, rfl, rfl⟩ | ⟨x, t, rfl, rfl⟩
    · rcases keyIs_shape hb with ⟨j, u, rfl, e⟩ | ⟨y, u, rfl, e⟩
      · injection e with e1 _; rw [e1]
      · exact nomatch e
    · rcases keyIs_shape hb with ⟨j, u, rfl, e⟩ | ⟨y, u, rfl, e⟩
      · exact nomatch e
      · injection e with e1 _; rw [e1]
  byValue := fun k v h => by
    rcases keyIs_shape h with ⟨i, t, rfl, rfl⟩ | ⟨x, t, rfl, rfl⟩ <;> rfl
  pyHash := fun hv h => by
    rcases keyIs_shape hv with ⟨i, t, rfl, rfl⟩ | ⟨x, t, rfl, rfl⟩
    · exact wpAny_pyHash_int h
    · exact wpAny_pyHash_str h
  eqBool := fun hu hv h => by
    rcases keyIs_shape hu with ⟨i, t, rfl, rfl⟩ | ⟨x, t, rfl, rfl⟩
    · rcases keyIs_shape hv with ⟨j, u, rfl, rfl⟩ | ⟨y, u, rfl, rfl⟩
      · rw [key_ll] at h; exact wpAny_eqBool_int h
      · rw [key_lr] at h; exact SeqAt.EqAt.int_str i t y u _ _ _ _ h
    · rcases keyIs_shape hv with ⟨j, u, rfl, rfl⟩ | ⟨y, u, rfl, rfl⟩
      · rw [key_rl] at h; exact SeqAt.EqAt.str_int x t j u _ _ _ _ h
      · rw [key_rr] at h; exact wpAny_eqBool_str h
  «strs» := fun k x t v h => by
    rcases keyIs_shape h with ⟨i, u, rfl, e⟩ | ⟨y, u, rfl, e⟩
    · exact nomatch e
    · injection e with e1 _
      subst e1
      cases v <;> rfl
theorem mixKind_int (prog : Program) (w : World) (i : Int) (t : Tok) : (mixKind prog w).is (.inl i) (.int i t) = true := keyIs_int i t
theorem mixKind_str (prog : Program) (w : World) (x : Str) (t : Tok) : (mixKind prog w).is (.inr x) (.str x t) = true := keyIs_str x t
end L2
namespace L2
open PySem PySem.Spec PyProof.Rows
inductive V where
  | non | bl (b : Bool) | int (i : Int) | str (x : Str) | byt (b : Array UInt8) | flt (b : UInt64) | ref (a : Addr) | ty (n : String)
  deriving DecidableEq
def RelV : V → Value → Prop
  | .non, u => u = Value.none
  | .bl b, u => u = Value.bool b
  | .int i, u => ∃ t, u = Value.int i t
  | .str x, u => ∃ t, u = Value.str x t
  | .byt b, u => ∃ t, u = Value.bytes b t
  | .flt b, u => ∃ t, u = Value.float b t
  | .ref a, u => u = Value.ref a
  | .ty n, u => u = Value.type n
abbrev Vals : List V → List Value → Prop := Paired RelV
theorem Vals.length {xs : List V} {us : List Value} (r : Vals xs us) : xs.length = us.length := Paired.length r
theorem Vals.get : ∀ {xs : List V} {us : List Value} {i : Nat} {x : V}, Vals xs us → xs[i]? = some x → ∃ u, us[i]? = some u ∧ RelV x u
  | _, _, _, _, .nil, e => by simp at e
  | _, _, 0, _, .cons r _, e => by simp at e; subst e; exact ⟨_, rfl, r⟩
  | _, _, i + 1, x, .cons _ t, e => by
    obtain ⟨u, h1, h2⟩ := Vals.get (i := i) (x := x) t (by simpa using e)
    exact ⟨u, by simpa using h1, h2⟩
theorem Vals.set {x : V} {u : Value} (r : RelV x u) : ∀ {xs : List V} {us : List Value} (i : Nat), Vals xs us → Vals (xs.set i x) (us.set i u)
  | _, _, _, .nil => .nil
  | _, _, 0, .cons _ t => .cons r t
  | _, _, i + 1, .cons q t => .cons q (Vals.set r i t)
theorem Vals.append : ∀ {xs ys : List V} {us ws : List Value}, Vals xs us → Vals ys ws → Vals (xs ++ ys) (us ++ ws)
  | _, _, _, _, .nil, s => s
  | _, _, _, _, .cons r t, s => .cons r (Vals.append t s)
theorem Vals.take : ∀ {xs : List V} {us : List Value} (n : Nat), Vals xs us → Vals (xs.take n) (us.take n)
  | _, _, 0, _ => .nil
  | _, _, _ + 1, .nil => .nil
  | _, _, n + 1, .cons r t => .cons r (Vals.take n t)
theorem Vals.drop : ∀ {xs : List V} {us : List Value} (n : Nat), Vals xs us → Vals (xs.drop n) (us.drop n)
  | _, _, 0, r => r
  | _, _, _ + 1, .nil => .nil
  | _, _, n + 1, .cons _ t => Vals.drop n t
def RelO : Option V → Option Value → Prop
  | some v, some u => RelV v u
  | none, none => True
  | _, _ => False
def KV {κ : Type} : List (κ × V) → List (κ × Value) → Prop := Paired fun (p : κ × V) (q : κ × Value) => p.1 = q.1 ∧ RelV p.2 q.2
def kV : Key → V
  | .inl i => .int i
  | .inr x => .str x
inductive HO where
  | lst (xs : List V)
  | tup (xs : List V)
  | dK (kvs : List (Key × V)) | dT (kvs : List (List Key × V))
  | set (S : Int → Bool) (n : Nat)
  | ins (C dx : Addr) (fs : List (Str × V))
  | own (x : Addr)
  | xd (fs : List (Str × V))
  | met (f x : Addr)
  | rng (lo hi : Int)
  | frz (o : Obj) (u : HO)
  | tbl (ps : Array Value)
  | ext (φ : Heap → Prop)
abbrev Hp := Addr → Option HO
def upd (H : Hp) (a : Addr) (o : HO) : Hp := fun b => if b = a then some o else H b
theorem upd_same {H : Hp} {a : Addr} {o : HO} : upd H a o a = some o := by unfold upd; rw [if_pos rfl]
theorem upd_ne {H : Hp} {a b : Addr} {o : HO} (h : b ≠ a) : upd H a o b = H b := by unfold upd; rw [if_neg h]
theorem ne_of {H : Hp} {a b : Addr} {o u : HO} (h : H a = some o) (h' : H b = some u) (d : o ≠ u) : a ≠ b := by
  intro e; subst e; rw [h] at h'; exact d (Option.some.inj h')
theorem ne_of_none {H : Hp} {a b : Addr} {o : HO} (h : H a = some o) (h' : H b = none) : a ≠ b := by
  intro e; subst e; rw [h] at h'; cases h'
section
variable (P : Program) (w : World)
def ObjOk (H : Hp) (h : Heap) (a : Addr) : HO → Prop
  | .lst xs => xs.length ≤ sizeLine ∧ ∃ (its : List Value) (n : Nat), Vals xs its ∧ h.get? a = some { cls := .type "list", data := .seq its.toArray n }
  | .tup xs => xs.length ≤ sizeLine ∧ ∃ its : List Value, Vals xs its ∧ IsTup h a its.toArray
  | .dK kvs => kvs.length ≤ sizeLine ∧ (a == sysModules) = false ∧ ∃ vs, KV kvs vs ∧ h.DictOf (mixKind P w) a vs
  | .dT kvs => kvs.length ≤ sizeLine ∧ (a == sysModules) = false ∧ ∃ xs : List (List Key × Addr × Value),
      Paired (fun (p : List Key × V) (q : List Key × Addr × Value) => p.1 = q.1 ∧ H q.2.1 = some (.tup (p.1.map kV)) ∧ RelV p.2 q.2.2) kvs xs ∧
      ∃ o es ep, h.get? a = some o ∧ o.ExactDict ∧ o.data = .dict es ep ∧ es.toList = xs.map (entryOfKey (tupleKind (mixKind P w))) ∧ (xs.map (·.1)).Nodup
  | .set S n => h.SetOf (intKind P w) a S n
  | .ins C dx fs => H dx = some (.own a) ∧ fs.length ≤ 1000 ∧ dx ≠ a ∧ h.get? a = some (PySem.W.instObj C dx) ∧
      ∃ mA, h.Ns1 dx mA ∧ (∀ f, RelO (fs.lookup f) (mA f)) ∧ PySem.Within mA (fs.map (·.1))
  | .own _ => ∃ o, h.get? a = some o
  | .xd fs => ∃ mA, h.Ns1 a mA ∧ ∀ f, RelO (fs.lookup f) (mA f)
  | .rng lo hi => ∃ t u v, h.get? a = some { cls := .type "range", data := .fields #[.int lo t, .int hi u, .int 1 v] }
  | .frz o u => h.get? a = some o ∧ ObjOk H h a u
  | .tbl ps => h.get? a = some { cls := .none, data := .fields ps }
  | .met f x => h.get? a = some (PySem.W.methodObj (.ref f) (.ref x))
  | .ext φ => φ h ∧ (∃ o, h.get? a = some o) ∧ ∀ h1 h2 : Heap, φ h1 → (∀ o, h1.get? a = some o → h2.get? a = some o) → φ h2
def HOk (H : Hp) (h : Heap) : Prop := ∀ a o, H a = some o → ObjOk P w H h a o
end
section
variable {P : Program} {w : World} {H H' : Hp} {h h' : Heap} {a : Addr} {o : HO}
theorem ObjOk.lt (x : ObjOk P w H h a o) : a < h.objs.size := by
  cases o with
  | lst xs => obtain ⟨_, _, _, _, e⟩ := x; exact Heap.lt_size e
  | tup xs => obtain ⟨_, _, _, p⟩ := x; exact p.lt
  | dK kvs => obtain ⟨_, _, _, _, o, _, _, e, _⟩ := x; exact Heap.lt_size e
  | dT kvs => obtain ⟨_, _, _, _, o, _, _, e, _⟩ := x; exact Heap.lt_size e
  | set S n => obtain ⟨o, _, _, _, e, _⟩ := x; exact Heap.lt_size e
  | ins C dx fs => obtain ⟨_, _, _, e, _⟩ := x; exact Heap.lt_size e
  | own y => obtain ⟨_, e⟩ := x; exact Heap.lt_size e
  | xd fs => obtain ⟨_, ⟨_, _, _, e, _⟩, _⟩ := x; exact Heap.lt_size e
  | rng lo hi => obtain ⟨_, _, _, e⟩ := x; exact Heap.lt_size e
  | frz ob u => obtain ⟨e, _⟩ := x; exact Heap.lt_size e
  | tbl ps => exact Heap.lt_size (show h.get? a = some _ from x)
  | met f y => exact Heap.lt_size (show h.get? a = some _ from x)
  | ext φ => obtain ⟨_, ⟨_, e⟩, _⟩ := x; exact Heap.lt_size e
theorem Paired.mapP {α β : Type} {F G : α → β → Prop} : ∀ {l₁ : List α} {l₂ : List β}, Paired F l₁ l₂ → (∀ a b, F a b → G a b) → Paired G l₁ l₂
  | _, _, .nil, _ => .nil
  | _, _, .cons r t, f => .cons (f _ _ r) (Paired.mapP t f)
theorem ObjOk.stay (x : ObjOk P w H h a o) (k : ∀ b u, (b = a ∨ H b = some (.own a)) → h.get? b = some u → h'.get? b = some u)
    (ho : ∀ b, H b = some (.own a) → H' b = some (.own a)) (ht : ∀ b xs, H b = some (.tup xs) → H' b = some (.tup xs)) : ObjOk P w H' h' a o := by
  induction o with
  | lst xs => obtain ⟨z, its, n, r, e⟩ := x; exact ⟨z, its, n, r, k _ _ (.inl rfl) e⟩
  | tup xs => obtain ⟨z, its, r, ob, e, c⟩ := x; exact ⟨z, its, r, ob, k _ _ (.inl rfl) e, c⟩
  | dK kvs => obtain ⟨z, y, vs, r, ob, es, ep, e, c⟩ := x; exact ⟨z, y, vs, r, ob, es, ep, k _ _ (.inl rfl) e, c⟩
  | dT kvs =>
    obtain ⟨z, y, xs, r, ob, es, ep, e, c⟩ := x
    exact ⟨z, y, xs, Paired.mapP r fun p q z => ⟨z.1, ht _ _ z.2.1, z.2.2⟩, ob, es, ep, k _ _ (.inl rfl) e, c⟩
  | set S n => obtain ⟨ob, es, ep, t, e, c⟩ := x; exact ⟨ob, es, ep, t, k _ _ (.inl rfl) e, c⟩
  | ins C dx fs =>
    obtain ⟨d, z, ne, e, mA, ⟨od, es, ep, e2, c⟩, r⟩ := x
    exact ⟨ho _ d, z, ne, k _ _ (.inl rfl) e, mA, ⟨od, es, ep, k _ _ (.inr d) e2, c⟩, r⟩
  | own y => obtain ⟨ob, e⟩ := x; exact ⟨ob, k _ _ (.inl rfl) e⟩
  | xd fs => obtain ⟨mA, ⟨od, es, ep, e, c⟩, r⟩ := x; exact ⟨mA, ⟨od, es, ep, k _ _ (.inl rfl) e, c⟩, r⟩
  | rng lo hi => obtain ⟨t, u, v, e⟩ := x; exact ⟨t, u, v, k _ _ (.inl rfl) e⟩
  | frz ob u ih => obtain ⟨e, q⟩ := x; exact ⟨k _ _ (.inl rfl) e, ih q⟩
  | tbl ps =>
    have e : h.get? a = some { cls := .none, data := .fields ps } := x
    show h'.get? a = some { cls := .none, data := .fields ps }
    exact k a _ (.inl rfl) e
  | met f y =>
    have e : h.get? a = some (PySem.W.methodObj (.ref f) (.ref y)) := x
    show h'.get? a = some (PySem.W.methodObj (.ref f) (.ref y))
    exact k a _ (.inl rfl) e
  | ext φ => obtain ⟨p, ⟨o, e⟩, st⟩ := x; exact ⟨st _ _ p fun o q => k _ _ (.inl rfl) q, ⟨o, k _ _ (.inl rfl) e⟩, st⟩
theorem HOk.lt (x : HOk P w H h) (e : H a = some o) : a < h.objs.size := (x a o e).lt
theorem HOk.fresh (x : HOk P w H h) (e : h.objs.size ≤ a) : H a = none := by
  cases q : H a with
  | none => rfl
  | some u => exact absurd (Nat.lt_of_lt_of_le (x.lt q) e) (Nat.lt_irrefl _)
theorem HOk.kept (x : HOk P w H h) (k : ∀ b u, h.get? b = some u → h'.get? b = some u) : HOk P w H h' := fun a o e =>
  (x a o e).stay (fun b u _ q => k b u q) (fun _ q => q) fun _ _ q => q
theorem HOk.laid (x : HOk P w H h) (k : ∀ b u, h.get? b = some u → h'.get? b = some u) (hp : h.objs.size ≤ a) (new : ObjOk P w (upd H a o) h' a o) : HOk P w (upd H a o) h' := fun b u e => by
  have hn := x.fresh hp
  by_cases hb : b = a
  · subst hb; rw [upd_same] at e; cases e; exact new
  · rw [upd_ne hb] at e
    exact (x b u e).stay (fun c v _ q => k c v q) (fun c q => by rw [upd_ne (ne_of_none q hn)]; exact q) fun c xs q => by rw [upd_ne (ne_of_none q hn)]; exact q
end
def Rd (H : Hp) (a : Addr) (u : HO) : Prop := H a = some u ∨ ∃ o, H a = some (.frz o u)
theorem Rd.ok {P : Program} {w : World} {H : Hp} {h : Heap} {a : Addr} {u : HO} (r : Rd H a u) (x : HOk P w H h) : ObjOk P w H h a u := by
  rcases r with r | ⟨o, r⟩
  · exact x a u r
  · obtain ⟨_, q⟩ := x a _ r
    exact q
def Mut : Option HO → Prop
  | some (.lst _) => True
  | some (.dK _) => True
  | some (.dT _) => True
  | some (.set _ _) => True
  | some (.ins _ _ _) => True
  | some (.ext _) => True
  | _ => False
section
variable {P : Program} {w : World} {H : Hp} {h h' : Heap} {x e : Addr} {o' : HO}
theorem HOk.write (ok : HOk P w H h) (mu : Mut (H x)) (he : e = x ∨ H e = some (.own x)) (k : ∀ b u, b ≠ e → h.get? b = some u → h'.get? b = some u) (heo : ∃ u, h'.get? e = some u)
    (new : ObjOk P w (upd H x o') h' x o') : HOk P w (upd H x o') h' := fun b u q => by
  have nown : ∀ c y, H c = some (.own y) → c ≠ x := fun c y r z => by subst z; rw [r] at mu; exact mu
  have ntup : ∀ c xs, H c = some (.tup xs) → c ≠ x := fun c xs r z => by subst z; rw [r] at mu; exact mu
  by_cases hb : b = x
  · subst hb; rw [upd_same] at q; cases q; exact new
  · rw [upd_ne hb] at q
    by_cases hbe : b = e
    · have q' : H b = some (.own x) := by
        rcases he with z | z
        · exact absurd (hbe.trans z) hb
        · rw [hbe]; exact z
      rw [q] at q'; cases q'
      obtain ⟨v, hv⟩ := heo
      exact ⟨v, by rw [hbe]; exact hv⟩
    · refine (ok b u q).stay (fun c v hc r => k c v ?_ r) (fun c r => by rw [upd_ne (nown c b r)]; exact r) fun c xs r => by rw [upd_ne (ntup c xs r)]; exact r
      rcases hc with rfl | hc
      · exact hbe
      · rintro rfl
        rcases he with z | z
        · exact nown c b hc z
        · rw [hc] at z; cases z; exact hb rfl
end
structure Un (fs ex : List Addr) (H H' : Hp) (h h' : Heap) : Prop where
  keep : ∀ b o, h.get? b = some o → H b = none → b ∉ fs → b ∉ ex → h'.get? b = some o
  slot : ∀ b o, h.get? b = some o → H b = none → b ∈ fs → b ∉ ex → ∃ sl, h'.get? b = some { o with slots := sl }
  free : ∀ b o, h.get? b = some o → H b = none → b ∉ ex → H' b = none
  there : ∀ b o, h.get? b = some o → b ∉ ex → ∃ o', h'.get? b = some o'
  tups : ∀ b xs, H b = some (.tup xs) → H' b = some (.tup xs)
  frzs : ∀ b o u, H b = some (.frz o u) → H' b = some (.frz o u)
  tbls : ∀ b ps, H b = some (.tbl ps) → ∃ more, H' b = some (.tbl (ps ++ more))
section
variable {fs fs' ex ex' : List Addr} {H H1 H2 : Hp} {h h1 h2 h' : Heap} {a x e : Addr} {o : HO}
theorem Un.any (u : Un fs ex H H1 h h1) {b : Addr} {ob : Obj} (q : h.get? b = some ob) (n : H b = none) (hx : b ∉ ex) : ∃ sl, h1.get? b = some { ob with slots := sl } := by
  by_cases hb : b ∈ fs
  · exact u.slot b ob q n hb hx
  · exact ⟨ob.slots, u.keep b ob q n hb hx⟩
theorem Un.kept (k : ∀ b u, h.get? b = some u → h'.get? b = some u) : Un fs ex H H h h' :=
  ⟨fun b ob q _ _ _ => k b ob q, fun b ob q _ _ _ => ⟨ob.slots, k b ob q⟩, fun _ _ _ n _ => n, fun b ob q _ => ⟨ob, k b ob q⟩, fun _ _ q => q, fun _ _ _ q => q, fun _ ps q => ⟨#[], by rw [q]; simp⟩⟩
theorem Un.refl : Un fs ex H H h h := Un.kept fun _ _ q => q
theorem Un.laid (k : ∀ b u, h.get? b = some u → h'.get? b = some u) (hp : h.objs.size ≤ a) (hn : H a = none) : Un fs ex H (upd H a o) h h' where
  keep := fun b u q _ _ _ => k b u q
  slot := fun b u q _ _ _ => ⟨u.slots, k b u q⟩
  free := fun b u q n _ => by rw [upd_ne (Nat.ne_of_lt (Nat.lt_of_lt_of_le (Heap.lt_size q) hp))]; exact n
  there := fun b u q _ => ⟨u, k b u q⟩
  tups := fun b xs q => by rw [upd_ne (ne_of_none q hn)]; exact q
  frzs := fun b u xs q => by rw [upd_ne (ne_of_none q hn)]; exact q
  tbls := fun b ps q => ⟨#[], by rw [upd_ne (ne_of_none q hn), q]; simp⟩
theorem Un.write (mu : Mut (H x)) (he : e = x ∨ H e = some (.own x)) (k : ∀ b u, b ≠ e → h.get? b = some u → h'.get? b = some u) (heo : ∃ u, h'.get? e = some u) : Un fs ex H (upd H x o) h h' := by
  have hx : ∀ b, H b = none → b ≠ x := fun b n z => by subst z; rw [n] at mu; exact mu
  have hb : ∀ b, H b = none → b ≠ e := fun b n z => by
    subst z
    rcases he with r | r
    · exact hx b n r
    · rw [n] at r; cases r
  have hm : ∀ b u, H b = some u → ¬ Mut (some u) → b ≠ x := fun b u q nm z => by subst z; rw [q] at mu; exact nm mu
  refine ⟨fun b u q n _ _ => k b u (hb b n) q, fun b u q n _ _ => ⟨u.slots, k b u (hb b n) q⟩, fun b u q n _ => by rw [upd_ne (hx b n)]; exact n, fun b u q _ => ?_,
    fun b xs q => by rw [upd_ne (hm b _ q fun z => z)]; exact q, fun b u xs q => by rw [upd_ne (hm b _ q fun z => z)]; exact q, fun b ps q => ⟨#[], by rw [upd_ne (hm b _ q fun z => z), q]; simp⟩⟩
  by_cases hbe : b = e
  · subst hbe; exact heo
  · exact ⟨u, k b u hbe q⟩
end
def trk (h : Heap) (H : Hp) : List Addr := (List.range h.objs.size).filter fun a => (H a).isSome
def hidT (h : Heap) (H : Hp) : Heap := PySem.W.hideAll h (trk h H)
theorem hidT_size (h : Heap) (H : Hp) : (hidT h H).objs.size = h.objs.size := PySem.W.hideAll_size _ _
theorem hidT_get {h : Heap} {H : Hp} {b : Addr} {o : Obj} (e : h.get? b = some o) (n : H b = none) : (hidT h H).get? b = some o :=
  PySem.W.hideAll_get _ e fun hm => by
    have q : (H b).isSome = true := (List.mem_filter.mp hm).2
    rw [n] at q; simp at q
theorem of_hidT {h : Heap} {H : Hp} {b : Addr} {o : Obj} (e : (hidT h H).get? b = some o) : h.get? b = some o ∧ H b = none := by
  have e' : h.get? b = some o := PySem.W.of_hideAll (trk h H) e
  refine ⟨e', ?_⟩
  cases q : H b with
  | none => rfl
  | some x =>
    have hm : b ∈ trk h H := List.mem_filter.mpr ⟨List.mem_range.mpr (Heap.lt_size e'), by simp [q]⟩
    have z : (hidT h H).get? b = none := PySem.W.hideAll_none (trk h H) hm
    rw [z] at e; cases e
def allNews (g h : Heap) (L : Addr) : List (Addr × Obj) := (List.range h.objs.size).filterMap fun a => if a = L ∨ (g.get? a).isSome = true then none else (h.get? a).map fun o => (a, o)
def rest (g h : Heap) (L d : Addr) : List (Addr × Obj) := (allNews g h L).filter fun p => decide (p.1 ≠ d)
end L2
namespace L2
open PySem PySem.Spec PyProof.Rows
structure Mod (K : PySem.W.Frag) (mg : Str → Option Value) (base : Heap) : Prop where
  kin : K.In base
  glob : base.Ns mainGlobals mg
  blt : ∃ mb, base.Ns builtinsNs mb ∧ ∀ x : Str, x ≠ "__name__" → mb x = bootBuiltins x
  nolimit : base.NoLimit
/-- the context: a def's body (or a comprehension's block) running. base: fixed through the whole law; s₀, H₀: the entry; outer: the frames whose slots others may change (a def's callers); stack: all frames that run;
   ex: iterators that were made ahead of the entry and are walked here (a comprehension's); fn: the names whose cells were made at the entry (a def: all; a comprehension's block: its own); calm: not within an except suite; pn: pins that every state bears; xe: what is wanted of an exception that leaves the code -/
structure Cx where
  prog : Program
  w : World
  K : PySem.W.Frag
  mg : Str → Option Value
  base : Heap
  A : Around
  N : List Str
  s₀ : Shared
  H₀ : Hp
  env : Env
  outer : List Env
  stack : List Env
  ex : List Addr
  fn : Str → Bool
  calm : Bool
  pn : List (Addr × Obj)
  xe : Value → Shared → Prop
def frs (l : List Env) : List Addr := l.filterMap (·.frame)
abbrev Cx.fs (X : Cx) : List Addr := frs X.outer
def Vis (sc : Scope) (x : Str) : Prop := sc.names.lookup x = some .local ∨ sc.names.lookup x = some .cell ∨ sc.names.lookup x = some .free
def Loc (sc : Scope) (x : Str) : Prop := sc.names.lookup x = some .local ∨ sc.names.lookup x = some .cell
def Look (env : Env) (h : Heap) (m : Str → Option Value) (x : Str) (u : Value) : Prop :=
  (env.kindOf x = some .local ∧ m x = some u) ∨ ((env.kindOf x = some .cell ∨ env.kindOf x = some .free) ∧ ∃ c, env.cells.lookup x = some c ∧ h.IsCell c (some u))
structure Cx.Ok (X : Cx) : Prop where
  mod : Mod X.K X.mg X.base
  kind : X.env.scope.kind = .function
  glob : X.env.globals = mainGlobals
  blt : X.env.builtins = builtinsNs
  above : X.s₀.heap.objs.size ≤ X.env.locals
  inj : ∀ x y c, X.env.cells.lookup x = some c → X.env.cells.lookup y = some c → x = y
  has : ∀ x, (X.env.kindOf x = some .cell ∨ X.env.kindOf x = some .free) → ∃ c, X.env.cells.lookup x = some c
  cab : ∀ x c, X.fn x = true → X.env.cells.lookup x = some c → X.s₀.heap.objs.size ≤ c
  hd : X.calm = true → X.A.handled = none
  frames : X.A.frames = some X.stack
  stk : X.stack = X.outer ∨ (X.stack = X.env :: X.outer ∧ X.env.frame = some X.env.locals)
  exf : ∀ b ∈ X.ex, b ≠ X.env.locals ∧ ∀ x c, X.env.cells.lookup x = some c → c ≠ b
  bs : ∀ b o, X.base.get? b = some o → X.s₀.heap.get? b = some o ∧ X.H₀ b = none
  bsz : X.base.objs.size ≤ X.s₀.heap.objs.size
  noex : ∀ b o, X.base.get? b = some o → b ∉ X.ex
  exfs : ∀ b ∈ X.ex, b ∉ X.fs
  funs : X.s₀.heap.FunFrames X.base X.outer
  frf : ∀ b ∈ X.fs, X.H₀ b = none
structure Inv (X : Cx) (pins : List (Addr × Obj)) (σ : List (Option V)) (H : Hp) (s : Shared) : Prop where
  ok : X.Ok
  os : s.os = X.s₀.os
  bare : AllBare s.gens
  base : Un X.fs X.ex X.H₀ H X.s₀.heap s.heap
  loc : ∃ m, s.heap.Ns X.env.locals m ∧ ∀ (i : Nat) (x : Str) (v : V), X.N[i]? = some x → σ[i]? = some (some v) → Vis X.env.scope x → ∃ u, RelV v u ∧ Look X.env s.heap m x u
  cell : ∀ x c, X.env.cells.lookup x = some c → ∃ v, s.heap.IsCell c v
  free : H X.env.locals = none
  freeC : ∀ x c, X.env.cells.lookup x = some c → H c = none
  pin : ∀ p ∈ X.pn ++ pins, s.heap.get? p.1 = some p.2 ∧ H p.1 = none ∧ p.1 ≠ X.env.locals ∧ p.1 ∉ X.fs ∧ ∀ v, p.2.data ≠ .cell v
  hok : HOk X.prog X.w H s.heap
  len : σ.length = X.N.length
section
variable {X : Cx} {pins : List (Addr × Obj)} {σ : List (Option V)} {H H' : Hp} {s : Shared} {h' : Heap}
theorem Cx.Ok.nofr (ok : X.Ok) {b : Addr} {o : Obj} (e : X.base.get? b = some o) : b ∉ X.fs := fun hb => by
  have := (ok.funs.mem hb).1
  rw [e] at this; cases this
theorem Inv.bs (I : Inv X pins σ H s) : ∀ b o, X.base.get? b = some o → s.heap.get? b = some o ∧ H b = none := fun b o e =>
  ⟨I.base.keep b o (I.ok.bs b o e).1 (I.ok.bs b o e).2 (I.ok.nofr e) (I.ok.noex b o e), I.base.free b o (I.ok.bs b o e).1 (I.ok.bs b o e).2 (I.ok.noex b o e)⟩
theorem Inv.bk (I : Inv X pins σ H s) : ∀ b o, X.base.get? b = some o → s.heap.get? b = some o := fun b o e => (I.bs b o e).1
theorem Inv.mod (I : Inv X pins σ H s) : Mod X.K X.mg X.base := I.ok.mod
theorem Inv.kIn (I : Inv X pins σ H s) : X.K.In s.heap := I.ok.mod.kin.keeps I.bk
theorem Inv.lt (I : Inv X pins σ H s) : X.env.locals < s.heap.objs.size := let ⟨_, hn, _⟩ := I.loc; hn.lt
theorem Inv.sz (I : Inv X pins σ H s) : X.s₀.heap.objs.size ≤ s.heap.objs.size := Nat.le_trans I.ok.above (Nat.le_of_lt I.lt)
theorem Inv.nofs (I : Inv X pins σ H s) {a : Addr} (h : s.heap.objs.size ≤ a) : a ∉ X.fs := fun hb => by
  obtain ⟨_, o, ho, _⟩ := I.ok.funs.mem hb
  exact absurd (Nat.lt_of_lt_of_le (Heap.lt_size ho) (Nat.le_trans I.sz h)) (Nat.lt_irrefl _)
theorem Inv.cne (I : Inv X pins σ H s) : ∀ x c, X.env.cells.lookup x = some c → c ≠ X.env.locals := fun x c e z => by
  obtain ⟨v, o, ho, hd⟩ := I.cell x c e
  obtain ⟨m, ⟨o', es, ep, ho', hd', _⟩, _⟩ := I.loc
  rw [z, ho'] at ho; cases ho; rw [hd'] at hd; cases hd
theorem Inv.funs (I : Inv X pins σ H s) : s.heap.FunFrames X.base X.outer := by
  have all : ∀ (l : List Env), (∀ b ∈ frs l, b ∈ X.fs) → X.s₀.heap.FunFrames X.base l → s.heap.FunFrames X.base l := by
    intro l
    induction l with
    | nil => intro _ _; trivial
    | cons env r ih =>
      intro hs hl
      obtain ⟨hk, ⟨L, o, hf, hn, ho, hd⟩, hr⟩ := hl
      have hL : L ∈ X.fs := hs L (by unfold frs; rw [List.filterMap_cons, hf]; exact List.mem_cons_self)
      obtain ⟨sl, e⟩ := I.base.slot L o ho (I.ok.frf L hL) hL fun z => I.ok.exfs L z hL
      exact ⟨hk, ⟨L, _, hf, hn, e, hd⟩, ih (fun b hb => hs b (by unfold frs; rw [List.filterMap_cons, hf]; exact List.mem_cons_of_mem _ hb)) hr⟩
  exact all X.outer (fun _ hb => hb) I.ok.funs
theorem Inv.stack (I : Inv X pins σ H s) : s.heap.FunFrames X.base X.stack := by
  rcases I.ok.stk with e | ⟨e, hf⟩
  · rw [e]; exact I.funs
  · rw [e]
    obtain ⟨m, hn, _⟩ := I.loc
    refine .cons (by rw [I.ok.kind]; decide) hf hn ?_ I.funs
    exact Heap.get?_none_of_le (Nat.le_trans I.ok.bsz I.ok.above)
theorem Inv.stkSub (I : Inv X pins σ H s) : ∀ b ∈ frs X.stack, b ∈ X.env.locals :: X.fs := fun b hb => by
  rcases I.ok.stk with e | ⟨e, hf⟩
  · rw [e] at hb; exact List.mem_cons_of_mem _ hb
  · rw [e] at hb
    unfold frs at hb
    rw [List.filterMap_cons, hf] at hb
    exact hb
theorem Inv.stkFree (I : Inv X pins σ H s) : ∀ b ∈ frs X.stack, H b = none := fun b hb => by
  rcases List.mem_cons.mp (I.stkSub b hb) with e | hb
  · rw [e]; exact I.free
  · obtain ⟨_, o, ho, _⟩ := I.ok.funs.mem hb
    exact I.base.free b o ho (I.ok.frf b hb) fun z => I.ok.exfs b z hb
theorem Inv.step {g' : Array GenState} {t' : Nat} {d' : Drawn} {ch : List Addr} (I : Inv X pins σ H s)
    (hch : ∀ b ∈ ch, (b ∈ X.ex ∨ X.s₀.heap.objs.size ≤ b) ∧ b ≠ X.env.locals ∧ (∀ x c, X.env.cells.lookup x = some c → c ≠ b) ∧ ∀ p ∈ X.pn ++ pins, p.1 ≠ b)
    (keep : ∀ b o, b ≠ X.env.locals → b ∉ X.fs → b ∉ ch → s.heap.get? b = some o → H b = none → h'.get? b = some o)
    (slot : ∀ b o, b ≠ X.env.locals → b ∈ X.fs → b ∉ ch → s.heap.get? b = some o → H b = none → ∃ sl, h'.get? b = some { o with slots := sl }) (free : ∀ b o, b ∉ ch → s.heap.get? b = some o → H b = none → H' b = none)
    (there : ∀ b o, b ∉ ch → s.heap.get? b = some o → ∃ o', h'.get? b = some o')
    (tups : ∀ b xs, H b = some (.tup xs) → H' b = some (.tup xs)) (frzs : ∀ b o u, H b = some (.frz o u) → H' b = some (.frz o u)) (tbls : ∀ b ps, H b = some (.tbl ps) → ∃ more, H' b = some (.tbl (ps ++ more)))
    (ns : ∀ m, s.heap.Ns X.env.locals m → h'.Ns X.env.locals m) (hok : HOk X.prog X.w H' h') (hg : AllBare g') :
    Inv X pins σ H' { s with heap := h', gens := g', drawn := d', toks := t' } := by
  have neL : ∀ b o, X.s₀.heap.get? b = some o → b ≠ X.env.locals := fun b o e => Nat.ne_of_lt (Nat.lt_of_lt_of_le (Heap.lt_size e) I.ok.above)
  have neC : ∀ b o, X.s₀.heap.get? b = some o → b ∉ X.ex → b ∉ ch := fun b o e hx hb => by
    rcases (hch b hb).1 with z | z
    · exact hx z
    · exact absurd (Nat.lt_of_lt_of_le (Heap.lt_size e) z) (Nat.lt_irrefl _)
  have cellK : ∀ x c, X.env.cells.lookup x = some c → ∀ v, s.heap.IsCell c v → h'.IsCell c v := fun x c e v ⟨o, ho, hd⟩ => by
    have nch : c ∉ ch := fun z => (hch c z).2.2.1 x c e rfl
    by_cases hc : c ∈ X.fs
    · obtain ⟨sl, q⟩ := slot c o (I.cne x c e) hc nch ho (I.freeC x c e)
      exact ⟨_, q, hd⟩
    · exact ⟨o, keep c o (I.cne x c e) hc nch ho (I.freeC x c e), hd⟩
  refine ⟨I.ok, I.os, hg, ⟨fun b o e n hb hx => ?_, fun b o e n hb hx => ?_, fun b o e n hx => ?_, fun b o e hx => ?_, fun b xs e => tups b xs (I.base.tups b xs e), fun b o xs e => frzs b o xs (I.base.frzs b o xs e), fun b ps e => ?_⟩, ?_, fun x c e => ?_, ?_, fun x c e => ?_, fun p hp => ?_, hok, I.len⟩
  · exact keep b o (neL b o e) hb (neC b o e hx) (I.base.keep b o e n hb hx) (I.base.free b o e n hx)
  · obtain ⟨sl, e1⟩ := I.base.slot b o e n hb hx
    obtain ⟨sl', e2⟩ := slot b _ (neL b o e) hb (neC b o e hx) e1 (I.base.free b o e n hx)
    exact ⟨sl', e2⟩
  · obtain ⟨o', e1⟩ := I.base.there b o e hx
    exact free b o' (neC b o e hx) e1 (I.base.free b o e n hx)
  · obtain ⟨o', e1⟩ := I.base.there b o e hx
    exact there b o' (neC b o e hx) e1
  · obtain ⟨m1, e1⟩ := I.base.tbls b ps e
    obtain ⟨m2, e2⟩ := tbls b _ e1
    exact ⟨m1 ++ m2, by rw [e2, Array.append_assoc]⟩
  · obtain ⟨m, hn, hl⟩ := I.loc
    refine ⟨m, ns m hn, fun i x v e1 e2 e3 => ?_⟩
    obtain ⟨u, r, l⟩ := hl i x v e1 e2 e3
    refine ⟨u, r, ?_⟩
    rcases l with l | ⟨k, c, e, z⟩
    · exact .inl l
    · exact .inr ⟨k, c, e, cellK x c e _ z⟩
  · obtain ⟨v, z⟩ := I.cell x c e
    exact ⟨v, cellK x c e v z⟩
  · obtain ⟨m, ⟨o, _, _, ho, _⟩, _⟩ := I.loc
    exact free _ o (fun z => (hch _ z).2.1 rfl) ho I.free
  · obtain ⟨v, o, ho, hd⟩ := I.cell x c e
    exact free c o (fun z => (hch c z).2.2.1 x c e rfl) ho (I.freeC x c e)
  · obtain ⟨e, n, ne, nf, d⟩ := I.pin p hp
    have nch : p.1 ∉ ch := fun z => (hch p.1 z).2.2.2 p hp rfl
    exact ⟨keep p.1 p.2 ne nf nch e n, free p.1 p.2 nch e n, ne, nf, d⟩
theorem Inv.un {t' : Nat} (I : Inv X pins σ H s) (u : Un X.fs [] H H' s.heap h') (hok : HOk X.prog X.w H' h') : Inv X pins σ H' { s with heap := h', toks := t' } := by
  obtain ⟨m, ⟨o, es, ep, ho, r⟩, _⟩ := id I.loc
  obtain ⟨sl, hL⟩ := u.any ho I.free (by simp)
  exact I.step (g' := s.gens) (d' := s.drawn) (ch := []) (fun _ z => nomatch z) (fun b o _ hb _ e n => u.keep b o e n hb (by simp)) (fun b o _ hb _ e n => u.slot b o e n hb (by simp)) (fun b o _ e n => u.free b o e n (by simp)) (fun b o _ e => u.there b o e (by simp)) u.tups u.frzs u.tbls (fun m' hm => by
    obtain ⟨o', es', ep', ho', r'⟩ := hm
    rw [ho] at ho'; cases ho'
    exact ⟨_, es', ep', hL, r'⟩) hok I.bare
theorem Inv.call {g' : Array GenState} {t' : Nat} {d' : Drawn} {ch : List Addr} (I : Inv X pins σ H s) (u : Un (frs X.stack) ch H H' s.heap h') (hok : HOk X.prog X.w H' h') (hg : AllBare g')
    (hch : ∀ b ∈ ch, (b ∈ X.ex ∨ X.s₀.heap.objs.size ≤ b) ∧ b ≠ X.env.locals ∧ (∀ x c, X.env.cells.lookup x = some c → c ≠ b) ∧ ∀ p ∈ X.pn ++ pins, p.1 ≠ b) :
    Inv X pins σ H' { s with heap := h', gens := g', drawn := d', toks := t' } := by
  obtain ⟨m, ⟨o, es, ep, ho, r⟩, _⟩ := id I.loc
  obtain ⟨sl, hL⟩ := u.any ho I.free fun z => (hch _ z).2.1 rfl
  exact I.step (ch := ch) hch (fun b o hL hb hc e n => u.keep b o e n (fun z => (List.mem_cons.mp (I.stkSub b z)).elim hL hb) hc) (fun b o _ _ hc e n => u.any e n hc) (fun b o hc e n => u.free b o e n hc) (fun b o hc e => u.there b o e hc) u.tups u.frzs u.tbls (fun m' hm => by
    obtain ⟨o', es', ep', ho', r'⟩ := hm
    rw [ho] at ho'; cases ho'
    exact ⟨_, es', ep', hL, r'⟩) hok hg
theorem Inv.turned {t' : Nat} {it : Addr} (I : Inv X pins σ H s) (k : ∀ b o, b ≠ it → s.heap.get? b = some o → h'.get? b = some o) (hn : H it = none) (hL : it ≠ X.env.locals)
    (h1 : it ∈ X.ex ∨ X.s₀.heap.objs.size ≤ it) (h2 : ∀ x c, X.env.cells.lookup x = some c → c ≠ it) (h3 : ∀ p ∈ X.pn ++ pins, p.1 ≠ it) : Inv X pins σ H { s with heap := h', toks := t' } := by
  have nit : ∀ b u, H b = some u → b ≠ it := fun b u e z => by rw [z, hn] at e; cases e
  refine I.step (g' := s.gens) (d' := s.drawn) (ch := [it]) (fun b hb => ?_) (fun b o _ _ hc e _ => k b o (fun z => hc (by simp [z])) e) (fun b o _ _ hc e _ => ⟨o.slots, k b o (fun z => hc (by simp [z])) e⟩) (fun _ _ _ _ n => n)
    (fun b o hc e => ⟨o, k b o (fun z => hc (by simp [z])) e⟩) (fun _ _ e => e) (fun _ _ _ e => e) (fun b ps e => ⟨#[], by rw [e]; simp⟩) (fun m hm => ?_) (fun b u e => ?_) I.bare
  · have e : b = it := by simpa using hb
    subst e
    exact ⟨h1, hL, h2, h3⟩
  · obtain ⟨o, es, ep, ho, r⟩ := hm
    exact ⟨o, es, ep, k _ o (Ne.symm hL) ho, r⟩
  · refine (I.hok b u e).stay (fun c v hc q => k c v ?_ q) (fun _ q => q) fun _ _ q => q
    rcases hc with z | z
    · rw [z]; exact nit b u e
    · exact nit c _ z
theorem Inv.tok (I : Inv X pins σ H s) (t : Nat) : Inv X pins σ H { s with toks := t } := I.un (h' := s.heap) (t' := t) Un.refl I.hok
theorem Inv.kept {t' : Nat} (I : Inv X pins σ H s) (k : ∀ b u, s.heap.get? b = some u → h'.get? b = some u) : Inv X pins σ H { s with heap := h', toks := t' } := I.un (Un.kept k) (I.hok.kept k)
theorem Inv.laid {a : Addr} {o : HO} {t' : Nat} (I : Inv X pins σ H s) (k : ∀ b u, s.heap.get? b = some u → h'.get? b = some u) (hp : s.heap.objs.size ≤ a) (new : ObjOk X.prog X.w (upd H a o) h' a o) :
    Inv X pins σ (upd H a o) { s with heap := h', toks := t' } := I.un (Un.laid k hp (I.hok.fresh hp)) (I.hok.laid k hp new)
theorem Inv.write {x e : Addr} {o : HO} {t' : Nat} (I : Inv X pins σ H s) (mu : Mut (H x)) (he : e = x ∨ H e = some (.own x)) (k : ∀ b u, b ≠ e → s.heap.get? b = some u → h'.get? b = some u) (heo : ∃ u, h'.get? e = some u)
    (new : ObjOk X.prog X.w (upd H x o) h' x o) : Inv X pins σ (upd H x o) { s with heap := h', toks := t' } := I.un (Un.write mu he k heo) (I.hok.write mu he k heo new)
theorem Inv.pins_of {pins' : List (Addr × Obj)} (I : Inv X pins σ H s) (h : ∀ p ∈ pins', s.heap.get? p.1 = some p.2 ∧ H p.1 = none ∧ p.1 ≠ X.env.locals ∧ p.1 ∉ X.fs ∧ ∀ v, p.2.data ≠ .cell v) : Inv X pins' σ H s :=
  ⟨I.ok, I.os, I.bare, I.base, I.loc, I.cell, I.free, I.freeC, fun p hp => (List.mem_append.mp hp).elim (fun z => I.pin p (List.mem_append_left _ z)) (h p), I.hok, I.len⟩
theorem nodup_ix {N : List Str} (hN : N.Nodup) {i j : Nat} {x : Str} (a : N[i]? = some x) (b : N[j]? = some x) : i = j := by
  obtain ⟨h1, e1⟩ := List.getElem?_eq_some_iff.mp a
  obtain ⟨h2, e2⟩ := List.getElem?_eq_some_iff.mp b
  exact (List.getElem_inj hN).mp (e1.trans e2.symm)
theorem store_ok2 {M : Model} {A : Around} {E : Value → Shared → Prop} {i : Nat} {x : Str} {v : V} {u : Value} {Q : Unit → Shared → Prop} (I : Inv X pins σ H s) (hN : X.N.Nodup) (hi : X.N[i]? = some x) (hx : Loc X.env.scope x) (r : RelV v u)
    (h : ∀ s', Inv X pins (σ.set i (some v)) H s' → (∃ a, Heap.SameBut a s.heap s'.heap ∧ (a = X.env.locals ∨ X.env.cells.lookup x = some a)) → Q () s') (hf : X.fn x = true ∨ X.env.scope.names.lookup x = some .local := by first | exact .inl rfl | exact .inr rfl | assumption) : wpAny M A (storeName X.env x u) Q E s := by
  obtain ⟨m, hn, hl⟩ := id I.loc
  have hcls : (X.env.scope.kind == .class || (X.env.scope.kind == .module && X.env.locals != X.env.globals)) = false := by rw [I.ok.kind]; rfl
  have hiσ : i < σ.length := by rw [I.len]; exact (List.getElem?_eq_some_iff.mp hi).1
  have cne := I.cne
  have tracked : ∀ {a : Addr} {h' : Heap}, (∃ o, s.heap.get? a = some o ∧ H a = none) → Heap.SameBut a s.heap h' → HOk X.prog X.w H h' := fun {a h'} ha hs b ob e => by
    obtain ⟨_, _, hfree⟩ := ha
    refine (I.hok b ob e).stay (fun c w' hc q => (hs.2 c ?_).trans q) (fun _ q => q) fun _ _ q => q
    rintro rfl
    rcases hc with rfl | hc
    · rw [hfree] at e; cases e
    · rw [hfree] at hc; cases hc
  rcases hx with hk | hk
  · refine wpAny_storeName_local hk hn (fun h' hn' hs => ?_) hcls
    obtain ⟨oL, _, _, hoL, _⟩ := id hn
    refine h _ ⟨I.ok, I.os, I.bare, ⟨fun b o e n hb hx => ?_, fun b o e n hb hx => ?_, I.base.free, fun b o e hx => ?_, I.base.tups, I.base.frzs, I.base.tbls⟩, ⟨_, hn', fun j y v' e1 e2 e3 => ?_⟩, fun y c e => ?_, I.free, I.freeC, fun p hp => ?_, tracked ⟨oL, hoL, I.free⟩ hs, by simpa using I.len⟩ ⟨_, hs, .inl rfl⟩
    · exact (hs.2 b (Nat.ne_of_lt (Nat.lt_of_lt_of_le (Heap.lt_size e) I.ok.above))).trans (I.base.keep b o e n hb hx)
    · obtain ⟨sl, e1⟩ := I.base.slot b o e n hb hx
      exact ⟨sl, (hs.2 b (Nat.ne_of_lt (Nat.lt_of_lt_of_le (Heap.lt_size e) I.ok.above))).trans e1⟩
    · obtain ⟨o', e1⟩ := I.base.there b o e hx
      exact ⟨o', (hs.2 b (Nat.ne_of_lt (Nat.lt_of_lt_of_le (Heap.lt_size e) I.ok.above))).trans e1⟩
    · by_cases hj : j = i
      · subst hj
        rw [hi] at e1; cases e1
        rw [List.getElem?_set_self hiσ] at e2
        cases e2
        exact ⟨u, r, .inl ⟨hk, by simp⟩⟩
      · rw [List.getElem?_set_ne (Ne.symm hj)] at e2
        obtain ⟨u', r', q⟩ := hl j y v' e1 e2 e3
        refine ⟨u', r', ?_⟩
        rcases q with ⟨k, e⟩ | ⟨k, c, e, z⟩
        · refine .inl ⟨k, ?_⟩
          have : y ≠ x := fun e => hj (nodup_ix hN e1 (e ▸ hi))
          simp [this, e]
        · exact .inr ⟨k, c, e, z.sameBut hs (cne y c e)⟩
    · obtain ⟨w', z⟩ := I.cell y c e
      exact ⟨w', z.sameBut hs (cne y c e)⟩
    · obtain ⟨e, n, ne, nf, d⟩ := I.pin p hp
      exact ⟨(hs.2 p.1 ne).trans e, n, ne, nf, d⟩
  · have hfn : X.fn x = true := by
      rcases hf with z | z
      · exact z
      · rw [z] at hk; cases hk
    obtain ⟨c, hc⟩ := I.ok.has x (.inl hk)
    obtain ⟨w', z⟩ := I.cell x c hc
    refine wpAny_storeName_cell I.ok.kind hk hc z (fun h' hc' hs => ?_)
    obtain ⟨oc, hoc, hocd⟩ := id z
    refine h { s with heap := h' } ⟨I.ok, I.os, I.bare, ⟨fun b o e n hb hx => ?_, fun b o e n hb hx => ?_, I.base.free, fun b o e hx => ?_, I.base.tups, I.base.frzs, I.base.tbls⟩, ⟨m, hn.sameBut hs (Ne.symm (cne x c hc)), fun j y v' e1 e2 e3 => ?_⟩, fun y c' e => ?_, I.free, I.freeC, fun p hp => ?_, tracked ⟨oc, hoc, I.freeC x c hc⟩ hs, by simpa using I.len⟩ ⟨c, hs, .inr hc⟩
    · exact (hs.2 b (Nat.ne_of_lt (Nat.lt_of_lt_of_le (Heap.lt_size e) (I.ok.cab x c hfn hc)))).trans (I.base.keep b o e n hb hx)
    · obtain ⟨sl, e1⟩ := I.base.slot b o e n hb hx
      exact ⟨sl, (hs.2 b (Nat.ne_of_lt (Nat.lt_of_lt_of_le (Heap.lt_size e) (I.ok.cab x c hfn hc)))).trans e1⟩
    · obtain ⟨o', e1⟩ := I.base.there b o e hx
      exact ⟨o', (hs.2 b (Nat.ne_of_lt (Nat.lt_of_lt_of_le (Heap.lt_size e) (I.ok.cab x c hfn hc)))).trans e1⟩
    · by_cases hj : j = i
      · subst hj
        rw [hi] at e1; cases e1
        rw [List.getElem?_set_self hiσ] at e2
        cases e2
        exact ⟨u, r, .inr ⟨.inl hk, c, hc, hc'⟩⟩
      · rw [List.getElem?_set_ne (Ne.symm hj)] at e2
        obtain ⟨u', r', q⟩ := hl j y v' e1 e2 e3
        refine ⟨u', r', ?_⟩
        rcases q with q | ⟨k, c', e, z'⟩
        · exact .inl q
        · refine .inr ⟨k, c', e, z'.sameBut hs ?_⟩
          rintro rfl
          exact hj (nodup_ix hN e1 (I.ok.inj _ _ _ e hc ▸ hi))
    · by_cases hcc : c' = c
      · subst hcc; exact ⟨_, hc'⟩
      · obtain ⟨w2, z2⟩ := I.cell y c' e
        exact ⟨w2, z2.sameBut hs hcc⟩
    · obtain ⟨e, n, ne, nf, d⟩ := I.pin p hp
      refine ⟨(hs.2 p.1 ?_).trans e, n, ne, nf, d⟩
      intro q
      rw [q, hoc] at e
      have q' : oc = p.2 := Option.some.inj e
      exact d w' (by rw [← q']; exact hocd)
theorem store_ok {M : Model} {A : Around} {E : Value → Shared → Prop} {i : Nat} {x : Str} {v : V} {u : Value} {Q : Unit → Shared → Prop} (I : Inv X pins σ H s) (hN : X.N.Nodup) (hi : X.N[i]? = some x) (hx : Loc X.env.scope x) (r : RelV v u)
    (h : ∀ s', Inv X pins (σ.set i (some v)) H s' → Q () s') (hf : X.fn x = true ∨ X.env.scope.names.lookup x = some .local := by first | exact .inl rfl | exact .inr rfl | assumption) : wpAny M A (storeName X.env x u) Q E s :=
  store_ok2 I hN hi hx r (fun s' I' _ => h s' I') hf
theorem Inv.call' {s' : Shared} {ch : List Addr} (I : Inv X pins σ H s) (ho : s'.os = s.os) (u : Un (frs X.stack) ch H H' s.heap s'.heap) (hok : HOk X.prog X.w H' s'.heap) (hg : AllBare s'.gens)
    (hch : ∀ b ∈ ch, (b ∈ X.ex ∨ X.s₀.heap.objs.size ≤ b) ∧ b ≠ X.env.locals ∧ (∀ x c, X.env.cells.lookup x = some c → c ≠ b) ∧ ∀ p ∈ X.pn ++ pins, p.1 ≠ b) : Inv X pins σ H' s' := by
  obtain ⟨h', g', d', t', o'⟩ := s'
  have e : o' = s.os := ho
  subst e
  exact I.call (g' := g') (t' := t') (d' := d') u hok hg hch
end
abbrev XK := Value → Option Addr → Hp → Prop
abbrev St := List (Option V)
abbrev VK := V → Hp → Prop
abbrev TE := St → Hp → VK → Prop
abbrev TT := St → Hp → (Bool → Hp → Prop) → Prop
abbrev TA := St → Hp → (List V → Hp → Prop) → Prop
structure Ends where
  nx : St → Hp → Prop
  rt : VK
  bk : St → Hp → Prop := fun _ _ => False
  ct : St → Hp → Prop := fun _ _ => False
abbrev TS := Ends → St → Hp → Prop
def EP (X : Cx) (pins : List (Addr × Obj)) (σ : St) (Q : VK) (u : Value) (s' : Shared) : Prop := ∃ v H', Inv X pins σ H' s' ∧ RelV v u ∧ Q v H'
def TP (X : Cx) (pins : List (Addr × Obj)) (σ : St) (Q : Bool → Hp → Prop) (b : Bool) (s' : Shared) : Prop := ∃ H', Inv X pins σ H' s' ∧ Q b H'
def AP (X : Cx) (pins : List (Addr × Obj)) (σ : St) (Q : List V → Hp → Prop) (us : List Value) (s' : Shared) : Prop := ∃ vs H', Inv X pins σ H' s' ∧ Vals vs us ∧ Q vs H'
def SP (X : Cx) (pins : List (Addr × Obj)) (D : Ends) (f : Flow) (s' : Shared) : Prop :=
  match f with
  | .next => ∃ σ' H', Inv X pins σ' H' s' ∧ D.nx σ' H'
  | .brk => ∃ σ' H', Inv X pins σ' H' s' ∧ D.bk σ' H'
  | .cont => ∃ σ' H', Inv X pins σ' H' s' ∧ D.ct σ' H'
  | .ret u => ∃ v σ' H', Inv X pins σ' H' s' ∧ RelV v u ∧ D.rt v H'
def PE (X : Cx) (e : Expr) (t : TE) : Prop :=
  ∀ (pins : List (Addr × Obj)) (s : Shared) (σ : St) (H : Hp) (Q : VK), Inv X pins σ H s → t σ H Q → wpAny (model X.prog X.w) X.A (eval e X.env) (EP X pins σ Q) X.xe s
def PT (X : Cx) (e : Expr) (t : TT) : Prop :=
  ∀ (pins : List (Addr × Obj)) (s : Shared) (σ : St) (H : Hp) (Q : Bool → Hp → Prop), Inv X pins σ H s → t σ H Q → wpAny (model X.prog X.w) X.A (isTrue e X.env (eval e X.env)) (TP X pins σ Q) X.xe s
def PW (X : Cx) (e : Expr) (t : TT) : Prop :=
  ∀ (whole : Sem Value) (pins : List (Addr × Obj)) (s : Shared) (σ : St) (H : Hp) (Q : Bool → Hp → Prop), Inv X pins σ H s → t σ H Q → wpAny (model X.prog X.w) X.A (isTrue e X.env whole) (TP X pins σ Q) X.xe s
theorem PW.pt {X : Cx} {e : Expr} {t : TT} (h : PW X e t) : PT X e t := h _
def PA (X : Cx) (es : List Expr) (t : TA) : Prop :=
  ∀ (pos : Pos) (pins : List (Addr × Obj)) (s : Shared) (σ : St) (H : Hp) (Q : List V → Hp → Prop), Inv X pins σ H s → t σ H Q → wpAny (model X.prog X.w) X.A (spliced (backTo pos (starEach es X.env))) (AP X pins σ Q) X.xe s
def PS (X : Cx) (st : Stmt) (t : TS) : Prop :=
  ∀ (pins : List (Addr × Obj)) (s : Shared) (σ : St) (H : Hp) (D : Ends), Inv X pins σ H s → t D σ H → wpAny (model X.prog X.w) X.A (exec st X.env) (SP X pins D) X.xe s
def PSs (X : Cx) (st : List Stmt) (t : TS) : Prop :=
  ∀ (pins : List (Addr × Obj)) (s : Shared) (σ : St) (H : Hp) (D : Ends), Inv X pins σ H s → t D σ H → wpAny (model X.prog X.w) X.A (execs st X.env) (SP X pins D) X.xe s
theorem thn {α : Type} {t : Sem α} {Q Q' : α → Shared → Prop} {M : Model} {A : Around} {E : Value → Shared → Prop} {s : Shared} (h : wpAny M A t Q E s) (hQ : ∀ a s, Q a s → Q' a s) : wpAny M A t Q' E s := wpAny_mono h hQ fun _ _ x => x
end L2
namespace L2
open PySem PySem.Spec PyProof.Rows
section
variable {X : Cx}
def tVar (i : Nat) : TE := fun σ H Q => ∃ v, σ[i]? = some (some v) ∧ Q v H
def tC (v : V) : TE := fun _ H Q => Q v H
theorem pe_var {i : Nat} {x : Str} {pos : Pos} (hN : X.N[i]? = some x) (hv : Vis X.env.scope x) (hd : (x == ("__debug__" : Str)) = false := by decide) (hcd : (x == ("__classdict__" : Str)) = false := by decide) : PE X (.Name x pos) (tVar i) := by
  intro pins s σ H Q I h
  obtain ⟨v, e, h⟩ := h
  obtain ⟨m, hn, hl⟩ := I.loc
  obtain ⟨u, r, l⟩ := hl i x v hN e hv
  have fin : EP X pins σ Q u s := ⟨v, H, I, r, h⟩
  rcases l with ⟨hk, hm⟩ | ⟨hk, c, hc, hcell⟩
  · exact wpAny_Name (wpAny_loadName_local I.ok.kind hk hn hm fin) hd
  · rcases hk with hk | hk
    · exact wpAny_Name (wpAny_loadName_cell I.ok.kind hk hc hcell fin) hd
    · exact wpAny_Name (wpAny_loadName_free I.ok.kind hk hc hcell fin hcd) hd
theorem pe_int {i j pos} : PE X (.Constant (.int i) j pos) (tC (.int i)) := fun _ _ _ H _ I h => wpAny_Constant_int ⟨.int i, H, I.tok _, ⟨_, rfl⟩, h⟩
theorem pe_bl {b j pos} : PE X (.Constant (.bool b) j pos) (tC (.bl b)) := fun _ _ _ H _ I h => Constant_bool ⟨.bl b, H, I, rfl, h⟩
theorem pe_non {j pos} : PE X (.Constant .none j pos) (tC .non) := fun _ _ _ H _ I h => Constant_none ⟨.non, H, I, rfl, h⟩
theorem pe_str {x j pos} : PE X (.Constant (.str x) j pos) (tC (.str x)) := fun _ _ _ H _ I h => Calls.Constant_str ⟨.str x, H, I.tok _, ⟨_, rfl⟩, h⟩
def Gl (X : Cx) (x : Str) : Prop := X.env.kindOf x = some .globalImplicit
theorem ld_glob {E : Value → Shared → Prop} {pins : List (Addr × Obj)} {s : Shared} {σ : St} {H : Hp} {x : Str} {u : Value} {pos : Pos} {Q : Value → Shared → Prop} (I : Inv X pins σ H s) (hg : Gl X x) (hm : X.mg x = some u) (h : Q u s)
    (hd : (x == ("__debug__" : Str)) = false := by decide) : wpAny (model X.prog X.w) X.A (eval (.Name x pos) X.env) Q E s :=
  Calls.Name_function_global I.ok.kind hg (Calls.loadGlobal_global (by rw [I.ok.glob]; exact I.mod.glob.keeps I.bk) hm h) hd
theorem ld_blt {E : Value → Shared → Prop} {pins : List (Addr × Obj)} {s : Shared} {σ : St} {H : Hp} {x : Str} {u : Value} {pos : Pos} {Q : Value → Shared → Prop} (I : Inv X pins σ H s) (hg : Gl X x) (hm : X.mg x = none) (hv : bootBuiltins x = some u) (h : Q u s)
    (hn : x ≠ "__name__" := by decide) (hd : (x == ("__debug__" : Str)) = false := by decide) : wpAny (model X.prog X.w) X.A (eval (.Name x pos) X.env) Q E s := by
  obtain ⟨mb, h1, h2⟩ := I.mod.blt
  exact Calls.Name_function_global I.ok.kind hg (Calls.loadGlobal_builtin (by rw [I.ok.glob]; exact I.mod.glob.keeps I.bk) hm (by rw [I.ok.blt]; exact h1.keeps I.bk) ((h2 x hn).trans hv) h) hd
theorem pe_glob {x : Str} {v : V} {u : Value} {pos : Pos} (hg : Gl X x) (hm : X.mg x = some u) (r : RelV v u) (hd : (x == ("__debug__" : Str)) = false := by decide) : PE X (.Name x pos) (tC v) :=
  fun _ _ _ H _ I h => ld_glob I hg hm ⟨v, H, I, r, h⟩ hd
theorem pe_bltn {x : Str} {v : V} {u : Value} {pos : Pos} (hg : Gl X x) (hm : X.mg x = none) (hv : bootBuiltins x = some u) (r : RelV v u) (hn : x ≠ "__name__" := by decide) (hd : (x == ("__debug__" : Str)) = false := by decide) : PE X (.Name x pos) (tC v) :=
  fun _ _ _ H _ I h => ld_blt I hg hm hv ⟨v, H, I, r, h⟩ hn hd
variable {a b : Expr} {ta tb : TE} {pos : Pos}
def PC (X : Cx) (op : CmpOp) (a b : Expr) (t : TE) : Prop :=
  ∀ (pins : List (Addr × Obj)) (s : Shared) (σ : St) (H : Hp) (Q : VK), Inv X pins σ H s → t σ H Q →
    wpAny (model X.prog X.w) X.A (eval a X.env) (fun v s₁ => wpAny (model X.prog X.w) X.A (eval b X.env) (fun u s₂ => wpAny (model X.prog X.w) X.A (compareOp op v u) (EP X pins σ Q) X.xe s₂) X.xe s₁) X.xe s
theorem nobehind (b : Expr) {op : CmpOp} (h : op ≠ .In) (h2 : op ≠ .NotIn) : behindInMarks op b = false := by
  have e1 : (op == CmpOp.In) = false := by cases op <;> first | rfl | exact absurd rfl h
  have e2 : (op == CmpOp.NotIn) = false := by cases op <;> first | rfl | exact absurd rfl h2
  cases b <;> simp [behindInMarks, e1, e2]
def tB (t : TE) : TT := fun σ H Q => t σ H fun x H1 => ∃ c, x = .bl c ∧ Q c H1
theorem pt_cmp {op : CmpOp} {t : TE} (h : PC X op a b t) (h1 : behindInMarks op b = false := by first | exact nobehind _ (by decide) (by decide) | rfl) : PT X (.Compare a [op] [b] pos) (tB t) := by
  intro pins s σ H Q I hw
  refine wpAny_isTrue_Compare1 (thn (h pins s σ H _ I hw) fun v s1 h1 => thn h1 fun u s2 h2 => thn h2 fun c s3 ⟨x, H1, I1, r1, q1⟩ => ?_) h1
  obtain ⟨d, rfl, q⟩ := q1
  cases r1
  exact wpAny_truthy_bool ⟨H1, I1, q⟩
theorem pt_val {e : Expr} {t : TE} (h : PE X e t) (he : ∀ whole, isTrue e X.env whole = (do let v ← whole; standAt e.pos; holding [v] (truthy v)) := by intro _; rfl) : PT X e (tB t) := by
  intro pins s σ H Q I hw
  refine isTrue_plain (thn (h pins s σ H _ I hw) fun v s1 ⟨x, H1, I1, r1, q1⟩ => ?_) (he _)
  obtain ⟨d, rfl, q⟩ := q1
  cases r1
  exact wpAny_truthy_bool ⟨H1, I1, q⟩
variable {tA tB' : TT} {rest : List Expr}
def tAnd (t u : TT) : TT := fun σ H Q => t σ H fun c H1 => if c = true then u σ H1 Q else Q false H1
def tOr (t u : TT) : TT := fun σ H Q => t σ H fun c H1 => if c = true then Q true H1 else u σ H1 Q
def tNot (t : TT) : TT := fun σ H Q => t σ H fun c H1 => Q (!c) H1
theorem pw_and1 (ha : PT X a tA) : PW X (.BoolOp .And [a] pos) tA := by
  intro wh pins s σ H Q I h
  refine isTrue_and (thn (ha pins s σ H Q I h) fun c s1 e => ?_)
  cases c with
  | true => exact isTrue_and_nil e
  | false => exact e
theorem pw_or1 (ha : PT X a tA) : PW X (.BoolOp .Or [a] pos) tA := by
  intro wh pins s σ H Q I h
  refine isTrue_or (thn (ha pins s σ H Q I h) fun c s1 e => ?_)
  cases c with
  | false => exact isTrue_or_nil e
  | true => exact e
theorem pw_and (ha : PT X a tA) (hb : PW X (.BoolOp .And (b :: rest) pos) tB') : PW X (.BoolOp .And (a :: b :: rest) pos) (tAnd tA tB') := by
  intro wh pins s σ H Q I h
  refine isTrue_and (thn (ha pins s σ H _ I h) fun c s1 ⟨H1, I1, q1⟩ => ?_)
  cases c with
  | true => exact hb wh pins s1 σ H1 Q I1 q1
  | false => exact ⟨H1, I1, q1⟩
theorem pw_or (ha : PT X a tA) (hb : PW X (.BoolOp .Or (b :: rest) pos) tB') : PW X (.BoolOp .Or (a :: b :: rest) pos) (tOr tA tB') := by
  intro wh pins s σ H Q I h
  refine isTrue_or (thn (ha pins s σ H _ I h) fun c s1 ⟨H1, I1, q1⟩ => ?_)
  cases c with
  | true => exact ⟨H1, I1, q1⟩
  | false => exact hb wh pins s1 σ H1 Q I1 q1
theorem pt_not (ha : PT X a tA) : PT X (.UnaryOp .Not a pos) (tNot tA) := by
  intro pins s σ H Q I h
  exact isTrue_not (ha pins s σ H (fun c H1 => Q (!c) H1) I h)
def tAndV (ta tb : TE) : TE := fun σ H Q => ta σ H fun x H1 => ∃ c, x = .bl c ∧ if c = true then tb σ H1 Q else Q (.bl false) H1
def tOrV (ta tb : TE) : TE := fun σ H Q => ta σ H fun x H1 => ∃ c, x = .bl c ∧ if c = true then Q (.bl true) H1 else tb σ H1 Q
def tNotV (ta : TE) : TE := fun σ H Q => ta σ H fun x H1 => ∃ c, x = .bl c ∧ Q (.bl (!c)) H1
theorem pe_not (ha : PE X a ta) : PE X (.UnaryOp .Not a pos) (tNotV ta) := by
  intro pins s σ H Q I h
  refine UnaryOp_ (thn (ha pins s σ H _ I h) fun v s1 ⟨x, H1, I1, r1, q1⟩ => ?_)
  obtain ⟨c, rfl, q1⟩ := q1
  cases r1
  exact not_of (wpAny_truthy_bool ⟨.bl (!c), H1, I1, rfl, q1⟩)
def tIf (t : TT) (ta tb : TE) : TE := fun σ H Q => t σ H fun c H1 => if c = true then ta σ H1 Q else tb σ H1 Q
theorem pe_ifExp {c : Expr} (hc : PT X c tA) (ha : PE X a ta) (hb : PE X b tb) : PE X (.IfExp c a b pos) (tIf tA ta tb) := by
  intro pins s σ H Q I h
  refine wpAny_IfExp (thn (hc pins s σ H _ I h) fun d s1 ⟨H1, I1, q1⟩ => ?_)
  cases d with
  | true => exact ha pins s1 σ H1 Q I1 q1
  | false => exact hb pins s1 σ H1 Q I1 q1
end
end L2
namespace L2
open PySem PySem.Spec PyProof.Rows
def SqL (K : PySem.W.Frag) (H : Hp) (a : Addr) (xs : List V) : Prop :=
  Rd H a (.lst xs) ∨
    ∃ (o : Obj) (its : Array Value) (n : Nat), K.lookup a = some o ∧ o.cls = .type "list" ∧ o.dict = none ∧ o.data = .seq its n ∧ its.size ≤ sizeLine ∧ Vals xs its.toList
def SqT (K : PySem.W.Frag) (H : Hp) (a : Addr) (xs : List V) : Prop :=
  Rd H a (.tup xs) ∨
    ∃ (o : Obj) (its : Array Value) (n : Nat), K.lookup a = some o ∧ o.cls = .type "tuple" ∧ o.data = .seq its n ∧ its.size ≤ sizeLine ∧ Vals xs its.toList
def absV : Value → Option V
  | .none => some .non
  | .bool b => some (.bl b)
  | .int i _ => some (.int i)
  | .str x _ => some (.str x)
  | .bytes b _ => some (.byt b)
  | .float b _ => some (.flt b)
  | .ref a => some (.ref a)
  | .type n => some (.ty n)
  | _ => none
theorem RelV.abs {x : V} {u : Value} (r : RelV x u) : absV u = some x := by
  cases x with
  | non => cases r; rfl
  | bl _ => cases r; rfl
  | int _ => obtain ⟨t, rfl⟩ := r; rfl
  | str _ => obtain ⟨t, rfl⟩ := r; rfl
  | byt _ => obtain ⟨t, rfl⟩ := r; rfl
  | flt _ => obtain ⟨t, rfl⟩ := r; rfl
  | ref _ => cases r; rfl
  | ty _ => cases r; rfl
theorem RelV.inj {x y : V} {u : Value} (r : RelV x u) (q : RelV y u) : x = y := Option.some.inj (r.abs.symm.trans q.abs)
theorem Vals.inj : ∀ {xs ys : List V} {us : List Value}, Vals xs us → Vals ys us → xs = ys
  | _, _, _, .nil, .nil => rfl
  | _, _, _, .cons r t, .cons r' t' => by rw [r.inj r', Vals.inj t t']
section
variable {X : Cx} {pins : List (Addr × Obj)} {σ : St} {H : Hp} {s : Shared} {a : Addr} {xs ys : List V}
theorem SqL.of {K : PySem.W.Frag} (h : H a = some (.lst xs)) : SqL K H a xs := .inl (.inl h)
theorem SqT.of {K : PySem.W.Frag} (h : H a = some (.tup xs)) : SqT K H a xs := .inl (.inl h)
theorem Inv.list (I : Inv X pins σ H s) (h : SqL X.K H a xs) : ∃ its : List Value, Vals xs its ∧ PlainL s.heap a its.toArray ∧ xs.length ≤ sizeLine := by
  rcases h with h | ⟨o, its, n, hk, hc, hd, hs, hz, r⟩
  · obtain ⟨z, its, n, r, e⟩ := h.ok I.hok
    exact ⟨its, r, ⟨_, n, e, rfl, rfl, rfl⟩, z⟩
  · refine ⟨its.toList, r, ⟨o, n, I.kIn a o hk, hc, hd, by simpa using hs⟩, ?_⟩
    have e := r.length
    simp only [Array.length_toList] at e
    omega
theorem Inv.tuple (I : Inv X pins σ H s) (h : SqT X.K H a xs) : ∃ its : List Value, Vals xs its ∧ IsTup s.heap a its.toArray ∧ xs.length ≤ sizeLine := by
  rcases h with h | ⟨o, its, n, hk, hc, hs, hz, r⟩
  · obtain ⟨z, its, r, p⟩ := h.ok I.hok
    exact ⟨its, r, p, z⟩
  · refine ⟨its.toList, r, ⟨o, I.kIn a o hk, hc, n, by simpa using hs⟩, ?_⟩
    have e := r.length
    simp only [Array.length_toList] at e
    omega
theorem Inv.list_inj (I : Inv X pins σ H s) (h : SqL X.K H a xs) (h' : SqL X.K H a ys) : xs = ys := by
  obtain ⟨its, r, ⟨o, n, e, _, _, d⟩, _⟩ := I.list h
  obtain ⟨its', r', ⟨o', n', e', _, _, d'⟩, _⟩ := I.list h'
  rw [e] at e'; cases e'
  rw [d] at d'
  injection d' with d1 _
  have : its = its' := by simpa using congrArg Array.toList d1
  subst this
  exact r.inj r'
theorem Inv.tuple_inj (I : Inv X pins σ H s) (h : SqT X.K H a xs) (h' : SqT X.K H a ys) : xs = ys := by
  obtain ⟨its, r, ⟨o, e, _, n, d⟩, _⟩ := I.tuple h
  obtain ⟨its', r', ⟨o', e', _, n', d'⟩, _⟩ := I.tuple h'
  rw [e] at e'; cases e'
  rw [d] at d'
  injection d' with d1 _
  have : its = its' := by simpa using congrArg Array.toList d1
  subst this
  exact r.inj r'
end
abbrev Cx.wish (X : Cx) (E : Value → Shared → Prop) : Cx := { X with xe := E }
abbrev Cx.nox (X : Cx) : Cx := X.wish fun _ _ => False
theorem Cx.Ok.wish {X : Cx} (ok : X.Ok) (E : Value → Shared → Prop) : (X.wish E).Ok :=
  ⟨ok.mod, ok.kind, ok.glob, ok.blt, ok.above, ok.inj, ok.has, ok.cab, ok.hd, ok.frames, ok.stk, ok.exf, ok.bs, ok.bsz, ok.noex, ok.exfs, ok.funs, ok.frf⟩
theorem Cx.Ok.unwish {X : Cx} {E : Value → Shared → Prop} (ok : (X.wish E).Ok) : X.Ok :=
  ⟨ok.mod, ok.kind, ok.glob, ok.blt, ok.above, ok.inj, ok.has, ok.cab, ok.hd, ok.frames, ok.stk, ok.exf, ok.bs, ok.bsz, ok.noex, ok.exfs, ok.funs, ok.frf⟩
section
variable {X : Cx} {pins : List (Addr × Obj)} {σ : St} {H : Hp} {s : Shared} {E : Value → Shared → Prop}
theorem Inv.wish (I : Inv X pins σ H s) (E : Value → Shared → Prop) : Inv (X.wish E) pins σ H s := ⟨I.ok.wish E, I.os, I.bare, I.base, I.loc, I.cell, I.free, I.freeC, I.pin, I.hok, I.len⟩
theorem Inv.unwish (I : Inv (X.wish E) pins σ H s) : Inv X pins σ H s := ⟨I.ok.unwish, I.os, I.bare, I.base, I.loc, I.cell, I.free, I.freeC, I.pin, I.hok, I.len⟩
theorem SP.unwish {D : Ends} {f : Flow} {s' : Shared} (h : SP (X.wish E) pins D f s') : SP X pins D f s' := by
  cases f with
  | next => obtain ⟨σ', H', I, q⟩ := h; exact ⟨σ', H', I.unwish, q⟩
  | brk => obtain ⟨σ', H', I, q⟩ := h; exact ⟨σ', H', I.unwish, q⟩
  | cont => obtain ⟨σ', H', I, q⟩ := h; exact ⟨σ', H', I.unwish, q⟩
  | ret u => obtain ⟨v, σ', H', I, r, q⟩ := h; exact ⟨v, σ', H', I.unwish, r, q⟩
theorem PSs.nox {st : List Stmt} {t : TS} (h : PSs X.nox st t) : PSs X st t := fun pins s σ H D I hw =>
  wpAny_mono (h pins s σ H D (I.wish _) hw) (fun _ _ q => q.unwish) fun _ _ z => False.elim z
end
section
variable {X : Cx} {st : Stmt} {rest : List Stmt} {t u : TS} {e : Expr} {te : TE} {pos : Pos}
def tNext : TS := fun D σ H => D.nx σ H
def tSeq (t u : TS) : TS := fun D σ H => t { D with nx := u D } σ H
theorem pss_nil : PSs X [] tNext := fun _ _ σ H _ I h => wpAny_execs_nil ⟨σ, H, I, h⟩
theorem pss_cons (h1 : PS X st t) (h2 : PSs X rest u) : PSs X (st :: rest) (tSeq t u) := by
  intro pins s σ H D I h
  refine wpAny_execs_cons (thn (h1 pins s σ H { D with nx := u D } I h) fun f s1 q => ?_)
  cases f with
  | next =>
    obtain ⟨σ', H', I', q⟩ := q
    exact h2 pins s1 σ' H' D I' q
  | ret v => exact q
  | brk => exact q
  | cont => exact q
theorem pss_one (h1 : PS X st t) : PSs X [st] t := by
  intro pins s σ H D I h
  refine wpAny_execs_cons (thn (h1 pins s σ H D I h) fun f s1 q => ?_)
  cases f with
  | next => exact wpAny_execs_nil q
  | ret v => exact q
  | brk => exact q
  | cont => exact q
theorem Inv.quiet {pins : List (Addr × Obj)} {σ : St} {H : Hp} {s : Shared} (I : Inv X pins σ H s) : interactive X.env = false := by simp [interactive, I.ok.kind]
def tDrop (te : TE) : TS := fun D σ H => te σ H fun _ H1 => D.nx σ H1
theorem ps_expr (he : PE X e te) (hs : swapsWith e none pos.line X.env = pure false := by rfl) : PS X (.Expr e pos) (tDrop te) := by
  intro pins s σ H D I h
  exact wpAny_Expr_any (thn (he pins s σ H _ I h) fun v s1 ⟨x, H1, I1, r1, q1⟩ => ⟨σ, H1, I1, q1⟩) I.quiet hs
def tRet (te : TE) : TS := fun D σ H => te σ H D.rt
theorem ps_ret (he : PE X e te) : PS X (.Return (some e) pos) (tRet te) := by
  intro pins s σ H D I h
  exact wpAny_Return_some (thn (he pins s σ H _ I h) fun v s1 ⟨x, H1, I1, r1, q1⟩ => ⟨x, σ, H1, I1, r1, q1⟩)
def tRetN : TS := fun D _ H => D.rt .non H
def tIfS (c : TT) (t u : TS) : TS := fun D σ H => c σ H fun b H1 => if b = true then t D σ H1 else u D σ H1
theorem ps_if {c : Expr} {a b : List Stmt} {tc : TT} (hc : PT X c tc) (ha : PSs X a t) (hb : PSs X b u) : PS X (.If c a b pos) (tIfS tc t u) := by
  intro pins s σ H D I h
  refine wpAny_If (thn (hc pins s σ H _ I h) fun d s1 ⟨H1, I1, q1⟩ => ?_)
  cases d with
  | true => exact ha pins s1 σ H1 D I1 q1
  | false => exact hb pins s1 σ H1 D I1 q1
def tNever : TS := fun _ _ _ => False
theorem ps_never : PS X st tNever := fun _ _ _ _ _ _ h => h.elim
end
abbrev TG := V → St → Hp → (St → Hp → Prop) → Prop
abbrev TGs := List V → St → Hp → (St → Hp → Prop) → Prop
def PG (X : Cx) (target : Expr) (t : TG) : Prop :=
  ∀ (pins : List (Addr × Obj)) (s : Shared) (σ : St) (H : Hp) (v : V) (u : Value) (Q : St → Hp → Prop), Inv X pins σ H s → RelV v u → t v σ H Q →
    wpAny (model X.prog X.w) X.A (assign target X.env u) (fun _ s' => ∃ σ' H', Inv X pins σ' H' s' ∧ Q σ' H') X.xe s
def PGs (X : Cx) (ts : List Expr) (t : TGs) : Prop :=
  ∀ (pins : List (Addr × Obj)) (s : Shared) (σ : St) (H : Hp) (vs : List V) (us : List Value) (Q : St → Hp → Prop), Inv X pins σ H s → Vals vs us → t vs σ H Q →
    wpAny (model X.prog X.w) X.A (assignInOrder ((assignEach ts X.env).map (·.2)) us) (fun _ s' => ∃ σ' H', Inv X pins σ' H' s' ∧ Q σ' H') X.xe s
abbrev TSet := V → V → V → Hp → (Hp → Prop) → Prop
def PSet (X : Cx) (t : TSet) : Prop :=
  ∀ (pins : List (Addr × Obj)) (s : Shared) (σ : St) (H : Hp) (o i v : V) (ov iv u : Value) (Q : Hp → Prop), Inv X pins σ H s → RelV o ov → RelV i iv → RelV v u → t o i v H Q →
    wpAny (model X.prog X.w) X.A (setItem ov iv u) (fun _ s' => ∃ H', Inv X pins σ H' s' ∧ Q H') X.xe s
abbrev TIp := V → V → Hp → VK → Prop
def PIp (X : Cx) (op : Operator) (t : TIp) : Prop :=
  ∀ (pins : List (Addr × Obj)) (s : Shared) (σ : St) (H : Hp) (x y : V) (v u : Value) (Q : VK), Inv X pins σ H s → RelV x v → RelV y u → t x y H Q →
    wpAny (model X.prog X.w) X.A (inplaceOp op v u) (EP X pins σ Q) X.xe s
section
variable {X : Cx} {pos : Pos}
def gName (i : Nat) : TG := fun v σ H Q => Q (σ.set i (some v)) H
theorem pg_name {i : Nat} {x : Str} (hN : X.N.Nodup) (hi : X.N[i]? = some x) (hx : Loc X.env.scope x) (hf : X.fn x = true ∨ X.env.scope.names.lookup x = some .local := by first | exact .inl rfl | exact .inr rfl | assumption) : PG X (.Name x pos) (gName i) := by
  intro pins s σ H v u Q I r h
  exact wpAny_assign_Name (store_ok I hN hi hx r (fun s' I' => ⟨_, H, I', h⟩) hf)
def gNil : TGs := fun vs σ H Q => vs = [] ∧ Q σ H
def gCons (t : TG) (u : TGs) : TGs := fun vs σ H Q => ∃ v r, vs = v :: r ∧ t v σ H fun σ' H' => u r σ' H' Q
theorem pgs_nil : PGs X [] gNil := by
  intro pins s σ H vs us Q I r h
  obtain ⟨e, h⟩ := h
  subst e
  cases r
  exact assignInOrder_nil ⟨σ, H, I, h⟩
theorem pgs_cons {e : Expr} {es : List Expr} {t : TG} {u : TGs} (h1 : PG X e t) (h2 : PGs X es u)
    (hs : (assignEach (e :: es) X.env).map (·.2) = assign e X.env :: (assignEach es X.env).map (·.2) := by rfl) : PGs X (e :: es) (gCons t u) := by
  intro pins s σ H vs us Q I r h
  obtain ⟨v, vr, e1, h⟩ := h
  subst e1
  cases r with
  | cons r rr =>
    rw [hs]
    refine assignInOrder_cons (thn (h1 pins s σ H _ _ _ I r h) fun _ s1 ⟨σ1, H1, I1, q1⟩ => ?_)
    exact h2 pins s1 σ1 H1 _ _ Q I1 rr q1
def gTup (K : PySem.W.Frag) (n : Nat) (t : TGs) : TG := fun v σ H Q => ∃ a xs, v = .ref a ∧ SqT K H a xs ∧ xs.length = n ∧ t xs σ H Q
theorem pg_tup {es : List Expr} {k : Nat} {t : TGs} {n : Nat} (hc : X.calm = true) (h : PGs X es t)
    (hn : (assignEach es X.env).length = n := by rfl) (hst : (assignEach es X.env).findIdx? (·.1) = none := by rfl) : PG X (.Tuple es k pos) (gTup X.K n t) := by
  intro pins s σ H v u Q I r hw
  obtain ⟨a, xs, e1, hq, hl, hw⟩ := hw
  subst e1
  cases r
  obtain ⟨its, rv, ht, hz⟩ := I.tuple hq
  refine assign_Tuple_tuple (I.ok.hd hc) ht (by simp [hn, ← hl, rv.length]) hst fun h' hx => ?_
  have I1 : Inv X pins σ H { s with heap := h' } := I.kept (t' := s.toks) fun b o e => hx b o (Nat.ne_of_lt (Heap.lt_size e)) e
  exact h pins _ σ H xs _ Q I1 (by simpa using rv) hw
def gSub (to ti : TE) (t : TSet) : TG := fun v σ H Q => to σ H fun o H1 => ti σ H1 fun i H2 => t o i v H2 fun H3 => Q σ H3
theorem pg_sub {o i : Expr} {to ti : TE} {t : TSet} (ho : PE X o to) (hi : PE X i ti) (hs : PSet X t)
    (ha : ∀ v, assign (.Subscript o i pos) X.env v = (do
      let ov ← holding [v] (eval o X.env)
      let iv ← holding [v, ov] (eval i X.env)
      standAt pos
      holding [v, ov, iv] (setItem ov iv v)
      release [v, ov, iv] []) := by intro _; rfl) : PG X (.Subscript o i pos) (gSub to ti t) := by
  intro pins s σ H v u Q I r h
  rw [ha]
  refine wpAny_bind (wpAny_holding (thn (ho pins s σ H _ I h) fun ov s1 ⟨x, H1, I1, r1, q1⟩ => ?_))
  refine wpAny_bind (wpAny_holding (thn (hi pins s1 σ H1 _ I1 q1) fun iv s2 ⟨y, H2, I2, r2, q2⟩ => ?_))
  refine wpAny_bind (wpAny_standAt (wpAny_bind (wpAny_holding (thn (hs pins s2 σ H2 x y v ov iv u _ I2 r1 r2 r q2) fun _ s3 ⟨H3, I3, q3⟩ => ?_))))
  exact wpAny_release ⟨σ, H3, I3, q3⟩
def tAsg (te : TE) (g : TG) : TS := fun D σ H => te σ H fun x H1 => g x σ H1 D.nx
theorem ps_asg {tg e : Expr} {te : TE} {g : TG} (he : PE X e te) (hg : PG X tg g) (hs : swapsWithSole [tg] e pos.line X.env = pure false := by rfl) (hw : swappedStores [tg] e X.env = pure none := by rfl)
    (h1 : (assignEach [tg] X.env).map (·.2) = [assign tg X.env] := by rfl) : PS X (.Assign [tg] e pos) (tAsg te g) := by
  intro pins s σ H D I h
  refine wpAny_Assign_stores (thn (he pins s σ H _ I h) fun v s1 ⟨x, H1, I1, r1, q1⟩ => ?_) hs hw
  rw [h1]
  exact thn (hg pins s1 σ H1 x v _ I1 r1 q1) fun _ s2 q => q
theorem ps_set {i : Nat} {x : Str} {e : Expr} {te : TE} {pos' : Pos} (hN : X.N.Nodup) (hi : X.N[i]? = some x) (hx : Loc X.env.scope x) (he : PE X e te) (hs : swapsWith e (some (.Name x pos')) pos.line X.env = pure false := by rfl) (hf : X.fn x = true ∨ X.env.scope.names.lookup x = some .local := by first | exact .inl rfl | exact .inr rfl | assumption) :
    PS X (.Assign [.Name x pos'] e pos) (tAsg te (gName i)) := by
  intro pins s σ H D I h
  refine wpAny_Assign_Name (thn (he pins s σ H _ I h) fun v s1 ⟨y, H1, I1, r1, q1⟩ => ?_) hs
  exact store_ok I1 hN hi hx r1 (fun s2 I2 => ⟨_, H1, I2, q1⟩) hf
def tPar (i j : Nat) (ta : TA) : TS := fun D σ H => ta σ H fun vs H1 => ∃ v w, vs = [v, w] ∧ D.nx ((σ.set i (some v)).set j (some w)) H1
def tAug (i : Nat) (te : TE) (ti : TIp) : TS := fun D σ H => ∃ x, σ[i]? = some (some x) ∧ te σ H fun y H1 => ti x y H1 fun z H2 => D.nx (σ.set i (some z)) H2
theorem ps_aug {i : Nat} {x : Str} {e : Expr} {te : TE} {op : Operator} {ti : TIp} {pos' : Pos} (hN : X.N.Nodup) (hi : X.N[i]? = some x) (hx : Loc X.env.scope x) (he : PE X e te) (ho : PIp X op ti) (hf : X.fn x = true ∨ X.env.scope.names.lookup x = some .local := by first | exact .inl rfl | exact .inr rfl | assumption) :
    PS X (.AugAssign (.Name x pos') op e pos) (tAug i te ti) := by
  intro pins s σ H D I h
  obtain ⟨v, e1, h⟩ := h
  obtain ⟨m, hn, hl⟩ := I.loc
  have vis : Vis X.env.scope x := by rcases hx with k | k; exact .inl k; exact .inr (.inl k)
  obtain ⟨u, r, l⟩ := hl i x v hi e1 vis
  refine wpAny_AugAssign_Name ?_
  have go : wpAny (model X.prog X.w) X.A (eval e X.env) (fun w s₂ => wpAny (model X.prog X.w) X.A (inplaceOp op u w) (fun r s₃ => wpAny (model X.prog X.w) X.A (storeName X.env x r) (fun _ => SP X pins D .next) X.xe s₃) X.xe s₂) X.xe s := by
    refine thn (he pins s σ H _ I h) fun w s1 ⟨y, H1, I1, r1, q1⟩ => ?_
    refine thn (ho pins s1 σ H1 v y u w _ I1 r r1 q1) fun z s2 ⟨zv, H2, I2, r2, q2⟩ => ?_
    exact store_ok I2 hN hi hx r2 (fun s3 I3 => ⟨_, H2, I3, q2⟩) hf
  rcases l with ⟨hk, hm⟩ | ⟨hk, c, hc, hcell⟩
  · exact wpAny_loadName_local I.ok.kind hk hn hm go
  · rcases hk with hk | hk
    · exact wpAny_loadName_cell I.ok.kind hk hc hcell go
    · rcases hx with k | k
      · have : X.env.scope.names.lookup x = some .free := hk
        rw [k] at this; cases this
      · have : X.env.scope.names.lookup x = some .free := hk
        rw [k] at this; cases this
def tAugS (to ti te : TE) (tget : V → V → Hp → VK → Prop) (tip : TIp) (tset : TSet) : TS := fun D σ H => to σ H fun o H1 => ti σ H1 fun i H2 => tget o i H2 fun x H3 => te σ H3 fun y H4 => tip x y H4 fun z H5 => tset o i z H5 fun H6 => D.nx σ H6
def PGet (X : Cx) (t : V → V → Hp → VK → Prop) : Prop :=
  ∀ (pins : List (Addr × Obj)) (s : Shared) (σ : St) (H : Hp) (o i : V) (ov iv : Value) (Q : VK), Inv X pins σ H s → RelV o ov → RelV i iv → t o i H Q →
    wpAny (model X.prog X.w) X.A (getItem ov iv) (EP X pins σ Q) X.xe s
theorem ps_augS {o i e : Expr} {to ti te : TE} {tget : V → V → Hp → VK → Prop} {tip : TIp} {tset : TSet} {op : Operator} {tpos : Pos} (ho : PE X o to) (hi : PE X i ti) (hg : PGet X tget) (he : PE X e te) (hp : PIp X op tip) (hs : PSet X tset)
    (ha : ∀ ov iv new, augStore i ov iv new = (do holding [new, ov, iv] (setItem ov iv new); release [new, ov, iv] []; pure .next) := by intros; rfl) : PS X (.AugAssign (.Subscript o i tpos) op e pos) (tAugS to ti te tget tip tset) := by
  intro pins s σ H D I h
  refine wpAny_AugAssign_SubscriptAny (thn (ho pins s σ H _ I h) fun ov s1 ⟨x1, H1, I1, r1, q1⟩ => ?_) ha
  refine thn (hi pins s1 σ H1 _ I1 q1) fun iv s2 ⟨x2, H2, I2, r2, q2⟩ => ?_
  refine thn (hg pins s2 σ H2 x1 x2 ov iv _ I2 r1 r2 q2) fun old s3 ⟨x3, H3, I3, r3, q3⟩ => ?_
  refine thn (he pins s3 σ H3 _ I3 q3) fun v s4 ⟨x4, H4, I4, r4, q4⟩ => ?_
  refine thn (hp pins s4 σ H4 x3 x4 old v _ I4 r3 r4 q4) fun new s5 ⟨x5, H5, I5, r5, q5⟩ => ?_
  exact thn (hs pins s5 σ H5 x1 x2 x5 ov iv new _ I5 r1 r2 r5 q5) fun _ s6 ⟨H6, I6, q6⟩ => ⟨σ, H6, I6, q6⟩
def ipI (f : Int → Int → Int) : TIp := fun x y H Q => ∃ i j, x = .int i ∧ y = .int j ∧ Q (.int (f i j)) H
theorem ip_add : PIp X .Add (ipI fun i j => i + j) := by
  intro pins s σ H x y v u Q I r1 r2 h
  obtain ⟨i, j, e1, e2, q⟩ := h
  subst e1; subst e2
  obtain ⟨t, rfl⟩ := r1
  obtain ⟨t', rfl⟩ := r2
  exact iadd_int ⟨.int _, H, I.tok _, ⟨_, rfl⟩, q⟩
end
section
variable {X : Cx} {pos : Pos}
def tWhile (c : TT) (tb : TS) : TS := fun D σ H => ∃ W : Nat → St → Hp → Prop, (∃ m, W m σ H) ∧ ∀ m σ H, W m σ H →
  c σ H fun b H1 => if b = true then ∃ N : St → Hp → Prop, (∀ σ' H', N σ' H' → ∃ m', m' < m ∧ W m' σ' H') ∧ tb { D with nx := N, ct := N, bk := D.nx } σ H1 else D.nx σ H1
theorem ps_while {c : Expr} {body : List Stmt} {tc : TT} {tb : TS} (hp : PassesOwn (model X.prog X.w) X.A X.env X.xe) (hc : PT X c tc) (hb : PSs X body tb) : PS X (.While c body [] pos) (tWhile tc tb) := by
  intro pins s σ H D I h
  obtain ⟨W, ⟨m0, w0⟩, turn⟩ := h
  refine wpAny_While (codeAny_whileLoop (fun n s' => ∃ σ' H', Inv X pins σ' H' s' ∧ W n σ' H') ?_ m0 ⟨σ, H, I, w0⟩)
  rintro n s1 ⟨σ1, H1, I1, w1⟩
  refine wpAny_passesOwn hp (thn (hc pins s1 σ1 H1 _ I1 (turn n σ1 H1 w1)) fun b s2 ⟨H2, I2, q2⟩ => ?_)
  cases b with
  | true =>
    obtain ⟨N, hN, q2⟩ := q2
    rw [if_pos rfl]
    refine wpAny_passesOwn hp (thn (hb pins s2 σ1 H2 _ I2 q2) fun f s3 q3 => ?_)
    cases f with
    | next =>
      obtain ⟨σ3, H3, I3, n3⟩ := q3
      obtain ⟨m', hm, w3⟩ := hN σ3 H3 n3
      exact ⟨m', hm, σ3, H3, I3, w3⟩
    | cont =>
      obtain ⟨σ3, H3, I3, n3⟩ := q3
      obtain ⟨m', hm, w3⟩ := hN σ3 H3 n3
      exact ⟨m', hm, σ3, H3, I3, w3⟩
    | brk => exact q3
    | ret v => exact q3
  | false =>
    rw [if_neg Bool.false_ne_true]
    exact wpAny_execs_nil ⟨σ1, H2, I2, q2⟩
end
structure It where
  go : Nat → Hp → Prop
  yld : Nat → Hp → V → Hp → Prop
  stop : Nat → Hp → Prop
def FpOk (X : Cx) (pins : List (Addr × Obj)) (H : Hp) (b : Addr) : Prop :=
  H b = none ∧ b ≠ X.env.locals ∧ b ∉ X.fs ∧ (b ∈ X.ex ∨ X.s₀.heap.objs.size ≤ b) ∧ (∀ x c, X.env.cells.lookup x = some c → c ≠ b) ∧ ∀ p ∈ X.pn ++ pins, p.1 ≠ b
theorem Inv.fpOk {X : Cx} {pins : List (Addr × Obj)} {σ : St} {H H' : Hp} {s : Shared} {b : Addr} (I : Inv X pins σ H s) (hb : s.heap.objs.size ≤ b) (hn : H' b = none) : FpOk X pins H' b := by
  refine ⟨hn, Nat.ne_of_gt (Nat.lt_of_lt_of_le I.lt hb), I.nofs hb, .inr (Nat.le_trans I.sz hb), fun x c e z => ?_, fun p hp z => ?_⟩
  · obtain ⟨v, q⟩ := I.cell x c e
    exact absurd (Nat.lt_of_lt_of_le q.lt (by rw [z]; exact hb)) (Nat.lt_irrefl _)
  · exact absurd (Nat.lt_of_lt_of_le (Heap.lt_size (I.pin p hp).1) (by rw [z]; exact hb)) (Nat.lt_irrefl _)
structure Turn (P : Program) (w : World) (K : PySem.W.Frag) (tg : Expr) (J : It) (fp : List Addr) (it : Addr) (tn : Nat → Heap → Prop) : Prop where
  mem : it ∈ fp
  obj : ∀ i h, tn i h → ∀ b ∈ fp, ∃ o, h.get? b = some o ∧ ∀ v, o.data ≠ .cell v
  keep : ∀ i h h', tn i h → (∀ b ∈ fp, ∀ o, h.get? b = some o → h'.get? b = some o) → tn i h'
  item : ∀ (X : Cx), X.prog = P → X.w = w → X.K = K → X.calm = true → ∀ (i : Nat) (pins : List (Addr × Obj)) (s : Shared) (σ : St) (H : Hp) (E : Value → Shared → Prop), Inv X pins σ H s → (∀ b ∈ fp, FpOk X pins H b) → tn i s.heap → J.go i H →
    wpAny (model P w) X.A (pyNext (.ref it)) (fun r s1 => ∃ u, r = some u ∧
      wpAny (model P w) X.A (letOwnedTupleGo tg (.ref it) u) (fun _ s2 => ∃ x H', Inv X pins σ H' s2 ∧ RelV x u ∧ J.yld i H x H' ∧ tn (i + 1) s2.heap ∧ ∀ b ∈ fp, H' b = none) E s1) E s
  done : ∀ (X : Cx), X.prog = P → X.w = w → X.K = K → X.calm = true → ∀ (i : Nat) (pins : List (Addr × Obj)) (s : Shared) (σ : St) (H : Hp) (E : Value → Shared → Prop), Inv X pins σ H s → (∀ b ∈ fp, FpOk X pins H b) → tn i s.heap → J.stop i H →
    wpAny (model P w) X.A (pyNext (.ref it)) (fun r s1 => r = none ∧ Inv X pins σ H s1) E s
  self : ∀ (A : Around) (i : Nat) (s : Shared) (Q : Value → Shared → Prop) (E : Value → Shared → Prop), tn i s.heap → Q (.ref it) s → wpAny (model P w) A (pyIter (.ref it)) Q E s
abbrev TI := St → Hp → (It → Hp → Prop) → Prop
def PIE (X : Cx) (pins : List (Addr × Obj)) (σ : St) (tg : Expr) (R : It → Hp → Prop) (itv : Value) (s2 : Shared) : Prop :=
  ∃ (it : Addr) (fp : List Addr) (tn : Nat → Heap → Prop) (J : It) (H' : Hp), itv = .ref it ∧ Inv X pins σ H' s2 ∧ Turn X.prog X.w X.K tg J fp it tn ∧ tn 0 s2.heap ∧ (∀ b ∈ fp, FpOk X pins H' b) ∧ R J H'
def PI (X : Cx) (tg iter : Expr) (wi : TI) : Prop :=
  ∀ (pins : List (Addr × Obj)) (s : Shared) (σ : St) (H : Hp) (R : It → Hp → Prop), Inv X pins σ H s → wi σ H R →
    wpAny (model X.prog X.w) X.A (eval iter X.env) (fun v s1 => wpAny (model X.prog X.w) X.A (pyIter v) (PIE X pins σ tg R) X.xe s1) X.xe s
theorem go_of {M : Model} {A : Around} {E : Value → Shared → Prop} {s : Shared} {tg : Expr} {it : Addr} {u : Value} {o : Obj} {n : String} {vs : Array Value} {Q : Unit → Shared → Prop} (ho : s.heap.get? it = some o) (hc : o.cls = .type n) (hd : o.data = .fields vs)
    (hn : ["enumerate", "zip", "dict_itemiterator", "dict_reverseitemiterator", "odict_iterator", "itertools.zip_longest", "itertools.pairwise"].contains n = false) (hQ : Q () s) : wpAny M A (letOwnedTupleGo tg (.ref it) u) Q E s := by
  unfold letOwnedTupleGo
  cases tg <;> first
    | exact wpAny_pure hQ
    | (cases u <;> first
        | exact wpAny_pure hQ
        | (refine wpAny_bind (wpAny_load ho ?_)
           rw [hc, hd]
           show wpAny M A (if (["enumerate", "zip", "dict_itemiterator", "dict_reverseitemiterator", "odict_iterator", "itertools.zip_longest", "itertools.pairwise"].contains n && vs[0]? == some (rawInt _)) = true then _ else _) Q E s
           rw [if_neg (by intro h; rw [hn, Bool.false_and] at h; cases h)]
           exact wpAny_pure hQ))
def Itl (K : PySem.W.Frag) (a : Addr) : It :=
  ⟨fun i H => ∃ xs x, SqL K H a xs ∧ xs[i]? = some x, fun i H x H' => H' = H ∧ ∀ xs, SqL K H a xs → xs[i]? = some x, fun i H => ∃ xs, SqL K H a xs ∧ xs.length ≤ i⟩
def Itt (K : PySem.W.Frag) (a : Addr) : It :=
  ⟨fun i H => ∃ xs x, SqT K H a xs ∧ xs[i]? = some x, fun i H x H' => H' = H ∧ ∀ xs, SqT K H a xs → xs[i]? = some x, fun i H => ∃ xs, SqT K H a xs ∧ xs.length ≤ i⟩
def Itr (lo : Int) (n : Nat) : It := ⟨fun i _ => i < n, fun i H x H' => H' = H ∧ x = .int (lo + i), fun i _ => n ≤ i⟩
theorem turn_list {P : Program} {w : World} {K : PySem.W.Frag} {tg : Expr} (a it : Addr) : Turn P w K tg (Itl K a) [it] it (fun i h => h.IsListIter it a i) where
  mem := by simp
  obj := fun i h st b hb => by
    have e : b = it := by simpa using hb
    subst e
    obtain ⟨o, e, c, d⟩ := st
    exact ⟨o, e, fun v z => by rw [d] at z; cases z⟩
  keep := fun i h h' st k => st.at fun o e => k it (by simp) o e
  item := by
    intro X hP hw hK hc i pins s σ H E I hf st hg
    subst hP hw hK
    obtain ⟨xs, x, hq, hx⟩ := hg
    obtain ⟨its, rv, p, hz⟩ := I.list hq
    obtain ⟨u, hu, ru⟩ := rv.get hx
    obtain ⟨f0, f1, f2, f3, f4, f5⟩ := hf it (by simp)
    refine wpAny_pyNext_list_item st p.isList (x := u) (by simpa using hu) fun h' st' sb => ?_
    have I1 : Inv X pins σ H { s with heap := h' } := I.turned (t' := s.toks) (fun b o hb e => (sb.2 b hb).trans e) f0 f1 f3 f4 f5
    obtain ⟨o, e, c, d⟩ := id st'
    exact ⟨u, rfl, go_of (s := { s with heap := h' }) e c d (by decide) ⟨x, H, I1, ru, ⟨rfl, fun ys hy => by rw [I.list_inj hy hq]; exact hx⟩, st', fun b hb => (hf b hb).1⟩⟩
  done := by
    intro X hP hw hK hc i pins s σ H E I hf st hg
    subst hP hw hK
    obtain ⟨xs, hq, hx⟩ := hg
    obtain ⟨its, rv, p, hz⟩ := I.list hq
    obtain ⟨f0, f1, f2, f3, f4, f5⟩ := hf it (by simp)
    have hl := rv.length
    exact wpAny_pyNext_list_end (I.ok.hd hc) st p.isList (by simp; omega) fun h' eb => ⟨rfl, I.turned (t' := s.toks) (fun b o hb e => eb b o hb e) f0 f1 f3 f4 f5⟩
  self := fun _ _ _ _ _ st h => wpAny_pyIter_listiter st h
theorem turn_range {P : Program} {w : World} {K : PySem.W.Frag} {tg : Expr} (it : Addr) (lo : Int) (n : Nat) : Turn P w K tg (Itr lo n) [it] it (fun i h => IsRangeIter h it (lo + (i : Nat) * 1) ((n : Int) - (i : Nat)) 1) where
  mem := by simp
  obj := fun i h st b hb => by
    have e : b = it := by simpa using hb
    subst e
    exact ⟨_, st, fun v z => by
      have z' : Data.fields _ = Data.cell v := z
      cases z'⟩
  keep := fun i h h' st k => k it (by simp) _ st
  item := by
    intro X hP hw hK hc i pins s σ H E I hf st hg
    subst hP hw hK
    obtain ⟨f0, f1, f2, f3, f4, f5⟩ := hf it (by simp)
    have W := Walks.range (prog := X.prog) (w := X.w) (I.ok.hd hc) it lo 1 n
    refine W.item i s _ _ hg st fun v h' tk hv st' kk => ?_
    obtain ⟨t, rfl⟩ := hv
    have I1 : Inv X pins σ H { s with heap := h', toks := tk } := I.turned (fun b o hb e => kk b o (by simpa using hb) e) f0 f1 f3 f4 f5
    refine ⟨_, rfl, go_of (s := { s with heap := h', toks := tk }) (n := "range_iterator") st' rfl rfl (by decide) ⟨.int (lo + i), H, I1, ⟨t, ?_⟩, ⟨rfl, rfl⟩, st', fun b hb => (hf b hb).1⟩⟩
    rw [Int.mul_one]
  done := by
    intro X hP hw hK hc i pins s σ H E I hf st hg
    subst hP hw hK
    obtain ⟨f0, f1, f2, f3, f4, f5⟩ := hf it (by simp)
    exact wpAny_pyNext_range_end (I.ok.hd hc) st (by have : n ≤ i := hg; omega) fun h' eb => ⟨rfl, I.turned (t' := s.toks) (fun b o hb e => eb b o hb e) f0 f1 f3 f4 f5⟩
  self := fun _ _ _ _ _ st h => wpAny_pyIter_rangeiter st h
end L2
namespace L2
open PySem PySem.Spec PyProof.Rows
section
variable {X : Cx} {tg : Expr}
def iList (K : PySem.W.Frag) (tl : TE) : TI := fun σ H R => tl σ H fun x H1 => ∃ a, x = .ref a ∧ (∃ xs, SqL K H1 a xs) ∧ R (Itl K a) H1
def iTup (K : PySem.W.Frag) (tl : TE) : TI := fun σ H R => tl σ H fun x H1 => ∃ a, x = .ref a ∧ (∃ xs, SqT K H1 a xs) ∧ R (Itt K a) H1
theorem pi_list {l : Expr} {tl : TE} (hl : PE X l tl) : PI X tg l (iList X.K tl) := by
  intro pins s σ H R I h
  refine thn (hl pins s σ H _ I h) fun v s1 ⟨x, H1, I1, r1, q1⟩ => ?_
  obtain ⟨a, e, ⟨xs, hq⟩, q⟩ := q1
  subst e
  cases r1
  obtain ⟨its, rv, p, hz⟩ := I1.list hq
  refine wpAny_pyIter_list p.isList ?_
  refine ⟨s1.heap.objs.size, [s1.heap.objs.size], _, _, H1, rfl, I1.kept (t' := s1.toks) fun b o e => Heap.get?_push_of_some _ e, turn_list a _, ⟨_, Heap.get?_push_size _ rfl, rfl, rfl⟩, fun b hb => ?_, q⟩
  have e : b = s1.heap.objs.size := by simpa using hb
  subst e
  exact I1.fpOk (Nat.le_refl _) (I1.hok.fresh (Nat.le_refl _))
theorem range_it {pins : List (Addr × Obj)} {σ : St} {H : Hp} {s : Shared} {R : It → Hp → Prop} {E : Value → Shared → Prop} {lo hi : Int} {t u v : Tok} {tk : Nat} (I : Inv X pins σ H s) (h1 : -(2 ^ 62) ≤ lo) (h2 : lo < 2 ^ 62) (h3 : -(2 ^ 62) ≤ hi) (h4 : hi < 2 ^ 62)
    (q : R (Itr lo (hi - lo).toNat) H) : wpAny (model X.prog X.w) X.A (pyIter (.ref s.heap.objs.size)) (PIE X pins σ tg R) E { s with heap := s.heap.push { cls := .type "range", data := .fields #[.int lo t, .int hi u, .int 1 v] }, toks := tk } := by
  refine wpAny_pyIter_range (IsRange.new ..) (small_one h1 h2 h3 h4) ?_
  have I1 : Inv X pins σ H { s with heap := s.heap.push { cls := .type "range", data := .fields #[.int lo t, .int hi u, .int 1 v] }, toks := tk } := I.kept fun b o e => Heap.get?_push_of_some _ e
  refine ⟨(s.heap.push { cls := .type "range", data := .fields #[.int lo t, .int hi u, .int 1 v] }).objs.size, [(s.heap.push { cls := .type "range", data := .fields #[.int lo t, .int hi u, .int 1 v] }).objs.size], _, _, H, rfl,
    I1.kept (t' := tk) fun b o e => Heap.get?_push_of_some _ e, turn_range _ lo (hi - lo).toNat, ?_, fun b hb => ?_, q⟩
  · have e1 : lo + ((0 : Nat) : Int) * 1 = lo := by simp
    have e2 : (((hi - lo).toNat : Nat) : Int) - ((0 : Nat) : Int) = Builtin.Range.rangeSize lo hi 1 := by rw [rangeSize_one]; split <;> omega
    show IsRangeIter _ _ (lo + ((0 : Nat) : Int) * 1) ((((hi - lo).toNat : Nat) : Int) - ((0 : Nat) : Int)) 1
    rw [e1, e2]
    exact Heap.get?_push_size _ rfl
  · have e : b = (s.heap.push { cls := .type "range", data := .fields #[.int lo t, .int hi u, .int 1 v] }).objs.size := by simpa using hb
    subst e
    exact I1.fpOk (Nat.le_refl _) (I1.hok.fresh (Nat.le_refl _))
def iRng1 (ta : TA) : TI := fun σ H R => ta σ H fun vs H1 => ∃ j : Int, vs = [.int j] ∧ -(2 ^ 62) ≤ j ∧ j < 2 ^ 62 ∧ R (Itr 0 j.toNat) H1
def iRng2 (ta : TA) : TI := fun σ H R => ta σ H fun vs H1 => ∃ i j : Int, vs = [.int i, .int j] ∧ (-(2 ^ 62) ≤ i ∧ i < 2 ^ 62 ∧ -(2 ^ 62) ≤ j ∧ j < 2 ^ 62) ∧ R (Itr i (j - i).toNat) H1
theorem pi_range1 {a : Expr} {ta : TA} {p pos : Pos} (hg : Gl X "range") (hm : X.mg "range" = none) (ha : PA X [a] ta) (hs : starEach [a] X.env = [(false, eval a X.env)] := by rfl) : PI X tg (.Call (.Name "range" p) [a] [] pos) (iRng1 ta) := by
  intro pins s σ H R I h
  refine Call_ (ld_blt I hg hm boot_range (PyProof.Rows.callWith_type1 (thn (ha pos pins s σ H _ I h) fun us s1 ⟨vs, H1, I1, r1, q1⟩ => ?_) hs rfl))
  obtain ⟨j, e, q1, q2, q⟩ := q1
  subst e
  cases r1 with
  | cons r rr =>
    cases rr
    obtain ⟨t, rfl⟩ := r
    exact call_range_1 (range_it I1 (by omega) (by omega) q1 q2 (by simpa using q))
theorem pi_range2 {a b : Expr} {ta : TA} {p pos : Pos} (hg : Gl X "range") (hm : X.mg "range" = none) (ha : PA X [a, b] ta) (hs : starEach [a, b] X.env = [(false, eval a X.env), (false, eval b X.env)] := by rfl) (hs2 : starEach [b] X.env = [(false, eval b X.env)] := by rfl) :
    PI X tg (.Call (.Name "range" p) [a, b] [] pos) (iRng2 ta) := by
  intro pins s σ H R I h
  refine Call_ (ld_blt I hg hm boot_range (PyProof.Rows.callWith_type1 (thn (ha pos pins s σ H _ I h) fun us s1 ⟨vs, H1, I1, r1, q1⟩ => ?_) (by rw [hs, hs2]) (by rw [hs2]; rfl)))
  obtain ⟨i, j, e, ⟨q1, q2, q3, q4⟩, q⟩ := q1
  subst e
  cases r1 with
  | cons r rr =>
    cases rr with
    | cons r' rr =>
      cases rr
      obtain ⟨t, rfl⟩ := r
      obtain ⟨t', rfl⟩ := r'
      exact call_range_2 (range_it I1 q1 q2 q3 q4 q)
def tFor (wi : TI) (g : TG) (tb : TS) : TS := fun D σ H => wi σ H fun J H1 => ∃ W : Nat → Nat → St → Hp → Prop, (∃ m, W 0 m σ H1) ∧ ∀ i m σ H, W i m σ H →
  (J.stop i H ∧ D.nx σ H) ∨ (J.go i H ∧ ∃ N : St → Hp → Prop, (∀ σ' H', N σ' H' → ∃ m', m' < m ∧ W (i + 1) m' σ' H') ∧ ∀ x H', J.yld i H x H' → g x σ H' fun σ2 H2 => tb { D with nx := N, ct := N, bk := D.nx } σ2 H2)
def pinsAt (fp : List Addr) (h : Heap) : List (Addr × Obj) := fp.filterMap fun b => (h.get? b).map fun o => (b, o)
theorem mem_pinsAt {fp : List Addr} {h : Heap} {b : Addr} {o : Obj} (hb : b ∈ fp) (e : h.get? b = some o) : (b, o) ∈ pinsAt fp h := List.mem_filterMap.mpr ⟨b, hb, by rw [e]; rfl⟩
theorem of_pinsAt {fp : List Addr} {h : Heap} {p : Addr × Obj} (hp : p ∈ pinsAt fp h) : p.1 ∈ fp ∧ h.get? p.1 = some p.2 := by
  obtain ⟨b, hb, e⟩ := List.mem_filterMap.mp hp
  cases q : h.get? b with
  | none => rw [q] at e; cases e
  | some o =>
    rw [q] at e
    have e' : (b, o) = p := Option.some.inj e
    subst e'
    exact ⟨hb, q⟩
theorem Inv.pinned {pins : List (Addr × Obj)} {σ : St} {H : Hp} {s : Shared} {fp : List Addr} (I : Inv X pins σ H s) (hf : ∀ b ∈ fp, FpOk X pins H b) (ho : ∀ b ∈ fp, ∃ o, s.heap.get? b = some o ∧ ∀ v, o.data ≠ .cell v) : Inv X (pins ++ pinsAt fp s.heap) σ H s :=
  I.pins_of fun p hp => (List.mem_append.mp hp).elim (fun z => I.pin p (List.mem_append_right _ z)) fun z => by
    obtain ⟨hb, e⟩ := of_pinsAt z
    obtain ⟨f0, f1, f2, _⟩ := hf p.1 hb
    obtain ⟨o, e', d⟩ := ho p.1 hb
    rw [e] at e'; cases e'
    exact ⟨e, f0, f1, f2, d⟩
theorem Inv.unpinned {pins pl : List (Addr × Obj)} {σ : St} {H : Hp} {s : Shared} (I : Inv X (pins ++ pl) σ H s) : Inv X pins σ H s := I.pins_of fun p hp => I.pin p (List.mem_append_right _ (List.mem_append_left _ hp))
theorem ps_for {iter : Expr} {body : List Stmt} {wi : TI} {g : TG} {tb : TS} {pos : Pos} (hp : PassesOwn (model X.prog X.w) X.A X.env X.xe) (hc : X.calm = true) (hi : PI X tg iter wi) (hg : PG X tg g) (hb : PSs X body tb)
    (hs : ∀ x, foldedSetIterable iter X.env x = pure x := by intro _; rfl) : PS X (.For tg iter body [] pos) (tFor wi g tb) := by
  intro pins s σ H D I h
  refine wpAny_For (thn (hi pins s σ H _ I h) fun v s1 h1 => thn h1 fun itv s2 h2 => ?_) hs
  obtain ⟨it, fp, tn, J, H2, e, I2, T, st2, f2, W, ⟨m0, w0⟩, turn⟩ := h2
  subst e
  have stat : ∀ {H' : Hp}, (∀ b ∈ fp, H' b = none) → ∀ b ∈ fp, FpOk X pins H' b := fun hn b hb => ⟨hn b hb, (f2 b hb).2⟩
  refine codeAny_forLoop_any (fun n s' => ∃ i σ' H', Inv X pins σ' H' s' ∧ tn i s'.heap ∧ (∀ b ∈ fp, H' b = none) ∧ W i n σ' H') ?_ m0 ⟨0, σ, H2, I2, st2, fun b hb => (f2 b hb).1, w0⟩
  rintro n s3 ⟨i, σ3, H3, I3, st3, fr3, w3⟩
  rcases turn i n σ3 H3 w3 with ⟨stop, qn⟩ | ⟨go, N, hN, step⟩
  · refine wpAny_passesOwn hp (thn (T.done X rfl rfl rfl hc i pins s3 σ3 H3 X.xe I3 (stat fr3) st3 stop) fun r s4 ⟨hr, I4⟩ => ?_)
    subst hr
    exact wpAny_execs_nil ⟨σ3, H3, I4, qn⟩
  · refine wpAny_passesOwn hp (thn (T.item X rfl rfl rfl hc i pins s3 σ3 H3 X.xe I3 (stat fr3) st3 go) fun r s4 ⟨u, hr, h4⟩ => ?_)
    subst hr
    refine wpAny_passesOwn hp (thn h4 fun _ s5 ⟨x, H5, I5, r5, y5, st5, fr5⟩ => ?_)
    have I5' := I5.pinned (stat fr5) (T.obj _ _ st5)
    refine wpAny_passesOwn hp (thn (hg _ s5 σ3 H5 x u _ I5' r5 (step x H5 y5)) fun _ s6 ⟨σ6, H6, I6, q6⟩ => ?_)
    refine wpAny_passesOwn hp (thn (hb _ s6 σ6 H6 _ I6 q6) fun f s7 q7 => ?_)
    have again : ∀ {σ7 : St} {H7 : Hp}, Inv X (pins ++ pinsAt fp s5.heap) σ7 H7 s7 → N σ7 H7 → ∃ m, m < n ∧ ∃ i σ' H', Inv X pins σ' H' s7 ∧ tn i s7.heap ∧ (∀ b ∈ fp, H' b = none) ∧ W i m σ' H' := fun {σ7 H7} I7 n7 => by
      obtain ⟨m', hm, w7⟩ := hN σ7 H7 n7
      refine ⟨m', hm, i + 1, σ7, H7, I7.unpinned, T.keep _ _ _ st5 fun b hb o e => (I7.pin (b, o) (List.mem_append_right _ (List.mem_append_right _ (mem_pinsAt hb e)))).1, fun b hb => ?_, w7⟩
      obtain ⟨o, e, d⟩ := T.obj _ _ st5 b hb
      exact (I7.pin (b, o) (List.mem_append_right _ (List.mem_append_right _ (mem_pinsAt hb e)))).2.1
    cases f with
    | next => obtain ⟨σ7, H7, I7, n7⟩ := q7; exact again I7 n7
    | cont => obtain ⟨σ7, H7, I7, n7⟩ := q7; exact again I7 n7
    | brk => obtain ⟨σ7, H7, I7, q7⟩ := q7; exact ⟨σ7, H7, I7.unpinned, q7⟩
    | ret v => obtain ⟨x7, σ7, H7, I7, r7, q7⟩ := q7; exact ⟨x7, σ7, H7, I7.unpinned, r7, q7⟩
end
theorem for_list {K : PySem.W.Frag} {a : Addr} {xs : List V} {g : TG} {tb : TS} {D : Ends} {σ : St} {H : Hp} (Pv : Nat → St → Hp → Prop) (h0 : Pv 0 σ H) (hl : ∀ i σ H, i ≤ xs.length → Pv i σ H → SqL K H a xs)
    (hs : ∀ i x σ H, xs[i]? = some x → Pv i σ H → g x σ H fun σ2 H2 => tb { D with nx := Pv (i + 1), ct := Pv (i + 1), bk := D.nx } σ2 H2) (hd : ∀ σ H, Pv xs.length σ H → D.nx σ H) :
    ∃ W : Nat → Nat → St → Hp → Prop, (∃ m, W 0 m σ H) ∧ ∀ i m σ H, W i m σ H →
      ((Itl K a).stop i H ∧ D.nx σ H) ∨ ((Itl K a).go i H ∧ ∃ N : St → Hp → Prop, (∀ σ' H', N σ' H' → ∃ m', m' < m ∧ W (i + 1) m' σ' H') ∧ ∀ x H', (Itl K a).yld i H x H' → g x σ H' fun σ2 H2 => tb { D with nx := N, ct := N, bk := D.nx } σ2 H2) := by
  refine ⟨fun i m σ H => m = xs.length - i ∧ i ≤ xs.length ∧ Pv i σ H, ⟨xs.length, by simp, Nat.zero_le _, h0⟩, ?_⟩
  rintro i m σ H ⟨rfl, hi, p⟩
  have q := hl i σ H hi p
  by_cases hlt : i < xs.length
  · refine .inr ⟨⟨xs, xs[i], q, by simp [hlt]⟩, Pv (i + 1), fun σ' H' p' => ⟨xs.length - (i + 1), by omega, rfl, hlt, p'⟩, fun x H' y => ?_⟩
    obtain ⟨e, y⟩ := y
    subst e
    exact hs i x σ _ (y xs q) p
  · have e : i = xs.length := by omega
    subst e
    exact .inl ⟨⟨xs, q, Nat.le_refl _⟩, hd σ H p⟩
theorem for_range {lo : Int} {n : Nat} {g : TG} {tb : TS} {D : Ends} {σ : St} {H : Hp} (Pv : Nat → St → Hp → Prop) (h0 : Pv 0 σ H)
    (hs : ∀ i σ H, i < n → Pv i σ H → g (.int (lo + i)) σ H fun σ2 H2 => tb { D with nx := Pv (i + 1), ct := Pv (i + 1), bk := D.nx } σ2 H2) (hd : ∀ σ H, Pv n σ H → D.nx σ H) :
    ∃ W : Nat → Nat → St → Hp → Prop, (∃ m, W 0 m σ H) ∧ ∀ i m σ H, W i m σ H →
      ((Itr lo n).stop i H ∧ D.nx σ H) ∨ ((Itr lo n).go i H ∧ ∃ N : St → Hp → Prop, (∀ σ' H', N σ' H' → ∃ m', m' < m ∧ W (i + 1) m' σ' H') ∧ ∀ x H', (Itr lo n).yld i H x H' → g x σ H' fun σ2 H2 => tb { D with nx := N, ct := N, bk := D.nx } σ2 H2) := by
  refine ⟨fun i m σ H => m = n - i ∧ i ≤ n ∧ Pv i σ H, ⟨n, by simp, Nat.zero_le _, h0⟩, ?_⟩
  rintro i m σ H ⟨rfl, hi, p⟩
  by_cases hlt : i < n
  · refine .inr ⟨hlt, Pv (i + 1), fun σ' H' p' => ⟨n - (i + 1), by omega, rfl, hlt, p'⟩, fun x H' y => ?_⟩
    obtain ⟨e, y⟩ := y
    subst e y
    exact hs i σ _ hlt p
  · have e : i = n := by omega
    subst e
    exact .inl ⟨Nat.le_refl _, hd σ H p⟩
end L2
namespace L2
open PySem PySem.Spec PyProof.Rows
abbrev R2 := V → V → Hp → VK → Prop
def OpR (X : Cx) (f : Value → Value → Sem Value) (r : R2) : Prop :=
  ∀ (pins : List (Addr × Obj)) (s : Shared) (σ : St) (H : Hp) (x y : V) (v u : Value) (Q : VK), Inv X pins σ H s → RelV x v → RelV y u → r x y H Q →
    wpAny (model X.prog X.w) X.A (f v u) (EP X pins σ Q) X.xe s
def UnR (X : Cx) (f : Value → Sem Value) (r : V → Hp → VK → Prop) : Prop :=
  ∀ (pins : List (Addr × Obj)) (s : Shared) (σ : St) (H : Hp) (x : V) (v : Value) (Q : VK), Inv X pins σ H s → RelV x v → r x H Q →
    wpAny (model X.prog X.w) X.A (f v) (EP X pins σ Q) X.xe s
def CallR (X : Cx) (f : Value) (r : List V → Hp → VK → Prop) : Prop :=
  ∀ (pins : List (Addr × Obj)) (s : Shared) (σ : St) (H : Hp) (xs : List V) (us : List Value) (Q : VK), Inv X pins σ H s → Vals xs us → r xs H Q →
    wpAny (model X.prog X.w) X.A (call f us) (EP X pins σ Q) X.xe s
def tOp (r : R2) (ta tb : TE) : TE := fun σ H Q => ta σ H fun x H1 => tb σ H1 fun y H2 => r x y H2 Q
def tUn (r : V → Hp → VK → Prop) (ta : TE) : TE := fun σ H Q => ta σ H fun x H1 => r x H1 Q
def rI (C : Int → Int → Prop) (g : Int → Int → V) : R2 := fun x y H Q => ∃ i j, x = .int i ∧ y = .int j ∧ C i j ∧ Q (g i j) H
def rI0 (g : Int → Int → V) : R2 := fun x y H Q => ∃ i j, x = .int i ∧ y = .int j ∧ Q (g i j) H
def rU (g : Int → V) : V → Hp → VK → Prop := fun x H Q => ∃ i, x = .int i ∧ Q (g i) H
section
variable {X : Cx} {a b c : Expr} {ta tb tc : TE} {pos : Pos}
theorem binT (ha : PE X a ta) (hb : PE X b tb) {pins : List (Addr × Obj)} {s : Shared} {σ : St} {H : Hp} {R : V → V → Hp → Prop} (I : Inv X pins σ H s)
    (h : ta σ H fun x H1 => tb σ H1 fun y H2 => R x y H2) {Q : Value → Shared → Prop} {f : Value → Value → Sem Value}
    (hf : ∀ v u s2 x y H2, Inv X pins σ H2 s2 → RelV x v → RelV y u → R x y H2 → wpAny (model X.prog X.w) X.A (f v u) Q X.xe s2) :
    wpAny (model X.prog X.w) X.A (eval a X.env) (fun v s₁ => wpAny (model X.prog X.w) X.A (eval b X.env) (fun u s₂ => wpAny (model X.prog X.w) X.A (f v u) Q X.xe s₂) X.xe s₁) X.xe s := by
  refine thn (ha pins s σ H _ I h) fun v s1 ⟨x, H1, I1, r1, q1⟩ => ?_
  refine thn (hb pins s1 σ H1 _ I1 q1) fun u s2 ⟨y, H2, I2, r2, q2⟩ => ?_
  exact hf v u s2 x y H2 I2 r1 r2 q2
theorem pe_op {op : Operator} {r : R2} (ho : OpR X (binaryOp op) r) (ha : PE X a ta) (hb : PE X b tb) : PE X (.BinOp a op b pos) (tOp r ta tb) := by
  intro pins s σ H Q I h
  exact wpAny_BinOp (binT ha hb I h fun v u s2 x y H2 I2 rx ry q => ho pins s2 σ H2 x y v u Q I2 rx ry q)
theorem pe_un {op : UnaryOp} {r : V → Hp → VK → Prop} (ho : UnR X (unaryOp op) r) (ha : PE X a ta) : PE X (.UnaryOp op a pos) (tUn r ta) := by
  intro pins s σ H Q I h
  exact UnaryOp_ (thn (ha pins s σ H _ I h) fun v s1 ⟨x, H1, I1, r1, q1⟩ => ho pins s1 σ H1 x v Q I1 r1 q1)
theorem opI {f : Value → Value → Sem Value} {C : Int → Int → Prop} {g : Int → Int → Int}
    (rule : ∀ (i j : Int) (t u : Tok) (s : Shared) (Q : Value → Shared → Prop) (E : Value → Shared → Prop), C i j → Q (.int (g i j) s.toks) { s with toks := s.toks + 1 } → wpAny (model X.prog X.w) X.A (f (.int i t) (.int j u)) Q E s) :
    OpR X f (rI C fun i j => .int (g i j)) := by
  intro pins s σ H x y v u Q I rx ry h
  obtain ⟨i, j, rfl, rfl, hc, q⟩ := h
  obtain ⟨t, rfl⟩ := rx
  obtain ⟨t', rfl⟩ := ry
  exact rule i j t t' s _ _ hc ⟨.int (g i j), H, I.tok _, ⟨_, rfl⟩, q⟩
theorem opI0 {f : Value → Value → Sem Value} {g : Int → Int → Int}
    (rule : ∀ (i j : Int) (t u : Tok) (s : Shared) (Q : Value → Shared → Prop) (E : Value → Shared → Prop), Q (.int (g i j) s.toks) { s with toks := s.toks + 1 } → wpAny (model X.prog X.w) X.A (f (.int i t) (.int j u)) Q E s) :
    OpR X f (rI0 fun i j => .int (g i j)) := by
  intro pins s σ H x y v u Q I rx ry h
  obtain ⟨i, j, rfl, rfl, q⟩ := h
  obtain ⟨t, rfl⟩ := rx
  obtain ⟨t', rfl⟩ := ry
  exact rule i j t t' s _ _ ⟨.int (g i j), H, I.tok _, ⟨_, rfl⟩, q⟩
theorem opB0 {f : Value → Value → Sem Value} {g : Int → Int → Bool}
    (rule : ∀ (i j : Int) (t u : Tok) (s : Shared) (Q : Value → Shared → Prop) (E : Value → Shared → Prop), Q (.bool (g i j)) s → wpAny (model X.prog X.w) X.A (f (.int i t) (.int j u)) Q E s) :
    OpR X f (rI0 fun i j => .bl (g i j)) := by
  intro pins s σ H x y v u Q I rx ry h
  obtain ⟨i, j, rfl, rfl, q⟩ := h
  obtain ⟨t, rfl⟩ := rx
  obtain ⟨t', rfl⟩ := ry
  exact rule i j t t' s _ _ ⟨.bl (g i j), H, I, rfl, q⟩
def CPow (i j : Int) : Prop := 0 ≤ j ∧ j ≤ 1000000 ∧ i.natAbs < 2 ^ 64
theorem op_add : OpR X (binaryOp .Add) (rI0 fun i j => .int (i + j)) := opI0 fun _ _ _ _ _ _ _ q => add_int q
theorem op_sub : OpR X (binaryOp .Sub) (rI0 fun i j => .int (i - j)) := opI0 fun _ _ _ _ _ _ _ q => sub_int q
theorem op_mod : OpR X (binaryOp .Mod) (rI (fun _ j => 0 < j) fun i j => .int (i % j)) := opI fun i j _ _ _ _ _ hc q => by
  have h1 : (0 : Int) < j := hc
  exact mod_int' (by omega) (by rw [Int.fmod_eq_emod_of_nonneg i (by omega)]; exact q)
theorem op_pow : OpR X (binaryOp .Pow) (rI CPow fun i j => .int (i ^ j.toNat)) := opI fun _ _ _ _ _ _ _ hc q => pow_int_small hc.1 hc.2.1 hc.2.2 q
theorem unI {f : Value → Sem Value} {g : Int → Int}
    (rule : ∀ (i : Int) (t : Tok) (s : Shared) (Q : Value → Shared → Prop) (E : Value → Shared → Prop), Q (.int (g i) s.toks) { s with toks := s.toks + 1 } → wpAny (model X.prog X.w) X.A (f (.int i t)) Q E s) :
    UnR X f (rU fun i => .int (g i)) := by
  intro pins s σ H x v Q I rx h
  obtain ⟨i, rfl, q⟩ := h
  obtain ⟨t, rfl⟩ := rx
  exact rule i t s _ _ ⟨.int (g i), H, I.tok _, ⟨_, rfl⟩, q⟩
theorem un_neg : UnR X (unaryOp .USub) (rU fun i => .int (-i)) := unI fun _ _ _ _ _ q => neg_int q
end
def scal : V → V → Bool
  | .non, .non => true | .non, .int _ => true | .int _, .non => true | .non, .bl _ => true | .bl _, .non => true | .non, .str _ => true | .str _, .non => true
  | .int _, .int _ => true | .bl _, .bl _ => true | .str _, .str _ => true | .byt _, .byt _ => true
  | .int _, .str _ => true | .str _, .int _ => true | .bl _, .str _ => true | .str _, .bl _ => true
  | _, _ => false
def rEq : R2 := fun x y H Q => scal x y = true ∧ Q (.bl (decide (x = y))) H
def rNe : R2 := fun x y H Q => scal x y = true ∧ Q (.bl (!decide (x = y))) H
theorem dec_int {i j : Int} : decide (V.int i = V.int j) = (i == j) := by
  rw [Bool.eq_iff_iff]
  simp
theorem dec_bl {i j : Bool} : decide (V.bl i = V.bl j) = (i == j) := by
  rw [Bool.eq_iff_iff]
  simp
theorem dec_str {i j : Str} : decide (V.str i = V.str j) = (i == j) := by
  rw [Bool.eq_iff_iff]
  simp
theorem dec_byt {i j : Array UInt8} : decide (V.byt i = V.byt j) = (i.toList == j.toList) := by
  rw [Bool.eq_iff_iff]
  cases i
  cases j
  simp
section
variable {X : Cx} {a b c : Expr} {ta tb tc : TE} {pos : Pos}
theorem fin_bl {pins : List (Addr × Obj)} {σ : St} {H : Hp} {s : Shared} {Q : VK} {k k' : Bool} (I : Inv X pins σ H s) (q : Q (.bl k) H) (e : k = k') : EP X pins σ Q (.bool k') s := by
  subst e
  exact ⟨.bl k, H, I, rfl, q⟩
theorem op_eq : OpR X (compareOp .Eq) rEq := by
  intro pins s σ H x y v u Q I rx ry h
  obtain ⟨hs, q⟩ := h
  cases x with
  | non =>
    cases rx
    cases y with
    | non => cases ry; exact PySem.EqNone.eq_none_none (fin_bl I q (by simp))
    | bl j => cases ry; exact PySem.EqNone.eq_none_bool (fin_bl I q (by simp))
    | int j => obtain ⟨t', rfl⟩ := ry; exact PySem.EqNone.eq_none_int (fin_bl I q (by simp))
    | str j => obtain ⟨t', rfl⟩ := ry; exact PySem.EqNone.eq_none_str (fin_bl I q (by simp))
    | _ => exact absurd (show false = true from hs) Bool.false_ne_true
  | bl i =>
    cases rx
    cases y with
    | non => cases ry; exact PySem.EqNone.eq_bool_none (fin_bl I q (by simp))
    | bl j => cases ry; exact eq_bool (fin_bl I q dec_bl)
    | str j => obtain ⟨t', rfl⟩ := ry; exact PySem.EqMixed.eq_bool_str (fin_bl I q (by simp))
    | _ => exact absurd (show false = true from hs) Bool.false_ne_true
  | int i =>
    obtain ⟨t, rfl⟩ := rx
    cases y with
    | non => cases ry; exact PySem.EqNone.eq_int_none (fin_bl I q (by simp))
    | int j => obtain ⟨t', rfl⟩ := ry; exact eq_int (fin_bl I q dec_int)
    | str j => obtain ⟨t', rfl⟩ := ry; exact PySem.EqMixed.eq_int_str (fin_bl I q (by simp))
    | _ => exact absurd (show false = true from hs) Bool.false_ne_true
  | str i =>
    obtain ⟨t, rfl⟩ := rx
    cases y with
    | non => cases ry; exact PySem.EqNone.eq_str_none (fin_bl I q (by simp))
    | bl j => cases ry; exact PySem.EqMixed.eq_str_bool (fin_bl I q (by simp))
    | int j => obtain ⟨t', rfl⟩ := ry; exact PySem.EqMixed.eq_str_int (fin_bl I q (by simp))
    | str j => obtain ⟨t', rfl⟩ := ry; exact eq_str (fin_bl I q dec_str)
    | _ => exact absurd (show false = true from hs) Bool.false_ne_true
  | byt i =>
    obtain ⟨t, rfl⟩ := rx
    cases y with
    | byt j => obtain ⟨t', rfl⟩ := ry; exact PySem.W.eq_bytes (fin_bl I q dec_byt)
    | _ => exact absurd (show false = true from hs) Bool.false_ne_true
  | _ => cases y <;> exact absurd (show false = true from hs) Bool.false_ne_true
theorem op_ne : OpR X (compareOp .NotEq) rNe := by
  intro pins s σ H x y v u Q I rx ry h
  obtain ⟨hs, q⟩ := h
  cases x with
  | non =>
    cases rx
    cases y with
    | non => cases ry; exact PySem.EqNone.ne_none_none (fin_bl I q (by simp))
    | bl j => cases ry; exact PySem.EqNone.ne_none_bool (fin_bl I q (by simp))
    | int j => obtain ⟨t', rfl⟩ := ry; exact PySem.EqNone.ne_none_int (fin_bl I q (by simp))
    | str j => obtain ⟨t', rfl⟩ := ry; exact PySem.EqNone.ne_none_str (fin_bl I q (by simp))
    | _ => exact absurd (show false = true from hs) Bool.false_ne_true
  | bl i =>
    cases rx
    cases y with
    | non => cases ry; exact PySem.EqNone.ne_bool_none (fin_bl I q (by simp))
    | bl j => cases ry; exact ne_bool (fin_bl I q (congrArg not dec_bl))
    | str j => obtain ⟨t', rfl⟩ := ry; exact PySem.EqMixed.ne_bool_str (fin_bl I q (by simp))
    | _ => exact absurd (show false = true from hs) Bool.false_ne_true
  | int i =>
    obtain ⟨t, rfl⟩ := rx
    cases y with
    | non => cases ry; exact PySem.EqNone.ne_int_none (fin_bl I q (by simp))
    | int j => obtain ⟨t', rfl⟩ := ry; exact ne_int (fin_bl I q (congrArg not dec_int))
    | str j => obtain ⟨t', rfl⟩ := ry; exact PySem.EqMixed.ne_int_str (fin_bl I q (by simp))
    | _ => exact absurd (show false = true from hs) Bool.false_ne_true
  | str i =>
    obtain ⟨t, rfl⟩ := rx
    cases y with
    | non => cases ry; exact PySem.EqNone.ne_str_none (fin_bl I q (by simp))
    | bl j => cases ry; exact PySem.EqMixed.ne_str_bool (fin_bl I q (by simp))
    | int j => obtain ⟨t', rfl⟩ := ry; exact PySem.EqMixed.ne_str_int (fin_bl I q (by simp))
    | str j => obtain ⟨t', rfl⟩ := ry; exact ne_str (fin_bl I q (congrArg not dec_str))
    | _ => exact absurd (show false = true from hs) Bool.false_ne_true
  | byt i =>
    obtain ⟨t, rfl⟩ := rx
    cases y with
    | byt j => obtain ⟨t', rfl⟩ := ry; exact PySem.W.ne_bytes (fin_bl I q (congrArg not dec_byt))
    | _ => exact absurd (show false = true from hs) Bool.false_ne_true
  | _ => cases y <;> exact absurd (show false = true from hs) Bool.false_ne_true
theorem op_lt : OpR X (compareOp .Lt) (rI0 fun i j => .bl (decide (i < j))) := opB0 fun _ _ _ _ _ _ _ q => lt_int q
theorem op_le : OpR X (compareOp .LtE) (rI0 fun i j => .bl (decide (i ≤ j))) := opB0 fun _ _ _ _ _ _ _ q => le_int q
theorem op_gt : OpR X (compareOp .Gt) (rI0 fun i j => .bl (decide (j < i))) := opB0 fun _ _ _ _ _ _ _ q => gt_int q
theorem op_ge : OpR X (compareOp .GtE) (rI0 fun i j => .bl (decide (j ≤ i))) := opB0 fun _ _ _ _ _ _ _ q => ge_int q
theorem op_in_str : OpR X (compareOp .In) (fun x y H Q => ∃ i j, x = .str i ∧ y = .str j ∧ Q (.bl (!(Builtin.Str.occurrences j i 0 j.length 1).isEmpty)) H) := by
  intro pins s σ H x y v u Q I rx ry h
  obtain ⟨i, j, rfl, rfl, q⟩ := h
  obtain ⟨t, rfl⟩ := rx
  obtain ⟨t', rfl⟩ := ry
  exact in_str (fin_bl I q rfl)
theorem op_isN : OpR X (compareOp .Is) (fun x y H Q => y = .non ∧ Q (.bl (decide (x = .non))) H) := by
  intro pins s σ H x y v u Q I rx ry h
  obtain ⟨rfl, q⟩ := h
  cases ry
  refine is_none_gen (fin_bl I q ?_)
  cases x <;> first
    | (cases rx; rfl)
    | (obtain ⟨t, rfl⟩ := rx; rfl)
theorem nomark (b : Expr) {op : CmpOp} (h : op ≠ .In := by decide) (h2 : op ≠ .NotIn := by decide) : behindInMarks op b = false := by
  have e1 : (op == CmpOp.In) = false := by cases op <;> first | rfl | exact absurd rfl h
  have e2 : (op == CmpOp.NotIn) = false := by cases op <;> first | rfl | exact absurd rfl h2
  cases b <;> simp [behindInMarks, e1, e2]
theorem pe_cmpR {op : CmpOp} {r : R2} (ho : OpR X (compareOp op) r) (ha : PE X a ta) (hb : PE X b tb) (hm : behindInMarks op b = false) : PE X (.Compare a [op] [b] pos) (tOp r ta tb) := by
  intro pins s σ H Q I h
  exact wpAny_Compare1 (binT ha hb I h fun v u s2 x y H2 I2 rx ry q => ho pins s2 σ H2 x y v u Q I2 rx ry q) hm
def tTest (t : TE) : TT := fun σ H Q => t σ H fun x H' => ∃ k, x = .bl k ∧ Q k H'
theorem pt_cmpR {op : CmpOp} {r : R2} (ho : OpR X (compareOp op) r) (ha : PE X a ta) (hb : PE X b tb) (hm : behindInMarks op b = false) : PT X (.Compare a [op] [b] pos) (tTest (tOp r ta tb)) := by
  intro pins s σ H Q I h
  refine wpAny_isTrue_Compare1 (thn (ha pins s σ H _ I h) fun v s1 ⟨x, H1, I1, r1, q1⟩ => thn (hb pins s1 σ H1 _ I1 q1) fun u s2 ⟨y, H2, I2, r2, q2⟩ =>
    thn (ho pins s2 σ H2 x y v u _ I2 r1 r2 q2) fun c s3 ⟨z, H3, I3, r3, k, e, q3⟩ => ?_) hm
  subst e
  cases r3
  exact wpAny_truthy_bool ⟨H3, I3, q3⟩
def tChain (r r' : R2) (ta tb tc : TE) : TE := fun σ H Q => ta σ H fun x H1 => tb σ H1 fun y H2 => r x y H2 fun z H3 => ∃ k, z = .bl k ∧
  (if k = true then tc σ H3 fun w' H4 => r' y w' H4 Q else Q (.bl false) H3)
theorem line63 : (sizeLine : Nat) < 2 ^ 63 := by rw [sizeLine_eq]; decide
theorem op_add_str : OpR X (binaryOp .Add) (fun x y H Q => ∃ i j, x = .str i ∧ y = .str j ∧ i.length + j.length ≤ sizeLine ∧ Q (.str (i ++ j)) H) := by
  intro pins s σ H x y v u Q I rx ry h
  obtain ⟨i, j, rfl, rfl, hz, q⟩ := h
  obtain ⟨t, rfl⟩ := rx
  obtain ⟨t', rfl⟩ := ry
  exact add_str (fun t' tk => ⟨.str (i ++ j), H, I.tok _, ⟨_, rfl⟩, q⟩) hz
theorem vals1 {x : V} {us : List Value} (r : Vals [x] us) : ∃ u, us = [u] ∧ RelV x u := by
  cases r with
  | cons r1 r2 => cases r2; exact ⟨_, rfl, r1⟩
theorem vals2 {x y : V} {us : List Value} (r : Vals [x, y] us) : ∃ u w', us = [u, w'] ∧ RelV x u ∧ RelV y w' := by
  cases r with
  | cons r1 r2 =>
    cases r2 with
    | cons r3 r4 => cases r4; exact ⟨_, _, rfl, r1, r3⟩
theorem call_abs : CallR X (.builtin "abs") (fun xs H Q => ∃ i, xs = [.int i] ∧ Q (.int (if i < 0 then -i else i)) H) := by
  intro pins s σ H xs us Q I r h
  obtain ⟨i, rfl, q⟩ := h
  obtain ⟨u, rfl, t, rfl⟩ := vals1 r
  exact call_abs_int fun u tk => ⟨.int (if i < 0 then -i else i), H, I.tok _, ⟨_, rfl⟩, q⟩
theorem call_max2 (hc : X.calm = true) : CallR X (.builtin "max") (fun xs H Q => ∃ i j, xs = [.int i, .int j] ∧ Q (.int (if j > i then j else i)) H) := by
  intro pins s σ H xs us Q I r h
  obtain ⟨i, j, rfl, q⟩ := h
  obtain ⟨u, w', rfl, ⟨t, rfl⟩, ⟨t', rfl⟩⟩ := vals2 r
  refine max_two_ints (I.ok.hd hc) fun h' tk k => ⟨_, H, I.kept k, ?_, q⟩
  by_cases hj : j > i
  · rw [if_pos hj, if_pos hj]; exact ⟨_, rfl⟩
  · rw [if_neg hj, if_neg hj]; exact ⟨_, rfl⟩
theorem call_min2 (hc : X.calm = true) : CallR X (.builtin "min") (fun xs H Q => ∃ i j, xs = [.int i, .int j] ∧ Q (.int (if j < i then j else i)) H) := by
  intro pins s σ H xs us Q I r h
  obtain ⟨i, j, rfl, q⟩ := h
  obtain ⟨u, w', rfl, ⟨t, rfl⟩, ⟨t', rfl⟩⟩ := vals2 r
  refine min_two_ints (I.ok.hd hc) fun h' tk k => ⟨_, H, I.kept k, ?_, q⟩
  by_cases hj : j < i
  · rw [if_pos hj, if_pos hj]; exact ⟨_, rfl⟩
  · rw [if_neg hj, if_neg hj]; exact ⟨_, rfl⟩
theorem call_str_int : CallR X (.type "str") (fun xs H Q => ∃ i, xs = [.int i] ∧ i.natAbs.log2 < 1920 ∧ Q (.str (toString i)) H) := by
  intro pins s σ H xs us Q I r h
  obtain ⟨i, rfl, hz, q⟩ := h
  obtain ⟨u, rfl, t, rfl⟩ := vals1 r
  exact PySem.P.str_of_int hz ⟨.str _, H, I.tok _, ⟨_, rfl⟩, q⟩
end
end L2
namespace L2
open PySem PySem.Spec PyProof.Rows
structure ObjM (h : Heap) (x dx C : Addr) (mA : Str → Option Value) : Prop where
  obj : h.get? x = some (PySem.W.instObj C dx)
  ns : h.Ns1 dx mA
  ne : dx ≠ x
theorem lookIn_ns {h : Heap} {dx : Addr} {mA : Str → Option Value} (n : h.Ns1 dx mA) : ∃ od, h.get? dx = some od ∧ ∀ name, PySem.W.lookIn name od = some (mA name) := by
  obtain ⟨o, es, ep, ho, hd, hk, _, hm⟩ := n
  refine ⟨o, ho, fun name => ?_⟩
  have e := hm name
  unfold nsFind findBy at e
  rw [← Array.find?_toList] at e
  unfold PySem.W.lookIn
  rw [hd]
  dsimp only
  split
  · rename_i y q
    rw [q] at e
    exact congrArg some e
  · rename_i q
    rw [q] at e
    have a : es.toList.any (·.refKey) = false := by
      rw [List.any_eq_false]
      intro y hy
      obtain ⟨z, t, hkey⟩ := hk y (Array.mem_toList_iff.mp hy)
      simp [DictEntry.refKey, hkey]
    have a' : ¬ es.toList.any (·.refKey) = true := by rw [a]; exact Bool.false_ne_true
    rw [if_neg a']
    exact congrArg some e
theorem ObjM.look {h : Heap} {x dx C : Addr} {mA : Str → Option Value} (I : ObjM h x dx C mA) : ∃ od, PySem.W.InstAt h x (PySem.W.instObj C dx) C (some od) ∧ ∀ name, PySem.W.lookIn name od = some (mA name) :=
  let ⟨od, ho, hl⟩ := lookIn_ns I.ns
  ⟨od, ⟨I.obj, rfl, rfl, ho⟩, hl⟩
section
variable {prog : Program} {w : World} {A : Around} {E : Value → Shared → Prop} {s : Shared} {K : PySem.W.Frag} {x dx C f : Addr} {mA : Str → Option Value} {name : Str} {v : Value}
theorem get_map {expr : Bool} {Q : Value → Shared → Prop} (X : K.In s.heap) (I : ObjM s.heap x dx C mA) (hg : PySem.W.plainGet K C name = true) (hh : PySem.W.hasDictIn K C = true)
    (ha : PySem.W.findIn K (.ref C) name = some none) (hv : mA name = some v) (hv' : PySem.W.handedIn v = true) (h : Q v { s with toks := s.toks + 1 }) :
    wpAny (model prog w) A (getAttr (.ref x) name expr) Q E s := by
  obtain ⟨od, J, hl⟩ := I.look
  exact PySem.W.get_value X J (PySem.W.plainGet_of hg).1 (PySem.W.findObj_own hh ha rfl (by rw [hl, hv])) hv' h
theorem get_meth {pl : Sem Bool} {Q : Value × List Value → Shared → Prop} (X : K.In s.heap) (I : ObjM s.heap x dx C mA) (hg : PySem.W.plainGet K C name = true)
    (hf : PySem.W.findIn K (.ref C) name = some (some (.ref f))) (ht : PySem.W.isFn K (.ref f) = true) (hv : mA name = none) (h : Q (.ref f, [.ref x]) s) :
    wpAny (model prog w) A (getMethod (.ref x) name pl) Q E s := by
  obtain ⟨od, J, hl⟩ := I.look
  exact PySem.W.method_fn X J (PySem.W.plainGet_of hg).1 (PySem.W.plainGet_of hg).2 hf (beq_iff_eq.mp ht) (by show (PySem.W.lookIn name od).map (·.isSome) = some false; rw [hl, hv]; rfl) h
theorem set_map {ns : List Str} {Q : Unit → Shared → Prop} (X : K.In s.heap) (I : ObjM s.heap x dx C mA)
    (hs : PySem.W.findIn K (.ref C) "__setattr__" = some (some (.builtin "object.__setattr__"))) (hp : PySem.W.plainOver K C = true) (ht : PySem.W.takerIn K C name = some none) (hh : PySem.W.hasDictIn K C = true)
    (hw : PySem.Within mA ns) (hsz : ns.length ≤ sizeLine)
    (h : ∀ h', ObjM h' x dx C (fun y => if y = name then some v else mA y) → Heap.SameBut dx s.heap h' → Q () { s with heap := h', toks := s.toks + 2 }) :
    wpAny (model prog w) A (setAttr (.ref x) name v) Q E s := by
  obtain ⟨od, J, hl⟩ := I.look
  refine PySem.W.set_plain X J hs (PySem.W.osa_open (s := { s with toks := s.toks + 1 }) (r := none) X J hp ht fun b => ?_)
  obtain ⟨cd, hc, hd'⟩ := PySem.W.any_some hh
  have hx : s.heap.get? x = some ⟨.ref C, some dx, .plain, #[]⟩ := I.obj
  refine wpAny_bind (wpAny_pure (wpAny_bind (wpAny_bind (wpAny_loadPart hx (wpAny_bind (PySem.W.Looks.here (s := { s with toks := s.toks + 1 }) (PySem.W.looks_clsIn X hc) ?_))))))
  rw [hd']
  refine wpAny_pure (a := some dx) (wpAny_bind (wpAny_pure (wpAny_bind ?_)))
  refine wpAny_nsSet1 (s := { s with toks := s.toks + 1 }) I.ns fun h' hn2 hs2 => ?_
  obtain ⟨oD, esD, epD, hoD, hdD, hcD⟩ := hn2.count (PySem.Within.cons name v hw)
  refine wpAny_bind (wpAny_lookBehind hoD (by rw [hdD]; exact pastItsLine_dict (Nat.le_trans hcD (by rw [List.length_cons]; omega))) ?_)
  exact wpAny_pure (h _ ⟨(hs2.2 _ (Ne.symm I.ne)).trans I.obj, hn2, I.ne⟩ hs2)
theorem make_map {R : Result → Shared → Prop} {vs : List Value} {kw : List (Str × Value)} (X : K.In s.heap) (hm : PySem.W.makesIn K C = true)
    (hi : PySem.W.findIn K (.ref C) "__init__" = some (some (.ref f))) (hf : PySem.W.typeIn K (.ref f) = some (.type "function"))
    (h : codeAny (model prog w) (A.under (.builtin "type.__call__" ⟨.ref C :: vs, kw⟩)) (.call (.ref f) ⟨.ref (s.heap.objs.size + 1) :: vs, kw⟩) (PySem.W.InitBack (s.heap.objs.size + 1) R)
      { s with heap := (s.heap.push PySem.W.emptyDict).push (PySem.W.instObj C s.heap.objs.size) }) :
    codeAny (model prog w) A (.call (.ref C) ⟨vs, kw⟩) R s := by
  obtain ⟨hh, g, d, t, os⟩ := s
  exact PySem.W.make_core (PySem.W.makes_of X hm) (PySem.W.looks_findIn X hi) (fun self => PySem.W.bind_fn X self hf) (.inl rfl) h
end
def putF (f : Str) (v : V) : List (Str × V) → List (Str × V)
  | [] => [(f, v)]
  | (g, x) :: r => if g = f then (g, v) :: r else (g, x) :: putF f v r
theorem lookup_putF (f g : Str) (v : V) : ∀ fs : List (Str × V), (putF f v fs).lookup g = if g = f then some v else fs.lookup g
  | [] => by
    show List.lookup g [(f, v)] = _
    by_cases h : g = f
    · have hb : (g == f) = true := beq_iff_eq.mpr h
      simp only [List.lookup, hb, if_pos h]
    · have hb : (g == f) = false := beq_eq_false_iff_ne.mpr h
      simp only [List.lookup, hb, if_neg h]
  | (k, x) :: r => by
    have ih := lookup_putF f g v r
    rw [show putF f v ((k, x) :: r) = (if k = f then (k, v) :: r else (k, x) :: putF f v r) from rfl]
    by_cases hk : k = f
    · rw [if_pos hk]
      by_cases h : g = k
      · have hb : (g == k) = true := beq_iff_eq.mpr h
        simp only [List.lookup, hb, if_pos (h.trans hk)]
      · have hb : (g == k) = false := beq_eq_false_iff_ne.mpr h
        simp only [List.lookup, hb, if_neg (fun e : g = f => h (e.trans hk.symm))]
    · rw [if_neg hk]
      by_cases h : g = k
      · have hb : (g == k) = true := beq_iff_eq.mpr h
        simp only [List.lookup, hb, if_neg (fun e : g = f => hk (h.symm.trans e))]
      · have hb : (g == k) = false := beq_eq_false_iff_ne.mpr h
        simp only [List.lookup, hb]
        exact ih
theorem keys_putF (f : Str) (v : V) : ∀ fs : List (Str × V), f ∈ (putF f v fs).map (·.1) ∧ ∀ g, g ∈ fs.map (·.1) → g ∈ (putF f v fs).map (·.1)
  | [] => ⟨by simp [putF], fun g h => by simp at h⟩
  | (k, x) :: r => by
    obtain ⟨i1, i2⟩ := keys_putF f v r
    rw [show putF f v ((k, x) :: r) = (if k = f then (k, v) :: r else (k, x) :: putF f v r) from rfl]
    by_cases hk : k = f
    · rw [if_pos hk]
      subst hk
      exact ⟨by simp, fun g h => by simpa using h⟩
    · rw [if_neg hk]
      refine ⟨?_, fun g h => ?_⟩
      · rw [List.map_cons]
        exact List.mem_cons_of_mem _ i1
      · rw [List.map_cons] at h ⊢
        rcases List.mem_cons.mp h with e | e
        · exact List.mem_cons.mpr (.inl e)
        · exact List.mem_cons_of_mem _ (i2 g e)
theorem length_putF (f : Str) (v : V) : ∀ fs : List (Str × V), (putF f v fs).length ≤ fs.length + 1
  | [] => by simp [putF]
  | (k, x) :: r => by
    have ih := length_putF f v r
    rw [show putF f v ((k, x) :: r) = (if k = f then (k, v) :: r else (k, x) :: putF f v r) from rfl]
    by_cases hk : k = f
    · rw [if_pos hk, List.length_cons, List.length_cons]; omega
    · rw [if_neg hk, List.length_cons, List.length_cons]; omega
theorem RelO.some_of {v : V} {o : Option Value} (r : RelO (some v) o) : ∃ u, o = some u ∧ RelV v u := by
  cases o with
  | none => exact (show False from r).elim
  | some u => exact ⟨u, rfl, r⟩
theorem RelO.none_of {o : Option Value} (r : RelO none o) : o = none := by
  cases o with
  | none => rfl
  | some u => exact (show False from r).elim
theorem handed_of {v : V} {u : Value} (r : RelV v u) : PySem.W.handedIn u = true := by
  cases v with
  | non => cases (show u = Value.none from r); rfl
  | bl b => cases (show u = Value.bool b from r); rfl
  | int i => obtain ⟨t, e⟩ := (show ∃ t, u = Value.int i t from r); cases e; rfl
  | str x => obtain ⟨t, e⟩ := (show ∃ t, u = Value.str x t from r); cases e; rfl
  | byt b => obtain ⟨t, e⟩ := (show ∃ t, u = Value.bytes b t from r); cases e; rfl
  | flt b => obtain ⟨t, e⟩ := (show ∃ t, u = Value.float b t from r); cases e; rfl
  | ref a => cases (show u = Value.ref a from r); rfl
  | ty n => cases (show u = Value.type n from r); rfl
section
variable {P : Program} {w : World} {H H' : Hp} {h h' : Heap} {a C dx : Addr} {fs fs' : List (Str × V)}
theorem ins_get (hok : HOk P w H h) (e : H a = some (.ins C dx fs)) : ∃ mA, ObjM h a dx C mA ∧ (∀ f, RelO (fs.lookup f) (mA f)) ∧ PySem.Within mA (fs.map (·.1)) ∧ fs.length ≤ 1000 ∧ H dx = some (.own a) := by
  obtain ⟨d, z, ne, ob, mA, n, r, q⟩ := (show ObjOk P w H h a (.ins C dx fs) from hok a _ e)
  exact ⟨mA, ⟨ob, n, ne⟩, r, q, z, d⟩
end
structure Cls (K : PySem.W.Frag) (C : Addr) : Prop where
  pg : PySem.W.plainGet K C Str.empty = true
  hd : PySem.W.hasDictIn K C = true
  po : PySem.W.plainOver K C = true
  sa : PySem.W.findIn K (.ref C) "__setattr__" = some (some (.builtin "object.__setattr__"))
theorem Cls.get {K : PySem.W.Frag} {C : Addr} (c : Cls K C) (f : Str) : PySem.W.plainGet K C f = true := c.pg
def NoAttr (K : PySem.W.Frag) (C : Addr) (f : Str) : Prop := PySem.W.findIn K (.ref C) f = some none
theorem NoAttr.taker {K : PySem.W.Frag} {C : Addr} {f : Str} (n : NoAttr K C f) : PySem.W.takerIn K C f = some none := by
  unfold PySem.W.takerIn
  rw [show PySem.W.findIn K (.ref C) f = some none from n]
  rfl
structure Meth (K : PySem.W.Frag) (C : Addr) (m : Str) (f : Addr) : Prop where
  at_ : PySem.W.findIn K (.ref C) m = some (some (.ref f))
  fn : PySem.W.isFn K (.ref f) = true
  kp : PySem.W.keepIn K (.ref f) = true
section
variable {X : Cx} {pins : List (Addr × Obj)} {σ : St} {H : Hp} {s : Shared} {a C dx : Addr} {fs : List (Str × V)} {f : Str} {v : V} {A : Around} {E : Value → Shared → Prop}
theorem getattr_ok {b : Bool} {Q : Value → Shared → Prop} (I : Inv X pins σ H s) (e : H a = some (.ins C dx fs)) (c : Cls X.K C) (n : NoAttr X.K C f) (l : fs.lookup f = some v)
    (h : ∀ u s', Inv X pins σ H s' → RelV v u → Q u s') : wpAny (model X.prog X.w) A (getAttr (.ref a) f b) Q E s := by
  obtain ⟨mA, O, r, _, _, _⟩ := ins_get I.hok e
  obtain ⟨u, hu, ru⟩ := RelO.some_of (v := v) (o := mA f) (by rw [← l]; exact r f)
  exact get_map I.kIn O (c.get f) c.hd n hu (handed_of ru) (h u _ (I.tok _) ru)
theorem getmeth_ok {m : Str} {g : Addr} {pl : Sem Bool} {Q : Value × List Value → Shared → Prop} (I : Inv X pins σ H s) (e : H a = some (.ins C dx fs)) (c : Cls X.K C) (k : Meth X.K C m g) (l : fs.lookup m = none)
    (h : Q (.ref g, [.ref a]) s) : wpAny (model X.prog X.w) A (getMethod (.ref a) m pl) Q E s := by
  obtain ⟨mA, O, r, _, _, _⟩ := ins_get I.hok e
  have hn : mA m = none := RelO.none_of (by rw [← l]; exact r m)
  exact get_meth I.kIn O (c.get m) k.at_ k.fn hn h
theorem setattr_ok {y : V} {u : Value} {Q : Unit → Shared → Prop} (I : Inv X pins σ H s) (e : H a = some (.ins C dx fs)) (c : Cls X.K C) (n : NoAttr X.K C f) (hl : fs.length < 1000) (ry : RelV y u)
    (h : ∀ s', Inv X pins σ (upd H a (.ins C dx (putF f y fs))) s' → Q () s') : wpAny (model X.prog X.w) A (setAttr (.ref a) f u) Q E s := by
  obtain ⟨mA, O, r, wi, _, ho⟩ := ins_get I.hok e
  have hz : (fs.map (·.1)).length ≤ sizeLine := by rw [List.length_map, sizeLine_eq]; omega
  refine set_map I.kIn O c.sa c.po n.taker c.hd wi hz fun h' O' sb => h _ ?_
  have hd : ∃ o, h'.get? dx = some o := let ⟨o, _, _, e', _⟩ := O'.ns; ⟨o, e'⟩
  refine I.write (x := a) (e := dx) (by rw [e]; exact True.intro) (.inr ho) (fun b q hb z => (sb.2 b hb).trans z) hd ?_
  refine ⟨by rw [upd_ne O.ne]; exact ho, ?_, O.ne, O'.obj, _, O'.ns, fun g => ?_, fun g hg => ?_⟩
  · have := length_putF f y fs; omega
  · show RelO ((putF f y fs).lookup g) (if g = f then some u else mA g)
    rw [lookup_putF]
    by_cases q : g = f
    · rw [if_pos q, if_pos q]; exact ry
    · rw [if_neg q, if_neg q]; exact r g
  · by_cases q : g = f
    · rw [q]; exact (keys_putF f y fs).1
    · refine (keys_putF f y fs).2 g (wi g fun z => hg ?_)
      show (if g = f then some u else mA g) = none
      rw [if_neg q]; exact z
theorem Inv.made (I : Inv X pins σ H s) : Inv X pins σ (upd (upd H s.heap.objs.size (.own (s.heap.objs.size + 1))) (s.heap.objs.size + 1) (.ins C s.heap.objs.size []))
    { s with heap := (s.heap.push PySem.W.emptyDict).push (PySem.W.instObj C s.heap.objs.size) } := by
  have e1 : (s.heap.push PySem.W.emptyDict).get? s.heap.objs.size = some PySem.W.emptyDict := Heap.get?_push_size s.heap rfl
  have e2 : ((s.heap.push PySem.W.emptyDict).push (PySem.W.instObj C s.heap.objs.size)).get? (s.heap.objs.size + 1) = some (PySem.W.instObj C s.heap.objs.size) := by
    have := Heap.get?_push_size (s.heap.push PySem.W.emptyDict) (o := PySem.W.instObj C s.heap.objs.size) rfl
    rwa [Heap.size_push] at this
  have e3 : (s.heap.push PySem.W.emptyDict).Ns s.heap.objs.size (fun _ => none) := ⟨PySem.W.emptyDict, #[], _, e1, rfl, (fun e he => absurd he (by simp)), fun _ => rfl⟩
  have I1 := I.laid (a := s.heap.objs.size) (o := .own (s.heap.objs.size + 1)) (h' := s.heap.push PySem.W.emptyDict) (t' := s.toks) (fun b u q => Heap.get?_push_of_some _ q) (Nat.le_refl _) ⟨_, e1⟩
  refine I1.laid (a := s.heap.objs.size + 1) (o := .ins C s.heap.objs.size []) (t' := s.toks) (fun b u q => Heap.get?_push_of_some _ q) (Nat.le_of_eq (Heap.size_push _ _)) ?_
  have ne : s.heap.objs.size ≠ s.heap.objs.size + 1 := Nat.ne_of_lt (Nat.lt_succ_self _)
  refine ⟨by rw [upd_ne ne, upd_same], Nat.zero_le _, ne, e2, fun _ => none, (Heap.Ns1.of_empty e3).at fun o q => Heap.get?_push_of_some _ q, fun _ => True.intro, fun y hy => absurd rfl hy⟩
theorem attr_of {prog : Program} {w : World} {env : Env} {e : Expr} {f : Str} {pos : Pos} {s : Shared} {Q : Value → Shared → Prop} (hb : attributeBase e f env (eval e env) = eval e env)
    (h : wpAny (model prog w) A (eval e env) (fun o s₁ => wpAny (model prog w) A (getAttr o f true) Q E s₁) E s) : wpAny (model prog w) A (eval (.Attribute e f pos) env) Q E s :=
  Attribute_any_ h (by rw [arm_eval_Attribute, hb])
end
def tFld (K : PySem.W.Frag) (ta : TE) (f : Str) : TE := fun σ H Q => ta σ H fun x H1 => ∃ a C dx fs v, x = .ref a ∧ H1 a = some (.ins C dx fs) ∧ Cls K C ∧ NoAttr K C f ∧ fs.lookup f = some v ∧ Q v H1
def sFld (K : PySem.W.Frag) (ta tv : TE) (f : Str) : TS := fun D σ H => tv σ H fun y H1 => ta σ H1 fun x H2 => ∃ a C dx fs, x = .ref a ∧ H2 a = some (.ins C dx fs) ∧ Cls K C ∧ NoAttr K C f ∧ fs.length < 1000 ∧
  D.nx σ (upd H2 a (.ins C dx (putF f y fs)))
section
variable {X : Cx} {o e value : Expr} {f : Str} {pos pos' tpos : Pos} {ta tv : TE}
theorem pe_fld (he : PE X e ta) (hb : attributeBase e f X.env (eval e X.env) = eval e X.env) : PE X (.Attribute e f pos) (tFld X.K ta f) := by
  intro pins s σ H Q I h
  refine attr_of hb (thn (he pins s σ H _ I h) fun u s1 ⟨x, H1, I1, rx, a, C, dx, fs, v, ex, ea, c, n, l, q⟩ => ?_)
  subst ex
  obtain rfl : u = Value.ref a := rx
  exact getattr_ok I1 ea c n l fun u' s2 I2 ru => ⟨v, H1, I2, ru, q⟩
theorem ps_fld (ha : PE X o ta) (hv : PE X value tv) (hs : swapsWith value (some (.Attribute o f pos')) pos.line X.env = pure false) : PS X (.Assign [.Attribute o f pos'] value pos) (sFld X.K ta tv f) := by
  intro pins s σ H D I h
  refine plainObj_wpAny_Assign_Attribute (thn (hv pins s σ H _ I h) fun u s1 ⟨y, H1, I1, ry, q⟩ => thn (ha pins s1 σ H1 _ I1 q) fun ov s2 ⟨x, H2, I2, rx, a, C, dx, fs, ex, ea, c, n, l, q2⟩ => ?_) hs
  subst ex
  obtain rfl : ov = Value.ref a := rx
  exact setattr_ok I2 ea c n l ry fun s3 I3 => ⟨σ, _, I3, q2⟩
def rAdd : V → V → Hp → VK → Prop := fun x y H Q => ∃ i j, x = .int i ∧ y = .int j ∧ Q (.int (i + j)) H
def rSub : V → V → Hp → VK → Prop := fun x y H Q => ∃ i j, x = .int i ∧ y = .int j ∧ Q (.int (i - j)) H
end
section
variable {X : Cx} {pins : List (Addr × Obj)} {σ : St} {H : Hp} {s : Shared} {A : Around} {E : Value → Shared → Prop} {Q : Value → Shared → Prop} {c : Value} {b : Bool}
inductive TyOf (K : PySem.W.Frag) (H : Hp) : V → Value → Prop where
  | non : TyOf K H .non (.type "NoneType")
  | bl (x : Bool) : TyOf K H (.bl x) (.type "bool")
  | int (i : Int) : TyOf K H (.int i) (.type "int")
  | str (x : Str) : TyOf K H (.str x) (.type "str")
  | flt (x : UInt64) : TyOf K H (.flt x) (.type "float")
  | lst {a : Addr} {xs : List V} (e : H a = some (.lst xs)) : TyOf K H (.ref a) (.type "list")
  | frz {a : Addr} {o : Obj} {xs : List V} (e : H a = some (.frz o (.lst xs))) : TyOf K H (.ref a) (.type "list")
  | tup {a : Addr} {xs : List V} (e : H a = some (.tup xs)) : TyOf K H (.ref a) (.type "tuple")
  | dK {a : Addr} {kvs : List (Key × V)} (e : H a = some (.dK kvs)) : TyOf K H (.ref a) (.type "dict")
  | dT {a : Addr} {kvs : List (List Key × V)} (e : H a = some (.dT kvs)) : TyOf K H (.ref a) (.type "dict")
  | ins {a C dx : Addr} {fs : List (Str × V)} (e : H a = some (.ins C dx fs)) (cl : Cls K C) (ha : PySem.W.findIn K (.ref C) "__class__" = some (some (.builtin "object.__class__")))
      (hn : PySem.W.specialIn K (.builtin "object.__class__") "__get__" = some (some (.builtin "getset_descriptor.__get__"))) (htk : PySem.W.takesIn K (.builtin "object.__class__") = some true)
      (hm : PySem.W.mroIn K C (.type "object") = some true) : TyOf K H (.ref a) (.ref C)
theorem isinst_ok {x : V} {u t : Value} (I : Inv X pins σ H s) (rx : RelV x u) (ty : TyOf X.K H x t) (e : PySem.W.kitOne X.K t c = some b) (h : ∀ tk, Q (.bool b) { s with toks := tk }) :
    wpAny (model X.prog X.w) A (call (.builtin "isinstance") [u, c]) Q E s := by
  cases ty with
  | non => cases (show u = Value.none from rx); exact PySem.W.kia_one PySem.W.kitx_none I.kIn True.intro e (fun z => nomatch z) h
  | bl y => cases (show u = Value.bool y from rx); exact PySem.W.kia_one PySem.W.kitx_bool I.kIn True.intro e (fun z => nomatch z) h
  | int i => obtain ⟨t, q⟩ := (show ∃ t, u = Value.int i t from rx); cases q; exact PySem.W.kia_one PySem.W.kitx_int I.kIn True.intro e (fun z => nomatch z) h
  | str y => obtain ⟨t, q⟩ := (show ∃ t, u = Value.str y t from rx); cases q; exact PySem.W.kia_one PySem.W.kitx_str I.kIn True.intro e (fun z => nomatch z) h
  | flt y => obtain ⟨t, q⟩ := (show ∃ t, u = Value.float y t from rx); cases q; exact PySem.W.kia_one PySem.W.kitx_float I.kIn True.intro e (fun z => nomatch z) h
  | @lst a xs ea =>
    cases (show u = Value.ref a from rx)
    obtain ⟨_, _, n, _, h1⟩ := (show ObjOk X.prog X.w H s.heap a (.lst xs) from I.hok a _ ea)
    exact PySem.W.kia_one PySem.W.kitx_list I.kIn ⟨_, h1, rfl⟩ e (fun z => nomatch z) h
  | @frz a ob xs ea =>
    cases (show u = Value.ref a from rx)
    obtain ⟨_, _, _, n, _, h1⟩ := (show ObjOk X.prog X.w H s.heap a (.frz ob (.lst xs)) from I.hok a _ ea)
    exact PySem.W.kia_one PySem.W.kitx_list I.kIn ⟨_, h1, rfl⟩ e (fun z => nomatch z) h
  | @tup a xs ea =>
    cases (show u = Value.ref a from rx)
    obtain ⟨_, _, _, p⟩ := (show ObjOk X.prog X.w H s.heap a (.tup xs) from I.hok a _ ea)
    obtain ⟨o, h1, h2, _⟩ := p
    exact PySem.W.kia_one PySem.W.kitx_tuple I.kIn ⟨o, h1, h2⟩ e (fun z => nomatch z) h
  | @dK a kvs ea =>
    cases (show u = Value.ref a from rx)
    obtain ⟨_, _, vs, _, p⟩ := (show ObjOk X.prog X.w H s.heap a (.dK kvs) from I.hok a _ ea)
    obtain ⟨o, es, ep, h1, h2, _⟩ := p
    exact PySem.W.kia_one PySem.W.kitx_dict I.kIn ⟨o, h1, h2.1⟩ e (fun z => nomatch z) h
  | @dT a kvs ea =>
    cases (show u = Value.ref a from rx)
    obtain ⟨_, _, xs, _, o, es, ep, h1, h2, _⟩ := (show ObjOk X.prog X.w H s.heap a (.dT kvs) from I.hok a _ ea)
    exact PySem.W.kia_one PySem.W.kitx_dict I.kIn ⟨o, h1, h2.1⟩ e (fun z => nomatch z) h
  | @ins a C dx fs ea cl ha hn htk hm =>
    cases (show u = Value.ref a from rx)
    obtain ⟨mA, O, _⟩ := ins_get I.hok ea
    obtain ⟨od, J, _⟩ := O.look
    exact PySem.W.kia_one (PySem.W.kitx_own (cl.get _) cl.hd ha hn htk hm) I.kIn J e (fun z => nomatch z) h
end
end L2
namespace L2
open PySem PySem.Spec PyProof.Rows
structure Room (k : Nat) (A : Around) : Prop where
  hd : A.handled = none
  dp : A.depth + 3 * k + 5 < recursionLimit
  un : A.units + 16 * k + 200 < cLine
theorem Room.mono {j k : Nat} {A : Around} (r : Room k A) (h : j ≤ k) : Room j A := ⟨r.hd, by have := r.dp; omega, by have := r.un; omega⟩
theorem Room.deeper {k : Nat} {A : Around} (r : Room (k + 1) A) (env : Env) : Room k (A.deeper env) :=
  ⟨r.hd, by have := r.dp; show A.depth + 1 + 3 * k + 5 < _; omega, by have := r.un; show A.units + 3 + 16 * k + 200 < _; omega⟩
theorem make_depth {A : Around} {C : Addr} {us : List Value} {kw : List (Str × Value)} : (A.under (.builtin "type.__call__" ⟨.ref C :: us, kw⟩)).depth = A.depth + 1 := by
  first | rfl | simp [Around.under, Code.weight, Code.isCreation, Code.isGuard, Code.isCaller, Code.frames, Code.isFrame, guardIds]
theorem make_units {A : Around} {C : Addr} {us : List Value} {kw : List (Str × Value)} : (A.under (.builtin "type.__call__" ⟨.ref C :: us, kw⟩)).units = A.units + 1 := by
  first | rfl | simp [Around.under, Code.cUnits, Code.frames, Code.isFrame]
theorem Room.make {k : Nat} {A : Around} (r : Room (k + 1) A) (C : Addr) (us : List Value) (kw : List (Str × Value)) : Room k (A.under (.builtin "type.__call__" ⟨.ref C :: us, kw⟩)) :=
  ⟨r.hd, by have := r.dp; rw [make_depth]; omega, by have := r.un; rw [make_units]; omega⟩
theorem Room.depth {k : Nat} {A : Around} (r : Room k A) : A.depth < recursionLimit := by have := r.dp; omega
theorem Room.units {k : Nat} {A : Around} (r : Room k A) : A.units + 64 < cLine := by have := r.un; omega
def tNil : TA := fun _ H Q => Q [] H
def tCons (ta : TE) (tr : TA) : TA := fun σ H Q => ta σ H fun x H1 => tr σ H1 fun xs H2 => Q (x :: xs) H2
section
variable {X : Cx} {e : Expr} {es : List Expr} {te : TE} {t : TA} {pos : Pos}
theorem pa_nil : PA X [] tNil := fun _ _ _ _ H Q I h => Calls.spliced_nil ⟨[], H, I, .nil, h⟩
theorem pa_cons (ha : PE X e te) (hr : PA X es t) (hs : starEach (e :: es) X.env = (false, eval e X.env) :: starEach es X.env := by rfl) : PA X (e :: es) (tCons te t) := by
  intro pos pins s σ H Q I h
  rw [hs]
  show wpAny _ _ (spliced ((false, eval e X.env) :: backTo pos (starEach es X.env))) _ _ s
  refine Calls.spliced_cons (thn (ha pins s σ H _ I h) fun u s1 ⟨x, H1, I1, r1, q1⟩ => ?_)
  exact thn (hr pos pins s1 σ H1 _ I1 q1) fun us s2 ⟨xs, H2, I2, r2, q2⟩ => ⟨x :: xs, H2, I2, .cons r1 r2, q2⟩
def tTup (t : TA) : TE := fun σ H Q => t σ H fun xs H1 => xs.length ≤ sizeLine ∧ ∀ p, H1 p = none → Q (.ref p) (upd H1 p (.tup xs))
def tLst (t : TA) : TE := fun σ H Q => t σ H fun xs H1 => xs.length ≤ sizeLine ∧ ∀ p, H1 p = none → Q (.ref p) (upd H1 p (.lst xs))
theorem pe_tup {x1} (h : PA X es t) : PE X (.Tuple es x1 pos) (tTup t) := by
  intro pins s σ H Q I hq
  refine wpAny_Tuple_spliced (thn (h pos pins s σ H _ I hq) fun us s1 ⟨xs, H1, I1, r, z, q⟩ => ⟨by rw [← r.length]; exact z, ?_⟩)
  have hf : H1 s1.heap.objs.size = none := I1.hok.fresh (Nat.le_refl _)
  refine ⟨.ref s1.heap.objs.size, upd H1 s1.heap.objs.size (.tup xs), I1.laid (t' := s1.toks) (fun b u e => Heap.get?_push_of_some _ e) (Nat.le_refl _) ?_, rfl, q _ hf⟩
  exact ⟨z, us, r, ⟨_, Heap.get?_push_size _ rfl, rfl, _, rfl⟩⟩
theorem pe_lst (h : PA X es t) : PE X (.List es pos) (tLst t) := by
  intro pins s σ H Q I hq
  refine wpAny_List_spliced (thn (h pos pins s σ H _ I hq) fun us s1 ⟨xs, H1, I1, r, z, q⟩ => ⟨by rw [← r.length]; exact z, ?_⟩)
  have hf : H1 s1.heap.objs.size = none := I1.hok.fresh (Nat.le_refl _)
  refine ⟨.ref s1.heap.objs.size, upd H1 s1.heap.objs.size (.lst xs), I1.laid (t' := s1.toks) (fun b u e => Heap.get?_push_of_some _ e) (Nat.le_refl _) ?_, rfl, q _ hf⟩
  exact ⟨z, us, 0, r, Heap.get?_push_size _ rfl⟩
end
abbrev Sp := List V → Hp → VK → XK → Prop
abbrev CXT := List Env → Hp → Shared → XK → Value → Shared → Prop
structure Env0 (P : Program) (w : World) (K : PySem.W.Frag) (mg : Str → Option Value) (base : Heap) (A : Around) (outer : List Env) (s : Shared) (H : Hp) : Prop where
  frames : A.frames = some outer
  mod : Mod K mg base
  bs : ∀ b o, base.get? b = some o → s.heap.get? b = some o ∧ H b = none
  bsz : base.objs.size ≤ s.heap.objs.size
  funs : s.heap.FunFrames base outer
  frf : ∀ b ∈ frs outer, H b = none
  hok : HOk P w H s.heap
  bare : AllBare s.gens
def CE (outer : List Env) (P : Program) (w : World) (H : Hp) (s : Shared) (Q : VK) (u : Value) (s' : Shared) : Prop :=
  ∃ v H', s'.os = s.os ∧ AllBare s'.gens ∧ Un (frs outer) [] H H' s.heap s'.heap ∧ HOk P w H' s'.heap ∧ RelV v u ∧ Q v H'
def CR (CX : CXT) (outer : List Env) (P : Program) (w : World) (H : Hp) (s : Shared) (Q : VK) (E : XK) (r : Result) (s' : Shared) : Prop :=
  match r with
  | .ok (.ret u) => CE outer P w H s Q u s'
  | .ok _ => False
  | .error e => CX outer H s E e s'
structure FnOk (P : Program) (w : World) (K : PySem.W.Frag) (mg : Str → Option Value) (base : Heap) (CX : CXT) (k : Nat) (f : Addr) (fd : FuncData) (ps : List Str) (sp : Sp) : Prop where
  len : ∀ vs H Q E, sp vs H Q E → vs.length = ps.length
  run : ∀ (A : Around) (outer : List Env) (s : Shared) (H : Hp) (args : Args) (us : List Value) (vs : List V) (Q : VK) (E : XK), Room k A → Env0 P w K mg base A outer s H → BindsTo s fd args (ps.zip us) → Vals vs us → sp vs H Q E →
    codeAny (model P w) A (.call (.ref f) args) (CR CX outer P w H s Q E) s
theorem FnOk.mono {P : Program} {w : World} {K : PySem.W.Frag} {mg : Str → Option Value} {base : Heap} {CX : CXT} {j k : Nat} {f : Addr} {fd : FuncData} {ps : List Str} {sp : Sp} (F : FnOk P w K mg base CX j f fd ps sp) (h : j ≤ k) :
    FnOk P w K mg base CX k f fd ps sp := ⟨F.len, fun A outer s H args us vs Q E hr => F.run A outer s H args us vs Q E (hr.mono h)⟩
theorem Env0.make {P : Program} {w : World} {K : PySem.W.Frag} {mg : Str → Option Value} {base : Heap} {A : Around} {outer : List Env} {s : Shared} {H : Hp} (e : Env0 P w K mg base A outer s H) (C : Addr) (us : List Value) (kw : List (Str × Value)) :
    Env0 P w K mg base (A.under (.builtin "type.__call__" ⟨.ref C :: us, kw⟩)) outer s H := ⟨by first | exact e.frames | (simpa [Around.under, Code.envs, Code.isFrame, pushEnvs] using e.frames), e.mod, e.bs, e.bsz, e.funs, e.frf, e.hok, e.bare⟩
section
variable {X : Cx} {pins : List (Addr × Obj)} {σ : St} {H : Hp} {s s' : Shared}
theorem Inv.env0 (I : Inv X pins σ H s) : Env0 X.prog X.w X.K X.mg X.base X.A X.stack s H :=
  ⟨I.ok.frames, I.ok.mod, I.bs, Nat.le_trans I.ok.bsz I.sz, I.stack, I.stkFree, I.hok, I.bare⟩
theorem Inv.after {Q : VK} {u : Value} (I : Inv X pins σ H s) (h : CE X.stack X.prog X.w H s Q u s') : EP X pins σ Q u s' := by
  obtain ⟨v, H', os, bare, un, hok, r, q⟩ := h
  obtain ⟨hh, g, d, t, os'⟩ := s'
  obtain rfl : os' = s.os := os
  exact ⟨v, H', I.call (h' := hh) (g' := g) (d' := d) (t' := t) (ch := []) un hok bare (fun b z => absurd z (by simp)), r, q⟩
end
def tCall (sp : Sp) (dvs : List V) (E : XK) (t : TA) : TE := fun σ H Q => t σ H fun vs H1 => sp (vs ++ dvs) H1 Q E
def tMeth (C : Addr) (m : Str) (sp : Sp) (dvs : List V) (E : XK) (ta : TE) (t : TA) : TE := fun σ H Q => ta σ H fun x H1 => ∃ a dx fs, x = .ref a ∧ H1 a = some (.ins C dx fs) ∧ fs.lookup m = none ∧
  t σ H1 fun vs H2 => sp (x :: (vs ++ dvs)) H2 Q E
def tMake (C : Addr) (sp : Sp) (dvs : List V) (E : XK) (t : TA) : TE := fun σ H Q => t σ H fun vs H1 => ∀ x dx, H1 x = none → H1 dx = none → dx ≠ x →
  sp (.ref x :: (vs ++ dvs)) (upd (upd H1 dx (.own x)) x (.ins C dx [])) (fun v H2 => v = .non ∧ Q (.ref x) H2) E
def Binds (K : PySem.W.Frag) (fd : FuncData) (ps : List Str) (ds : List Value) : Prop :=
  ∀ (s : Shared) (us : List Value), K.In s.heap → (us ++ ds).length = ps.length → BindsTo s fd ⟨us, []⟩ (ps.zip (us ++ ds))
theorem Binds.all {K : PySem.W.Frag} {fd : FuncData} {ps : List Str} (h : ∀ us : List Value, us.length = ps.length → bindArgs fd ⟨us, []⟩ = pure (ps.zip us)) : Binds K fd ps [] := fun s us _ hl => by
  rw [List.append_nil] at hl ⊢
  exact .of_eq (h us hl)
def Passes (CX : CXT) (X : Cx) (E : XK) : Prop := ∀ (pins : List (Addr × Obj)) (σ : St) (H : Hp) (s : Shared) (e : Value) (s' : Shared), Inv X pins σ H s → CX X.stack H s E e s' → X.xe e s'
section
variable {X : Cx} {CX : CXT} {k : Nat} {f C : Addr} {fd : FuncData} {ps : List Str} {sp : Sp} {dvs : List V} {ds : List Value} {E : XK} {x m : Str} {p pos apos : Pos} {e o : Expr} {es : List Expr} {ta : TE} {t : TA}
theorem run_fn {pins : List (Addr × Obj)} {σ : St} {H : Hp} {s : Shared} {Q : VK} {us : List Value} {vs : List V} (F : FnOk X.prog X.w X.K X.mg X.base CX k f fd ps sp) (hr : Room k X.A) (hb : Binds X.K fd ps ds) (hd : Vals dvs ds) (hx : Passes CX X E)
    (I : Inv X pins σ H s) (r : Vals vs us) (h : sp (vs ++ dvs) H Q E) : wpAny (model X.prog X.w) X.A (call (.ref f) us) (EP X pins σ Q) X.xe s := by
  have r2 : Vals (vs ++ dvs) (us ++ ds) := r.append hd
  have hl : (us ++ ds).length = ps.length := by rw [← r2.length]; exact F.len _ _ _ _ h
  refine wpAny_call (codeAny_mono (F.run X.A X.stack s H ⟨us, []⟩ (us ++ ds) (vs ++ dvs) Q E hr I.env0 (hb s us I.kIn hl) r2 h) fun r s' hq => ?_)
  cases r with
  | error e => exact hx pins σ H s e s' I hq
  | ok fl =>
    cases fl with
    | ret u => exact I.after hq
    | next => exact False.elim hq
    | brk => exact False.elim hq
    | cont => exact False.elim hq
theorem pe_call (F : FnOk X.prog X.w X.K X.mg X.base CX k f fd ps sp) (hr : Room k X.A) (hg : Gl X x) (hm : X.mg x = some (.ref f)) (hk : PySem.W.keepIn X.K (.ref f) = true) (hb : Binds X.K fd ps ds) (hd : Vals dvs ds) (hx : Passes CX X E)
    (ha : PA X (e :: es) t) (hdb : (x == ("__debug__" : Str)) = false := by decide) (he : starEach (e :: es) X.env = (false, eval e X.env) :: starEach es X.env := by rfl) (hpl : (backTo pos (starEach es X.env)).any (·.1) = false := by rfl) :
    PE X (.Call (.Name x p) (e :: es) [] pos) (tCall sp dvs E t) := by
  intro pins s σ H Q I h
  refine wpAny_Call_Name_kw (ld_glob I hg hm ?_ hdb)
  refine PySem.W.callWith_K (h₀ := X.base) I.ok.mod.kin hk (thn (ha pos pins s σ H _ I h) fun us s1 ⟨vs, H1, I1, r, q⟩ => ⟨I1.kIn, ?_⟩) he hpl
  exact run_fn F hr hb hd hx I1 r q
theorem pe_meth {pl : Sem Bool} (he : PE X o ta) (c : Cls X.K C) (hm : Meth X.K C m f) (F : FnOk X.prog X.w X.K X.mg X.base CX k f fd ps sp) (hr : Room k X.A) (hb : Binds X.K fd ps ds) (hd : Vals dvs ds) (hx : Passes CX X E) (ha : PA X (e :: es) t)
    (hst : starEach (e :: es) X.env = (false, eval e X.env) :: starEach es X.env := by rfl) (hpl : (backTo pos (starEach es X.env)).any (·.1) = false := by rfl)
    (ht : eval (.Call (.Attribute o m apos) (e :: es) [] pos) X.env = (do
      let ov ← eval o X.env
      standAt apos.atName
      let (f, first) ← holding [ov] (getMethod ov m pl)
      callWith pos f first (backTo pos (starEach (e :: es) X.env)) (backToKw pos (keywordEach [] X.env))) := by rfl) :
    PE X (.Call (.Attribute o m apos) (e :: es) [] pos) (tMeth C m sp dvs E ta t) := by
  intro pins s σ H Q I h
  refine PySem.W.methodCall_KW (pl := pl) (thn (he pins s σ H _ I h) fun u s1 ⟨x, H1, I1, rx, a, dx, fs, ex, ea, l, q⟩ => ?_) ht
  subst ex
  obtain rfl : u = Value.ref a := rx
  refine getmeth_ok I1 ea c hm l ?_
  refine PySem.W.callWith_K (first := [.ref a]) (h₀ := X.base) I.ok.mod.kin hm.kp (thn (ha pos pins s1 σ H1 _ I1 q) fun us s2 ⟨vs, H2, I2, r, q2⟩ => ⟨I2.kIn, ?_⟩) hst hpl
  exact run_fn (us := .ref a :: us) (vs := .ref a :: vs) F hr hb hd hx I2 (.cons rfl r) q2
structure Mk (K : PySem.W.Frag) (C f : Addr) : Prop where
  makes : PySem.W.makesIn K C = true
  init : PySem.W.findIn K (.ref C) "__init__" = some (some (.ref f))
  fn : PySem.W.isFn K (.ref f) = true
  kp : PySem.W.keepIn K (.ref C) = true
theorem run_make {pins : List (Addr × Obj)} {σ : St} {H : Hp} {s : Shared} {Q : VK} {us : List Value} {vs : List V} (M : Mk X.K C f) (F : FnOk X.prog X.w X.K X.mg X.base CX k f fd ps sp) (hr : Room (k + 1) X.A) (hb : Binds X.K fd ps ds) (hd : Vals dvs ds)
    (hx : Passes CX X E) (I : Inv X pins σ H s) (r : Vals vs us)
    (h : ∀ x dx, H x = none → H dx = none → dx ≠ x → sp (.ref x :: (vs ++ dvs)) (upd (upd H dx (.own x)) x (.ins C dx [])) (fun v H2 => v = .non ∧ Q (.ref x) H2) E) :
    wpAny (model X.prog X.w) X.A (call (.ref C) us) (EP X pins σ Q) X.xe s := by
  have hq := h (s.heap.objs.size + 1) s.heap.objs.size (I.hok.fresh (Nat.le_succ _)) (I.hok.fresh (Nat.le_refl _)) (Nat.ne_of_lt (Nat.lt_succ_self _))
  have I2 := Inv.made (C := C) I
  have r2 : Vals (V.ref (s.heap.objs.size + 1) :: (vs ++ dvs)) (Value.ref (s.heap.objs.size + 1) :: (us ++ ds)) := .cons rfl (r.append hd)
  have hl : (Value.ref (s.heap.objs.size + 1) :: us ++ ds).length = ps.length := by
    have e := r2.length
    rw [F.len _ _ _ _ hq] at e
    exact e.symm
  refine wpAny_call (make_map (f := f) I.kIn M.makes M.init (beq_iff_eq.mp M.fn) (codeAny_mono (F.run _ X.stack _ _ ⟨Value.ref (s.heap.objs.size + 1) :: us, []⟩ (Value.ref (s.heap.objs.size + 1) :: (us ++ ds)) _ _ E (hr.make C us [])
    (I2.env0.make C us []) (hb _ (Value.ref (s.heap.objs.size + 1) :: us) I2.kIn hl) r2 hq) fun r s' hq' => ?_))
  cases r with
  | error e => exact hx pins σ _ _ e s' I2 hq'
  | ok fl =>
    cases fl with
    | ret u =>
      obtain ⟨v, H', I3, rv, ev, q3⟩ := I2.after hq'
      subst ev
      exact ⟨rv, ⟨V.ref (s.heap.objs.size + 1), H', I3, rfl, q3⟩⟩
    | next => exact False.elim hq'
    | brk => exact False.elim hq'
    | cont => exact False.elim hq'
theorem pe_make (M : Mk X.K C f) (F : FnOk X.prog X.w X.K X.mg X.base CX k f fd ps sp) (hr : Room (k + 1) X.A) (hg : Gl X x) (hm : X.mg x = some (.ref C)) (hb : Binds X.K fd ps ds) (hd : Vals dvs ds) (hx : Passes CX X E)
    (ha : PA X (e :: es) t) (hdb : (x == ("__debug__" : Str)) = false := by decide) (he : starEach (e :: es) X.env = (false, eval e X.env) :: starEach es X.env := by rfl) (hpl : (backTo pos (starEach es X.env)).any (·.1) = false := by rfl) :
    PE X (.Call (.Name x p) (e :: es) [] pos) (tMake C sp dvs E t) := by
  intro pins s σ H Q I h
  refine wpAny_Call_Name_kw (ld_glob I hg hm ?_ hdb)
  refine PySem.W.callWith_K (h₀ := X.base) I.ok.mod.kin M.kp (thn (ha pos pins s σ H _ I h) fun us s1 ⟨vs, H1, I1, r, q⟩ => ⟨I1.kIn, ?_⟩) he hpl
  exact run_make M F hr hb hd hx I1 r q
end
section
variable {X : Cx} {CX : CXT} {k : Nat} {f C : Addr} {fd : FuncData} {ps ks : List Str} {sp : Sp} {E : XK} {x m : Str} {p pos apos kpos : Pos} {e o : Expr} {es : List Expr} {kws : List Keyword} {te ta : TE} {t tk : TA} {nm : Option Str}
variable {g : List Value → List Value → List Value} {gV : List V → List V → List V}
end
structure FnScope (N P : List Str) (sc : Scope) : Prop where
  kind : sc.kind = .function
  co : sc.isCoroutine = false
  gen : sc.isGenerator = false
  nd : N.Nodup
  pre : N.take P.length = P
  par : ∀ x ∈ P, sc.names.lookup x = some .local ∨ sc.names.lookup x = some .cell
  nofree : ∀ y ∈ sc.names, y.2 ≠ .free
theorem bindL_out {kindOf : Str → Option NameKind} {x : Str} : ∀ {binds : List (Str × Value)} {m : Str → Option Value}, (∀ v, (x, v) ∉ binds) → bindL kindOf binds m x = m x
  | [], _, _ => rfl
  | (n, v) :: r, m, h => by
    unfold bindL
    rw [bindL_out fun w hw => h w (List.mem_cons_of_mem _ hw)]
    split
    · have : x ≠ n := by rintro rfl; exact h v List.mem_cons_self
      simp [this]
    · rfl
theorem bindC_out {kindOf : Str → Option NameKind} {x : Str} : ∀ {binds : List (Str × Value)} {m : Str → Option Value}, (∀ v, (x, v) ∉ binds) → bindC kindOf binds m x = m x
  | [], _, _ => rfl
  | (n, v) :: r, m, h => by
    unfold bindC
    rw [bindC_out fun w hw => h w (List.mem_cons_of_mem _ hw)]
    split
    · rfl
    · have : x ≠ n := by rintro rfl; exact h v List.mem_cons_self
      simp [this]
theorem bindL_get {kindOf : Str → Option NameKind} {x : Str} {v : Value} : ∀ {P : List Str} {vs : List Value} {i : Nat} {m : Str → Option Value}, P.Nodup → P[i]? = some x → vs[i]? = some v → kindOf x = some .local →
    bindL kindOf (P.zip vs) m x = some v
  | [], _, _, _, _, h, _, _ => by simp at h
  | _ :: _, [], _, _, _, _, h, _ => by simp at h
  | p :: P, w :: vs, 0, m, nd, h1, h2, hk => by
    simp at h1 h2; subst h1; subst h2
    show bindL kindOf ((p, w) :: P.zip vs) m p = _
    unfold bindL
    rw [bindL_out fun v hv => (List.nodup_cons.mp nd).1 (List.of_mem_zip hv).1, if_pos hk]
    simp
  | p :: P, w :: vs, i + 1, m, nd, h1, h2, hk => by
    show bindL kindOf ((p, w) :: P.zip vs) m x = _
    unfold bindL
    exact bindL_get (i := i) (List.nodup_cons.mp nd).2 (by simpa using h1) (by simpa using h2) hk
theorem bindC_get {kindOf : Str → Option NameKind} {x : Str} {v : Value} : ∀ {P : List Str} {vs : List Value} {i : Nat} {m : Str → Option Value}, P.Nodup → P[i]? = some x → vs[i]? = some v → kindOf x ≠ some .local →
    bindC kindOf (P.zip vs) m x = some v
  | [], _, _, _, _, h, _, _ => by simp at h
  | _ :: _, [], _, _, _, _, h, _ => by simp at h
  | p :: P, w :: vs, 0, m, nd, h1, h2, hk => by
    simp at h1 h2; subst h1; subst h2
    show bindC kindOf ((p, w) :: P.zip vs) m p = _
    unfold bindC
    rw [bindC_out fun v hv => (List.nodup_cons.mp nd).1 (List.of_mem_zip hv).1, if_neg hk]
    simp
  | p :: P, w :: vs, i + 1, m, nd, h1, h2, hk => by
    show bindC kindOf ((p, w) :: P.zip vs) m x = _
    unfold bindC
    exact bindC_get (i := i) (List.nodup_cons.mp nd).2 (by simpa using h1) (by simpa using h2) hk
def start (N : List Str) (vs : List V) : St := vs.map some ++ List.replicate (N.length - vs.length) none
def cxOf (CX : CXT) (P : Program) (w : World) (K : PySem.W.Frag) (mg : Str → Option Value) (base : Heap) (N : List Str) (qual : Str) (scope : Scope) (f : Addr) (cd : Value) (A : Around) (outer : List Env) (s : Shared) (H : Hp) (E : XK) : Cx where
  prog := P
  w := w
  K := K
  mg := mg
  base := base
  A := A.deeper (envOfC qual scope s.heap.objs.size f cd)
  N := N
  s₀ := s
  H₀ := H
  env := envOfC qual scope s.heap.objs.size f cd
  outer := outer
  stack := envOfC qual scope s.heap.objs.size f cd :: outer
  ex := []
  calm := true
  fn := fun _ => true
  pn := []
  xe := fun e s' => wpAny (model P w) (A.deeper (envOfC qual scope s.heap.objs.size f cd)) (leaving (envOfC qual scope s.heap.objs.size f cd) e) (fun _ s'' => CX outer H s E e s'') (fun e' s'' => CX outer H s E e' s'') s'
theorem cell_has {sc : Scope} {n : Nat} {x : Str} (h : sc.names.lookup x = some .cell) : ∃ c, (cellsFrom n sc.names []).lookup x = some c := by
  have q := PySem.W.cellsFrom_some sc.names n [] (.inl h)
  exact Option.isSome_iff_exists.mp q
theorem inv_start {CX : CXT} {P : Program} {w : World} {K : PySem.W.Frag} {mg : Str → Option Value} {base : Heap} {N ps : List Str} {qual : Str} {scope : Scope} {f : Addr} {cd : Value} {A : Around} {outer : List Env} {s s1 : Shared} {H : Hp} {E : XK} {us : List Value} {vs : List V}
    (S : FnScope N ps scope) (hd : A.handled = none) (e0 : Env0 P w K mg base A outer s H) (hl : vs.length = ps.length) (r : Vals vs us)
    (x : InCallC s s.heap.objs.size (bindL (envOfC qual scope s.heap.objs.size f cd).kindOf (ps.zip us) fun _ => none) (cellsFrom (s.heap.objs.size + 1) scope.names []) (bindC (envOfC qual scope s.heap.objs.size f cd).kindOf (ps.zip us) fun _ => none) s1) :
    Inv (cxOf CX P w K mg base N qual scope f cd A outer s H E) [] (start N vs) H s1 := by
  have hpl : ps.length ≤ N.length := by have := congrArg List.length S.pre; rw [List.length_take] at this; omega
  obtain ⟨h1, tk, rfl, hk⟩ := x.done
  have noA : ∀ b : Addr, b ∉ (cxOf CX P w K mg base N qual scope f cd A outer s H E).ex := fun b z => absurd (show b ∈ ([] : List Addr) from z) (by simp)
  refine ⟨⟨e0.mod, S.kind, rfl, rfl, Nat.le_refl _, fun y z c h1 h2 => ?_, fun y hy => ?_, fun y c _ h => ?_, fun _ => hd, Around.frames_deeper e0.frames, .inr ⟨rfl, rfl⟩, fun b z => absurd z (noA b), e0.bs, e0.bsz, fun b _ _ => noA b, fun b z => absurd z (noA b), e0.funs, e0.frf⟩,
    rfl, e0.bare, Un.kept hk, ⟨_, x.toInCall.ns, fun i y v h1 h2 h3 => ?_⟩, fun y c h => ⟨_, x.cell y c h⟩, e0.hok.fresh (Nat.le_refl _), fun y c h => ?_, fun p hp => absurd (show p ∈ ([] : List (Addr × Obj)) from hp) (by simp), e0.hok.kept hk, ?_⟩
  · exact name_of_addr x.apart (PySem.mem_of_lookup h1) (PySem.mem_of_lookup h2)
  · have hy : scope.names.lookup y = some .cell ∨ scope.names.lookup y = some .free := hy
    rcases hy with hy | hy
    · exact cell_has hy
    · exact absurd rfl (S.nofree _ (PySem.mem_of_lookup hy))
  · exact Nat.le_of_lt (x.above y c (PySem.mem_of_lookup h))
  · have hi : i < vs.length := by
      unfold start at h2
      by_cases hi : i < vs.length
      · exact hi
      · rw [List.getElem?_append_right (by simpa using hi)] at h2
        rw [List.getElem?_replicate] at h2
        split at h2 <;> cases h2
    have ha : vs[i]? = some v := by
      unfold start at h2
      rw [List.getElem?_append_left (by simpa using hi), List.getElem?_map] at h2
      cases e : vs[i]? with
      | none => rw [e] at h2; cases h2
      | some a => rw [e] at h2; cases h2; rfl
    obtain ⟨u, hu, rv⟩ := r.get ha
    have hp : ps[i]? = some y := by
      rw [← S.pre, List.getElem?_take_of_lt (by omega)]; exact h1
    have ndP : ps.Nodup := by rw [← S.pre]; exact S.nd.sublist (List.take_sublist _ _)
    refine ⟨u, rv, ?_⟩
    rcases S.par y (List.mem_of_getElem? hp) with k | k
    · exact .inl ⟨k, bindL_get ndP hp hu k⟩
    · obtain ⟨c, e⟩ := cell_has (n := s.heap.objs.size + 1) k
      refine .inr ⟨.inl k, c, e, ?_⟩
      have q := x.cell y c e
      rw [bindC_get ndP hp hu (by show scope.names.lookup y ≠ _; rw [k]; decide)] at q
      exact q
  · exact e0.hok.fresh (Nat.le_of_lt (x.above y c (PySem.mem_of_lookup h)))
  · unfold start
    show _ = N.length
    rw [List.length_append, List.length_map, List.length_replicate]
    omega
theorem fn_of {CX : CXT} {P : Program} {w : World} {K : PySem.W.Frag} {mg : Str → Option Value} {base : Heap} {k : Nat} {f : Addr} {name qual : Str} {params : Arguments} {body : List Stmt} {scope : Scope} {dV kV doc pm cdv ct oc : Value} {an od : Option Addr}
    {osl : Array (Option Value)} {N ps : List Str} {sp : Sp} (lk : K.lookup f = some ⟨oc, od, .func (PySem.W.fnOf name qual params body scope dV kV doc pm an cdv ct), osl⟩) (hcd : PySem.W.codeIn K cdv qual = true) (S : FnScope N ps scope)
    (len : ∀ vs H Q E, sp vs H Q E → vs.length = ps.length)
    (hbody : ∀ (A : Around) (outer : List Env) (s : Shared) (H : Hp) (vs : List V) (Q : VK) (E : XK), Room k (A.deeper (envOfC qual scope s.heap.objs.size f cdv)) → sp vs H Q E →
      ∃ t, PSs (cxOf CX P w K mg base N qual scope f cdv A outer s H E) body t ∧ t { nx := fun _ H' => Q .non H', rt := Q } (start N vs) H) :
    FnOk P w K mg base CX (k + 1) f (PySem.W.fnOf name qual params body scope dV kV doc pm an cdv ct) ps sp := by
  refine ⟨len, fun A outer s H args us vs Q E hr e0 hb r hsp => ?_⟩
  have hl := len _ _ _ _ hsp
  have KX : K.In s.heap := e0.mod.kin.keeps fun b o e => (e0.bs b o e).1
  have lim : s.heap.NoLimit := e0.mod.nolimit.keeps fun b o e => (e0.bs b o e).1
  have hkind : ∀ y ∈ ps.zip us, scope.names.lookup y.1 = some .local ∨ (scope.names.lookup y.1 = some .cell ∧ ((cellsFrom (s.heap.objs.size + 1) scope.names []).lookup y.1).isSome = true) := fun ⟨n, v⟩ hy => by
    rcases S.par n (List.of_mem_zip hy).1 with q | q
    · exact .inl q
    · exact .inr ⟨q, PySem.W.cellsFrom_some _ _ _ (.inl q)⟩
  refine codeAny_call_function hr.depth (KX _ _ lk) rfl S.co S.gen rfl (PySem.W.codeRec_of KX hcd) (hb _ _ _ _ ?_)
  refine wpAny_newFunctionEnv_cells S.kind hkind fun env he s1 x => ?_
  subst he
  refine ⟨lim.keeps x.toInCall.keep, codeAny_func ?_⟩
  obtain ⟨t, ht, hq⟩ := hbody A outer s H vs Q E (hr.deeper _) hsp
  have I : Inv (cxOf CX P w K mg base N qual scope f cdv A outer s H E) [] (start N vs) H s1 := inv_start S hr.hd e0 hl r x
  refine wpAny_mono (ht [] s1 (start N vs) H _ I hq) (fun fl s' hs => ?_) fun e s' hs => hs
  have fin : ∀ {σ' : St} {H' : Hp} {v : V} {u : Value}, Inv (cxOf CX P w K mg base N qual scope f cdv A outer s H E) [] σ' H' s' → RelV v u → Q v H' → CE outer P w H s Q u s' :=
    fun {σ' H' v u} J rv q => ⟨v, H', J.os, J.bare, J.base, J.hok, rv, q⟩
  cases fl with
  | ret u =>
    obtain ⟨v, σ', H', J, rv, q⟩ := hs
    exact fin J rv q
  | next =>
    obtain ⟨σ', H', J, q⟩ := hs
    exact fin (v := V.non) (u := Value.none) J rfl q
  | brk =>
    obtain ⟨_, _, _, q⟩ := hs
    exact False.elim q
  | cont =>
    obtain ⟨_, _, _, q⟩ := hs
    exact False.elim q
end L2
namespace L2
open PySem PySem.Spec PyProof.Rows
section
variable {X : Cx} {x : Str} {p pos : Pos} {e : Expr} {es : List Expr} {t : TA} {id T : String} {r : List V → Hp → VK → Prop}
def tCB (r : List V → Hp → VK → Prop) (t : TA) : TE := fun σ H Q => t σ H fun vs H1 => r vs H1 Q
theorem pe_callB (hc : CallR X (.builtin id) r) (hg : Gl X x) (hm : X.mg x = none) (hv : bootBuiltins x = some (.builtin id)) (ha : PA X (e :: es) t) (hn : x ≠ "__name__" := by decide) (hdb : (x == ("__debug__" : Str)) = false := by decide)
    (he : starEach (e :: es) X.env = (false, eval e X.env) :: starEach es X.env := by rfl) (hpl : (backTo pos (starEach es X.env)).any (·.1) = false := by rfl) : PE X (.Call (.Name x p) (e :: es) [] pos) (tCB r t) := by
  intro pins s σ H Q I h
  refine wpAny_Call_Name_kw (ld_blt I hg hm hv ?_ hn hdb)
  exact PyProof.Rows.callWith_builtin1 (thn (ha pos pins s σ H _ I h) fun us s1 ⟨vs, H1, I1, r1, q1⟩ => hc pins s1 σ H1 vs us Q I1 r1 q1) he hpl
theorem pe_callTy (hc : CallR X (.type T) r) (hg : Gl X x) (hm : X.mg x = none) (hv : bootBuiltins x = some (.type T)) (ha : PA X (e :: es) t) (hn : x ≠ "__name__" := by decide) (hdb : (x == ("__debug__" : Str)) = false := by decide)
    (he : starEach (e :: es) X.env = (false, eval e X.env) :: starEach es X.env := by rfl) (hpl : (backTo pos (starEach es X.env)).any (·.1) = false := by rfl) : PE X (.Call (.Name x p) (e :: es) [] pos) (tCB r t) := by
  intro pins s σ H Q I h
  refine wpAny_Call_Name_kw (ld_blt I hg hm hv ?_ hn hdb)
  exact PyProof.Rows.callWith_type1 (thn (ha pos pins s σ H _ I h) fun us s1 ⟨vs, H1, I1, r1, q1⟩ => hc pins s1 σ H1 vs us Q I1 r1 q1) he hpl
end
end L2
namespace L2
open PySem PySem.Spec PyProof.Rows
section
variable {κ : Type} [DecidableEq κ]
def valV (kvs : List (κ × V)) (k : κ) : Option V := (kvs.find? fun kv => decide (kv.1 = k)).map (·.2)
def putK (kvs : List (κ × V)) (k : κ) (v : V) : List (κ × V) :=
  if (kvs.any fun kv => decide (kv.1 = k)) = true then kvs.map (fun kv => if kv.1 = k then (kv.1, v) else kv) else kvs ++ [(k, v)]
def dropK (kvs : List (κ × V)) (k : κ) : List (κ × V) := kvs.filter fun kv => decide (kv.1 ≠ k)
theorem valV_pos {p : κ × V} {r : List (κ × V)} {k : κ} (e : p.1 = k) : valV (p :: r) k = some p.2 := by simp [valV, List.find?_cons, e]
theorem valV_neg {p : κ × V} {r : List (κ × V)} {k : κ} (e : ¬ p.1 = k) : valV (p :: r) k = valV r k := by simp [valV, List.find?_cons, e]
theorem valV_any (k : κ) : ∀ kvs : List (κ × V), (kvs.any fun kv => decide (kv.1 = k)) = (valV kvs k).isSome
  | [] => rfl
  | p :: r => by
    rw [List.any_cons]
    by_cases e : p.1 = k
    · simp only [valV_pos e, decide_eq_true e, Bool.true_or, Option.isSome_some]
    · rw [valV_neg e, decide_eq_false e, Bool.false_or]; exact valV_any k r
theorem valV_map (k j : κ) (y : V) : ∀ kvs : List (κ × V), valV (kvs.map fun kv => if kv.1 = k then (kv.1, y) else kv) j = (valV kvs j).map fun x => if j = k then y else x
  | [] => rfl
  | p :: r => by
    have ih := valV_map k j y r
    rw [List.map_cons]
    by_cases h : p.1 = k
    · rw [if_pos h]
      by_cases e : p.1 = j
      · rw [valV_pos (p := (p.1, y)) e, valV_pos e, Option.map_some, if_pos (e.symm.trans h)]
      · rw [valV_neg (p := (p.1, y)) e, valV_neg e, ih]
    · rw [if_neg h]
      by_cases e : p.1 = j
      · rw [valV_pos (p := p) e, valV_pos e, Option.map_some, if_neg (fun z => h (e.trans z))]
      · rw [valV_neg (p := p) e, valV_neg e, ih]
theorem valV_snoc (k j : κ) (y : V) : ∀ kvs : List (κ × V), valV kvs k = none → valV (kvs ++ [(k, y)]) j = if j = k then some y else valV kvs j
  | [], _ => by
    by_cases e : k = j
    · rw [if_pos e.symm]; exact valV_pos (p := (k, y)) e
    · rw [if_neg (fun z => e z.symm)]; exact valV_neg (p := (k, y)) e
  | p :: r, hn => by
    rw [List.cons_append]
    have hk : ¬ p.1 = k := fun z => by rw [valV_pos z] at hn; cases hn
    rw [valV_neg hk] at hn
    have ih := valV_snoc k j y r hn
    by_cases e : p.1 = j
    · rw [valV_pos e, valV_pos e, if_neg (fun z => hk (e.trans z))]
    · rw [valV_neg e, valV_neg e, ih]
theorem valV_put (kvs : List (κ × V)) (k j : κ) (y : V) : valV (putK kvs k y) j = if j = k then some y else valV kvs j := by
  unfold putK
  by_cases a : (kvs.any fun kv => decide (kv.1 = k)) = true
  · rw [if_pos a, valV_map]
    rw [valV_any] at a
    by_cases e : j = k
    · obtain ⟨x, hx⟩ := Option.isSome_iff_exists.mp a
      rw [if_pos e, e, hx, Option.map_some, if_pos rfl]
    · rw [if_neg e]
      cases valV kvs j with
      | none => rfl
      | some x => rw [Option.map_some, if_neg e]
  · rw [if_neg a]
    refine valV_snoc k j y kvs ?_
    rw [valV_any] at a
    cases q : valV kvs k with
    | none => rfl
    | some x => rw [q] at a; exact (a rfl).elim
theorem length_putK (kvs : List (κ × V)) (k : κ) (v : V) : (putK kvs k v).length ≤ kvs.length + 1 := by
  unfold putK
  split
  · rw [List.length_map]; omega
  · rw [List.length_append, List.length_cons, List.length_nil]; omega
theorem RelO.isSome_eq {o : Option V} {u : Option Value} (r : RelO o u) : o.isSome = u.isSome := by
  cases o with
  | none => cases u with
    | none => rfl
    | some _ => exact (show False from r).elim
  | some _ => cases u with
    | none => exact (show False from r).elim
    | some _ => rfl
theorem RelO.getD {o : Option V} {u : Option Value} {d : V} {d' : Value} (r : RelO o u) (rd : RelV d d') : RelV (o.getD d) (u.getD d') := by
  cases o with
  | none => cases u with
    | none => exact rd
    | some _ => exact (show False from r).elim
  | some _ => cases u with
    | none => exact (show False from r).elim
    | some _ => exact r
theorem KV.val {kvs : List (κ × V)} {vs : List (κ × Value)} (r : KV kvs vs) (k : κ) : RelO (valV kvs k) (valueAt vs k) := by
  unfold KV at r
  induction r with
  | nil => exact True.intro
  | @cons p q ps qs h t ih =>
    obtain ⟨h1, h2⟩ := h
    by_cases e : p.1 = k
    · have e' : q.1 = k := h1.symm.trans e
      have b : valueAt (q :: qs) k = some q.2 := by simp [valueAt, List.find?_cons, e']
      rw [valV_pos e, b]; exact h2
    · have e' : ¬ q.1 = k := fun z => e (h1.trans z)
      have b : valueAt (q :: qs) k = valueAt qs k := by simp [valueAt, List.find?_cons, e']
      rw [valV_neg e, b]; exact ih
theorem KV.any {kvs : List (κ × V)} {vs : List (κ × Value)} (r : KV kvs vs) (k : κ) : (kvs.any fun kv => decide (kv.1 = k)) = vs.any fun kv => decide (kv.1 = k) := by
  unfold KV at r
  induction r with
  | nil => rfl
  | cons h t ih => rw [List.any_cons, List.any_cons, ih, h.1]
theorem KV.repl {kvs : List (κ × V)} {vs : List (κ × Value)} (r : KV kvs vs) (k : κ) {y : V} {u : Value} (ry : RelV y u) :
    KV (kvs.map fun kv => if kv.1 = k then (kv.1, y) else kv) (vs.map fun kv => if kv.1 = k then (kv.1, u) else kv) := by
  unfold KV at r ⊢
  induction r with
  | nil => exact .nil
  | @cons p q ps qs h t ih =>
    rw [List.map_cons, List.map_cons]
    refine .cons ?_ ih
    obtain ⟨h1, h2⟩ := h
    by_cases e : p.1 = k
    · rw [if_pos e, if_pos (h1.symm.trans e)]; exact ⟨h1, ry⟩
    · rw [if_neg e, if_neg (fun z => e (h1.trans z))]; exact ⟨h1, h2⟩
theorem KV.put {kvs : List (κ × V)} {vs : List (κ × Value)} (r : KV kvs vs) (k : κ) {y : V} {u : Value} (ry : RelV y u) : KV (putK kvs k y) (stored vs k u) := by
  unfold putK stored
  rw [r.any k]
  by_cases e : (vs.any fun kv => decide (kv.1 = k)) = true
  · rw [if_pos e, if_pos e]; exact r.repl k ry
  · rw [if_neg e, if_neg e]; exact Paired.snoc r ⟨rfl, ry⟩
theorem KV.drop {kvs : List (κ × V)} {vs : List (κ × Value)} (r : KV kvs vs) (k : κ) : KV (dropK kvs k) (without vs k) := by
  unfold KV at r ⊢
  unfold dropK without
  induction r with
  | nil => exact .nil
  | @cons p q ps qs h t ih =>
    obtain ⟨h1, h2⟩ := h
    rw [List.filter_cons, List.filter_cons]
    by_cases e : p.1 = k
    · have a : ¬ decide (p.1 ≠ k) = true := by simp [e]
      have b : ¬ decide (q.1 ≠ k) = true := by simp [h1.symm.trans e]
      rw [if_neg a, if_neg b]; exact ih
    · have e' : ¬ q.1 = k := fun z => e (h1.trans z)
      have a : decide (p.1 ≠ k) = true := by simp [e]
      have b : decide (q.1 ≠ k) = true := by simp [e']
      rw [if_pos a, if_pos b]; exact .cons ⟨h1, h2⟩ ih
theorem KV.keys {kvs : List (κ × V)} {vs : List (κ × Value)} (r : KV kvs vs) : kvs.map (·.1) = vs.map (·.1) := by
  unfold KV at r
  induction r with
  | nil => rfl
  | cons h t ih => rw [List.map_cons, List.map_cons, ih, h.1]
theorem KV.length {kvs : List (κ × V)} {vs : List (κ × Value)} (r : KV kvs vs) : kvs.length = vs.length := Paired.length r
theorem dropK_le (kvs : List (κ × V)) (k : κ) : (dropK kvs k).length ≤ kvs.length := List.length_filter_le _ _
end
theorem kV_is {P : Program} {w : World} {k : Key} {u : Value} (r : RelV (kV k) u) : (mixKind P w).is k u = true := by
  cases k with
  | inl i => obtain ⟨t, e⟩ := (show ∃ t, u = Value.int i t from r); subst e; exact mixKind_int P w i t
  | inr x => obtain ⟨t, e⟩ := (show ∃ t, u = Value.str x t from r); subst e; exact mixKind_str P w x t
theorem items_are {P : Program} {w : World} : ∀ {ks : List Key} {us : List Value}, Vals (ks.map kV) us → ItemsAre (mixKind P w) ks us
  | [], _, r => by rw [List.map_nil] at r; cases r; exact .nil
  | k :: ks, _, r => by
    rw [List.map_cons] at r
    cases r with
    | cons h t => exact .cons (kV_is h) (items_are t)
abbrev KT (H : Hp) : List (List Key × V) → List (List Key × Addr × Value) → Prop := Paired fun p q => p.1 = q.1 ∧ H q.2.1 = some (.tup (p.1.map kV)) ∧ RelV p.2 q.2.2
theorem KT.val {H : Hp} {kvs : List (List Key × V)} {xs : List (List Key × Addr × Value)} (r : KT H kvs xs) (k : List Key) : RelO (valV kvs k) ((atKey xs k).map (·.2)) := by
  induction r with
  | nil => exact True.intro
  | @cons p q ps qs h t ih =>
    obtain ⟨h1, _, h2⟩ := h
    by_cases e : p.1 = k
    · have e' : q.1 = k := h1.symm.trans e
      have b : atKey (q :: qs) k = some q.2 := by simp [atKey, List.find?_cons, e']
      rw [valV_pos e, b]; exact h2
    · have e' : ¬ q.1 = k := fun z => e (h1.trans z)
      have b : atKey (q :: qs) k = atKey qs k := by simp [atKey, List.find?_cons, e']
      rw [valV_neg e, b]; exact ih
theorem KT.repl {H : Hp} {kvs : List (List Key × V)} {xs : List (List Key × Addr × Value)} (r : KT H kvs xs) (k : List Key) {y : V} {u : Value} (ry : RelV y u) :
    KT H (kvs.map fun kv => if kv.1 = k then (kv.1, y) else kv) (xs.map (putAt k u)) := by
  induction r with
  | nil => exact .nil
  | @cons p q ps qs h t ih =>
    rw [List.map_cons, List.map_cons]
    refine .cons ?_ ih
    obtain ⟨h1, h2, h3⟩ := h
    unfold putAt
    by_cases e : p.1 = k
    · rw [if_pos e, if_pos (h1.symm.trans e)]; exact ⟨h1, h2, ry⟩
    · rw [if_neg e, if_neg (fun z => e (h1.trans z))]; exact ⟨h1, h2, h3⟩
theorem KT.put {H : Hp} {kvs : List (List Key × V)} {xs : List (List Key × Addr × Value)} (r : KT H kvs xs) (k : List Key) {b : Addr} {y : V} {u : Value} (hb : H b = some (.tup (k.map kV))) (ry : RelV y u) :
    KT H (putK kvs k y) (storedH xs k b u) := by
  have e : (kvs.any fun kv => decide (kv.1 = k)) = (atKey xs k).isSome := by
    rw [valV_any, (r.val k).isSome_eq, Option.isSome_map]
  unfold putK storedH
  rw [e]
  by_cases q : (atKey xs k).isSome = true
  · rw [if_pos q, if_pos q]; exact r.repl k ry
  · rw [if_neg q, if_neg q]; exact Paired.snoc r ⟨rfl, hb, ry⟩
theorem KT.keeps {H H' : Hp} {kvs : List (List Key × V)} {xs : List (List Key × Addr × Value)} (r : KT H kvs xs) (ht : ∀ b ys, H b = some (.tup ys) → H' b = some (.tup ys)) : KT H' kvs xs :=
  Paired.mapP r fun _ _ z => ⟨z.1, ht _ _ z.2.1, z.2.2⟩
section
variable {P : Program} {w : World} {H : Hp} {h : Heap} {a : Addr}
theorem rd_of {u : HO} (ok : HOk P w H h) (e : Rd H a u) : ObjOk P w H h a u := e.ok ok
theorem dk_rd {kvs : List (Key × V)} (ok : HOk P w H h) (e : Rd H a (.dK kvs)) : kvs.length ≤ sizeLine ∧ (a == sysModules) = false ∧ ∃ vs, KV kvs vs ∧ h.DictOf (mixKind P w) a vs :=
  show ObjOk P w H h a (.dK kvs) from rd_of ok e
theorem dk_of {kvs : List (Key × V)} (ok : HOk P w H h) (e : H a = some (.dK kvs)) : kvs.length ≤ sizeLine ∧ (a == sysModules) = false ∧ ∃ vs, KV kvs vs ∧ h.DictOf (mixKind P w) a vs := dk_rd ok (.inl e)
theorem key_of {ks : List Key} (ok : HOk P w H h) (e : H a = some (.tup (ks.map kV))) : (tupleKind (mixKind P w)).is h ks a := by
  obtain ⟨_, its, r, o, h1, h2, n, h3⟩ := (show ObjOk P w H h a (.tup (ks.map kV)) from ok a _ e)
  exact ⟨o, its.toArray, n, h1, h2, h3, by simpa using items_are r⟩
theorem dt_rd {kvs : List (List Key × V)} (ok : HOk P w H h) (e : Rd H a (.dT kvs)) : kvs.length ≤ sizeLine ∧ (a == sysModules) = false ∧
    ∃ xs, KT H kvs xs ∧ h.DictOfH (tupleKind (mixKind P w)) a xs := by
  obtain ⟨z, y, xs, r, o, es, ep, h1, h2, h3, h4, h5⟩ := (show ObjOk P w H h a (.dT kvs) from rd_of ok e)
  refine ⟨z, y, xs, r, o, es, ep, h1, h2, h3, h4, fun x hx => ?_, h5⟩
  have all : ∀ {l : List (List Key × V)} {m : List (List Key × Addr × Value)}, KT H l m → ∀ x ∈ m, (tupleKind (mixKind P w)).is h x.1 x.2.1 := by
    intro l m q
    induction q with
    | nil => intro x hx; exact nomatch hx
    | @cons p q ps qs hq t ih =>
      intro x hx
      rcases List.mem_cons.mp hx with e | hx
      · subst e
        exact key_of ok (by rw [← hq.1]; exact hq.2.1)
      · exact ih x hx
  exact all r x hx
theorem dt_of {kvs : List (List Key × V)} (ok : HOk P w H h) (e : H a = some (.dT kvs)) : kvs.length ≤ sizeLine ∧ (a == sysModules) = false ∧
    ∃ xs, KT H kvs xs ∧ h.DictOfH (tupleKind (mixKind P w)) a xs := dt_rd ok (.inl e)
end
def DGet (H : Hp) (a : Addr) (y : V) (r : Option V) : Prop :=
  (∃ kvs k, Rd H a (.dK kvs) ∧ y = kV k ∧ r = valV kvs k) ∨ ∃ kvs k b, Rd H a (.dT kvs) ∧ y = .ref b ∧ H b = some (.tup (k.map kV)) ∧ r = valV kvs k
def DPut (H : Hp) (a : Addr) (y v : V) (H' : Hp) : Prop :=
  (∃ kvs k, H a = some (.dK kvs) ∧ y = kV k ∧ kvs.length < sizeLine ∧ H' = upd H a (.dK (putK kvs k v))) ∨
  ∃ kvs k b, H a = some (.dT kvs) ∧ y = .ref b ∧ H b = some (.tup (k.map kV)) ∧ kvs.length < sizeLine ∧ H' = upd H a (.dT (putK kvs k v))
theorem DGet.k {H : Hp} {a : Addr} {kvs : List (Key × V)} {k : Key} (e : H a = some (.dK kvs)) : DGet H a (kV k) (valV kvs k) := .inl ⟨kvs, k, .inl e, rfl, rfl⟩
theorem DPut.k {H : Hp} {a : Addr} {kvs : List (Key × V)} {k : Key} {v : V} (e : H a = some (.dK kvs)) (hl : kvs.length < sizeLine) : DPut H a (kV k) v (upd H a (.dK (putK kvs k v))) := .inl ⟨kvs, k, e, rfl, hl, rfl⟩
section
variable {X : Cx} {pins : List (Addr × Obj)} {σ : St} {H : Hp} {s : Shared} {a : Addr} {y v : V} {u r : Value} {o : Option V} {A : Around} {E : Value → Shared → Prop}
theorem Inv.big (I : Inv X pins σ H s) : sysModules < s.heap.objs.size := by
  have h : mainGlobals < s.heap.objs.size := (I.mod.glob.keeps I.bk).lt
  exact Nat.lt_trans (by decide) h
theorem d_getItem {Q : Value → Shared → Prop} (hu : A.units + 1 < cLine) (I : Inv X pins σ H s) (g : DGet H a y (some v)) (ry : RelV y u) (h : ∀ w' s', Inv X pins σ H s' → RelV v w' → Q w' s') :
    wpAny (model X.prog X.w) A (getItem (.ref a) u) Q E s := by
  rcases g with ⟨kvs, k, e, ey, l⟩ | ⟨kvs, k, b, e, ey, eb, l⟩
  · subst ey
    obtain ⟨z, hd, vs, rel, dd⟩ := dk_rd I.hok e
    obtain ⟨w', hw, rw'⟩ := RelO.some_of (v := v) (o := valueAt vs k) (by rw [l]; exact rel.val k)
    exact wpAny_getItem_of (kV_is ry) dd.mapOf hw (h w' _ (I.tok _) rw')
  · subst ey
    cases (show u = Value.ref b from ry)
    obtain ⟨z, hd, xs, rel, dd⟩ := dt_rd I.hok e
    obtain ⟨w', hw, rw'⟩ := RelO.some_of (v := v) (o := (atKey xs k).map (·.2)) (by rw [l]; exact rel.val k)
    obtain ⟨p, hp, hp2⟩ := Option.map_eq_some_iff.mp hw
    refine wpAny_getItem_heap (tupleKind_room_in1 hu) (key_of I.hok eb) dd hp ?_
    rw [hp2]
    exact h w' _ (I.tok _) rw'
theorem d_in {Q : Value → Shared → Prop} (hu : A.units + 1 < cLine) (I : Inv X pins σ H s) (g : DGet H a y o) (ry : RelV y u) (h : ∀ s', Inv X pins σ H s' → Q (.bool o.isSome) s') :
    wpAny (model X.prog X.w) A (compareOp .In u (.ref a)) Q E s := by
  rcases g with ⟨kvs, k, e, ey, l⟩ | ⟨kvs, k, b, e, ey, eb, l⟩
  · subst ey
    obtain ⟨z, hd, vs, rel, dd⟩ := dk_rd I.hok e
    refine wpAny_in_of (kV_is ry) hd dd.mapOf ?_
    rw [← (rel.val k).isSome_eq, ← l]
    exact h _ (I.tok _)
  · subst ey
    cases (show u = Value.ref b from ry)
    obtain ⟨z, hd, xs, rel, dd⟩ := dt_rd I.hok e
    refine wpAny_in_heap (tupleKind_room_in1 hu) (key_of I.hok eb) hd dd ?_
    have q := (rel.val k).isSome_eq
    rw [Option.isSome_map] at q
    rw [← q, ← l]
    exact h _ (I.tok _)
theorem d_notIn {Q : Value → Shared → Prop} (hu : A.units + 1 < cLine) (I : Inv X pins σ H s) (g : DGet H a y o) (ry : RelV y u) (h : ∀ s', Inv X pins σ H s' → Q (.bool (!o.isSome)) s') :
    wpAny (model X.prog X.w) A (compareOp .NotIn u (.ref a)) Q E s := by
  rcases g with ⟨kvs, k, e, ey, l⟩ | ⟨kvs, k, b, e, ey, eb, l⟩
  · subst ey
    obtain ⟨z, hd, vs, rel, dd⟩ := dk_rd I.hok e
    refine wpAny_notIn_of (kV_is ry) hd dd.mapOf ?_
    rw [← (rel.val k).isSome_eq, ← l]
    exact h _ (I.tok _)
  · subst ey
    cases (show u = Value.ref b from ry)
    obtain ⟨z, hd, xs, rel, dd⟩ := dt_rd I.hok e
    refine wpAny_notIn_heap (tupleKind_room_in1 hu) (key_of I.hok eb) hd dd ?_
    have q := (rel.val k).isSome_eq
    rw [Option.isSome_map] at q
    rw [← q, ← l]
    exact h _ (I.tok _)
theorem d_write {h' : Heap} {t' : Nat} {ob : HO} (I : Inv X pins σ H s) (mu : Mut (H a)) (hs : Heap.SameBut a s.heap h') (he : ∃ q, h'.get? a = some q) (new : ObjOk X.prog X.w (upd H a ob) h' a ob) :
    Inv X pins σ (upd H a ob) { s with heap := h', toks := t' } :=
  I.write (x := a) (e := a) mu (.inl rfl) (fun b q hb z => (hs.2 b hb).trans z) he new
theorem dk_new {P : Program} {w : World} {H' : Hp} {h' : Heap} {kvs : List (Key × V)} {vs : List (Key × Value)} (z : kvs.length ≤ sizeLine) (hd : (a == sysModules) = false) (rel : KV kvs vs) (dd : h'.DictOf (mixKind P w) a vs) :
    ObjOk P w H' h' a (.dK kvs) := ⟨z, hd, vs, rel, dd⟩
theorem d_setItem {H' : Hp} {Q : Unit → Shared → Prop} (hu : A.units + 1 < cLine) (I : Inv X pins σ H s) (g : DPut H a y v H') (ry : RelV y u) (rv : RelV v r) (h : ∀ s', Inv X pins σ H' s' → Q () s') :
    wpAny (model X.prog X.w) A (setItem (.ref a) u r) Q E s := by
  rcases g with ⟨kvs, k, e, ey, l, eH⟩ | ⟨kvs, k, b, e, ey, eb, l, eH⟩
  · subst ey eH
    obtain ⟨z, hd, vs, rel, dd⟩ := dk_of I.hok e
    have hz : vs.length ≤ sizeLine := by rw [← rel.length]; exact z
    have hl : (putK kvs k v).length ≤ sizeLine := by have := length_putK kvs k v; omega
    refine wpAny_setItem_pairs (hsz := hz) (kV_is ry) dd fun h' dd' hs => h _ ?_
    have he : ∃ q, h'.get? a = some q := let ⟨q, _, _, hq, _⟩ := dd'; ⟨q, hq⟩
    exact d_write I (by rw [e]; exact True.intro) hs he (dk_new hl hd (rel.put k rv) dd')
  · subst ey eH
    cases (show u = Value.ref b from ry)
    obtain ⟨z, hd, xs, rel, dd⟩ := dt_of I.hok e
    have hz : xs.length ≤ sizeLine := by rw [← Paired.length rel]; exact z
    have hl : (putK kvs k v).length ≤ sizeLine := by have := length_putK kvs k v; omega
    refine wpAny_setItem_heap (hsz := hz) (tupleKind_room_in1 hu) (key_of I.hok eb) dd fun h' dd' hs => h _ ?_
    obtain ⟨q, es, ep, hq, h2, h3, h4, _, h5⟩ := dd'
    refine d_write I (by rw [e]; exact True.intro) hs ⟨q, hq⟩ ⟨hl, hd, _, (rel.put k eb rv).keeps fun c ys ec => ?_, q, es, ep, hq, h2, h3, h4, h5⟩
    rw [upd_ne (ne_of ec e (fun z => nomatch z))]
    exact ec
end
section
variable {X : Cx} {pins : List (Addr × Obj)} {σ : St} {H : Hp} {s : Shared} {a : Addr} {kvs : List (Key × V)} {k : Key} {u : Value} {A : Around} {E : Value → Shared → Prop}
theorem d_pop {v : V} {more : List Value} {Q : Value → Shared → Prop} (I : Inv X pins σ H s) (e : H a = some (.dK kvs)) (ry : RelV (kV k) u) (l : valV kvs k = some v) (hm : more = [] ∨ ∃ x, more = [x])
    (h : ∀ w' s', Inv X pins σ (upd H a (.dK (dropK kvs k))) s' → RelV v w' → Q w' s') : wpAny (model X.prog X.w) A (call (.builtin "dict.pop") (.ref a :: u :: more)) Q E s := by
  obtain ⟨z, hd, vs, rel, dd⟩ := dk_of I.hok e
  obtain ⟨w', hw, rw'⟩ := RelO.some_of (v := v) (o := valueAt vs k) (by rw [← l]; exact rel.val k)
  have hp : (keyPart u).isSome = true := by
    cases k with
    | inl i => obtain ⟨t, q⟩ := (show ∃ t, u = Value.int i t from ry); subst q; rfl
    | inr x => obtain ⟨t, q⟩ := (show ∃ t, u = Value.str x t from ry); subst q; rfl
  have ha : argsOk "dict.pop" ⟨.ref a :: u :: more, []⟩ := by
    rcases hm with q | ⟨x, q⟩
    · subst q; exact PySem.F.args_dict_pop_2 _ _
    · subst q; exact PySem.F.args_dict_pop_3 _ _ _
  refine call_meetsIn PySem.F.slot_dict_pop dd.typeIs PySem.F.entry_dict_pop ha (meets_dict_pop_there (mixKind X.prog X.w) a (kV_is ry) more hm hp)
    ⟨vs, w', dd, by rw [← rel.length]; exact z, hw, fun h' dd' hs => h w' _ ?_ rw'⟩
  have he : ∃ q, h'.get? a = some q := let ⟨q, _, _, hq, _⟩ := dd'; ⟨q, hq⟩
  exact d_write I (by rw [e]; exact True.intro) hs he (dk_new (Nat.le_trans (dropK_le kvs k) z) hd (rel.drop k) dd')
end
def NoSl (i : Expr) : Prop := ∀ ov iv, subscripted i false ov iv = operate [ov, iv] (getItem ov iv)
theorem subD_of {prog : Program} {w : World} {A : Around} {E : Value → Shared → Prop} {s : Shared} {env : Env} {value slice : Expr} {pos : Pos} {T id : String} {Q : Value → Shared → Prop}
    (hl : typeLookup (.type T) "__getitem__" = pure (some (.builtin id))) (hs : NoSl slice)
    (h : wpAny (model prog w) A (eval value env) (fun o s₁ => wpAny (model prog w) A (eval slice env) (fun i s₂ => s₂.TypeIs o T ∧ wpAny (model prog w) A (getItem o i) Q E s₂) E s₁) E s) :
    wpAny (model prog w) A (eval (.Subscript value slice pos) env) Q E s := by
  refine Subscript_ (wpAny_mono h (fun o s₁ h₁ => wpAny_mono h₁ (fun i s₂ h₂ => ?_) fun _ _ x => x) fun _ _ x => x)
  obtain ⟨hT, h₂⟩ := h₂
  unfold subscriptTail
  refine wpAny_bind ?_
  rw [getitemInPython_of_ne hT.not_modules]
  refine wpAny_bind (wpAny_specialOf hT hl ?_)
  have fin : wpAny (model prog w) A (subscripted slice false o i) (fun r s₃ => wpAny (model prog w) A (letTemporaryGo value o r >>= fun _ => pure r) Q E s₃) E s₂ := by
    rw [hs o i]
    exact wpAny_operating (wpAny_mono h₂ (fun r s₃ h₃ => wpAny_bind (wpAny_letTemporaryGo (wpAny_pure h₃))) fun _ _ x => x)
  first
    | exact wpAny_pure (wpAny_bind fin)
    | exact wpAny_bind (wpAny_pure (wpAny_bind fin))
    | exact wpAny_bind fin
theorem dict_typeIs {X : Cx} {pins : List (Addr × Obj)} {σ : St} {H : Hp} {s : Shared} {a : Addr} {y : V} {o : Option V} (I : Inv X pins σ H s) (g : DGet H a y o) : s.TypeIs (.ref a) "dict" := by
  rcases g with ⟨kvs, k, e, _, _⟩ | ⟨kvs, k, b, e, _, _, _⟩
  · obtain ⟨_, _, vs, _, dd⟩ := dk_rd I.hok e
    exact dd.typeIs
  · obtain ⟨_, _, xs, _, dd⟩ := dt_rd I.hok e
    exact dd.typeIs
def tDGet (td ty : TE) : TE := fun σ H Q => td σ H fun x H1 => ty σ H1 fun y H2 => ∃ a v, x = .ref a ∧ DGet H2 a y (some v) ∧ Q v H2
def tDIn (ty td : TE) : TE := fun σ H Q => ty σ H fun y H1 => td σ H1 fun x H2 => ∃ a o, x = .ref a ∧ DGet H2 a y o ∧ Q (.bl o.isSome) H2
def tDNotIn (ty td : TE) : TE := fun σ H Q => ty σ H fun y H1 => td σ H1 fun x H2 => ∃ a o, x = .ref a ∧ DGet H2 a y o ∧ Q (.bl (!o.isSome)) H2
def sDPut (td ty tv : TE) : TS := fun D σ H => tv σ H fun v H1 => td σ H1 fun x H2 => ty σ H2 fun y H3 => ∃ a H4, x = .ref a ∧ DPut H3 a y v H4 ∧ D.nx σ H4
section
variable {X : Cx} {o i e value : Expr} {pos pos' tpos : Pos} {td ty tv : TE}
theorem pe_dget (hu : X.A.units + 1 < cLine) (ho : PE X o td) (hi : PE X i ty) (hs : NoSl i) : PE X (.Subscript o i pos) (tDGet td ty) := by
  intro pins s σ H Q I h
  refine subD_of PySem.F.slot_dict_getitem.lookup hs (thn (ho pins s σ H _ I h) fun u s1 ⟨x, H1, I1, rx, q1⟩ => thn (hi pins s1 σ H1 _ I1 q1) fun iv s2 ⟨y, H2, I2, ry, a, v, ex, g, q2⟩ => ?_)
  subst ex
  obtain rfl : u = Value.ref a := rx
  exact ⟨dict_typeIs I2 g, d_getItem hu I2 g ry fun w' s3 I3 rw' => ⟨v, H2, I3, rw', q2⟩⟩
theorem pc_din (hu : X.A.units + 1 < cLine) (hi : PE X i ty) (ho : PE X o td) : PC X .In i o (tDIn ty td) := by
  intro pins s σ H Q I h
  refine thn (hi pins s σ H _ I h) fun iv s1 ⟨y, H1, I1, ry, q1⟩ => thn (ho pins s1 σ H1 _ I1 q1) fun u s2 ⟨x, H2, I2, rx, a, ov, ex, g, q2⟩ => ?_
  subst ex
  obtain rfl : u = Value.ref a := rx
  exact d_in hu I2 g ry fun s3 I3 => ⟨.bl ov.isSome, H2, I3, rfl, q2⟩
theorem pc_dnotin (hu : X.A.units + 1 < cLine) (hi : PE X i ty) (ho : PE X o td) : PC X .NotIn i o (tDNotIn ty td) := by
  intro pins s σ H Q I h
  refine thn (hi pins s σ H _ I h) fun iv s1 ⟨y, H1, I1, ry, q1⟩ => thn (ho pins s1 σ H1 _ I1 q1) fun u s2 ⟨x, H2, I2, rx, a, ov, ex, g, q2⟩ => ?_
  subst ex
  obtain rfl : u = Value.ref a := rx
  exact d_notIn hu I2 g ry fun s3 I3 => ⟨.bl (!ov.isSome), H2, I3, rfl, q2⟩
theorem ps_dput (hu : X.A.units + 1 < cLine) (ho : PE X o td) (hi : PE X i ty) (hv : PE X value tv) (hs : swapsWith value (some (.Subscript o i pos')) pos.line X.env = pure false) :
    PS X (.Assign [.Subscript o i pos'] value pos) (sDPut td ty tv) := by
  intro pins s σ H D I h
  refine wpAny_Assign_Subscript (thn (hv pins s σ H _ I h) fun r s1 ⟨v, H1, I1, rv, q1⟩ => thn (ho pins s1 σ H1 _ I1 q1) fun u s2 ⟨x, H2, I2, rx, q2⟩ => thn (hi pins s2 σ H2 _ I2 q2) fun iv s3 ⟨y, H3, I3, ry, a, H4, ex, g, q3⟩ => ?_) hs
  subst ex
  obtain rfl : u = Value.ref a := rx
  exact d_setItem hu I3 g ry rv fun s4 I4 => ⟨σ, H4, I4, q3⟩
end
theorem dk_empty {P : Program} {w : World} {H : Hp} (h : Heap) (hb : sysModules < h.objs.size) : ObjOk P w H (h.push { cls := .type "dict", data := .dict #[] }) h.objs.size (.dK []) :=
  ⟨Nat.zero_le _, beq_eq_false_iff_ne.mpr (Ne.symm (Nat.ne_of_lt hb)), [], .nil, Heap.DictOf.new h⟩
def tDNewK : TE := fun _ H Q => ∀ p, H p = none → Q (.ref p) (upd H p (.dK []))
def tDNewT : TE := fun _ H Q => ∀ p, H p = none → Q (.ref p) (upd H p (.dT []))
section
variable {X : Cx} {pos : Pos}
theorem pe_dnewK : PE X (.Dict [] [] pos) tDNewK := fun pins s σ H Q I h =>
  wpAny_Dict_empty ⟨.ref s.heap.objs.size, _, I.laid (a := s.heap.objs.size) (o := .dK []) (t' := s.toks) (fun _ _ q => Heap.get?_push_of_some _ q) (Nat.le_refl _) (dk_empty s.heap I.big), rfl, h _ (I.hok.fresh (Nat.le_refl _))⟩
end
structure M1 (X : Cx) (o : Expr) (m : Str) (apos : Pos) (e : Expr) (cpos : Pos) : Prop where
  base : attributeBase o m X.env (eval o X.env) = eval o X.env
  few : ((backTo cpos (starEach [e] X.env)).all (fun x => !x.1) && (backToKw cpos (keywordEach [] X.env)).all (fun x => x.1.isSome)
    && decide (([e] : List Expr).length + ([] : List Keyword).length + (if ([] : List Keyword).isEmpty then 0 else 1) < 30)) = true
  line : (apos.endLine == cpos.line) = true
  trees : backTo cpos (starEach [e] X.env) = [(false, eval e X.env)]
structure M2 (X : Cx) (o : Expr) (m : Str) (apos : Pos) (e f : Expr) (cpos : Pos) : Prop where
  base : attributeBase o m X.env (eval o X.env) = eval o X.env
  few : ((backTo cpos (starEach [e, f] X.env)).all (fun x => !x.1) && (backToKw cpos (keywordEach [] X.env)).all (fun x => x.1.isSome)
    && decide (([e, f] : List Expr).length + ([] : List Keyword).length + (if ([] : List Keyword).isEmpty then 0 else 1) < 30)) = true
  line : (apos.endLine == cpos.line) = true
  trees : backTo cpos (starEach [e, f] X.env) = [(false, eval e X.env), (false, eval f X.env)]
def IsD (H : Hp) (a : Addr) : Prop := (∃ kvs, Rd H a (.dK kvs)) ∨ ∃ kvs, Rd H a (.dT kvs)
theorem isD_at {X : Cx} {pins : List (Addr × Obj)} {σ : St} {H : Hp} {s : Shared} {a : Addr} (I : Inv X pins σ H s) (d : IsD H a) :
    s.TypeIs (.ref a) "dict" ∧ (∀ b, Value.ref a = .ref b → ∃ ob, s.heap.get? b = some ob ∧ ob.dict = none) ∧ (a == sysModules) = false := by
  rcases d with ⟨kvs, e⟩ | ⟨kvs, e⟩
  · obtain ⟨_, hd, vs, _, dd⟩ := dk_rd I.hok e
    refine ⟨dd.typeIs, fun b q => ?_, hd⟩
    cases q
    obtain ⟨ob, _, _, h1, h2, _⟩ := dd
    exact ⟨ob, h1, h2.2.1⟩
  · obtain ⟨_, hd, xs, _, dd⟩ := dt_rd I.hok e
    refine ⟨dd.typeIs, fun b q => ?_, hd⟩
    cases q
    obtain ⟨ob, _, _, h1, h2, _⟩ := dd
    exact ⟨ob, h1, h2.2.1⟩
section
variable {X : Cx} {pins : List (Addr × Obj)} {σ : St} {H : Hp} {s : Shared} {a : Addr} {y d : V} {u r : Value} {o : Option V} {A : Around} {E : Value → Shared → Prop}
theorem d_get2 {Q : Value → Shared → Prop} (hu : A.units + 1 < cLine) (I : Inv X pins σ H s) (g : DGet H a y o) (ry : RelV y u) (rd : RelV d r) (h : ∀ w' s', Inv X pins σ H s' → RelV (o.getD d) w' → Q w' s') :
    wpAny (model X.prog X.w) A (call (.builtin "dict.get") [.ref a, u, r]) Q E s := by
  rcases g with ⟨kvs, k, e, ey, l⟩ | ⟨kvs, k, b, e, ey, eb, l⟩
  · subst ey
    obtain ⟨z, hd, vs, rel, dd⟩ := dk_rd I.hok e
    refine call_meetsIn PySem.F.slot_dict_get dd.typeIs PySem.F.entry_dict_get (PySem.F.args_dict_get_3 _ _ _) (meets_dict_get_default (mixKind X.prog X.w) a (kV_is ry) hd r) ⟨_, dd.mapOf, h _ _ (I.tok _) ?_⟩
    rw [l]
    exact (rel.val k).getD rd
  · subst ey
    cases (show u = Value.ref b from ry)
    obtain ⟨z, hd, xs, rel, dd⟩ := dt_rd I.hok e
    refine call_meetsIn PySem.F.slot_dict_get dd.typeIs PySem.F.entry_dict_get (PySem.F.args_dict_get_3 _ _ _) (meetsH_dict_get_default (tupleKind (mixKind X.prog X.w)) a b hd r) ⟨tupleKind_room_in1 hu, k, xs, key_of I.hok eb, dd, h _ _ (I.tok _) ?_⟩
    rw [l]
    exact (rel.val k).getD rd
end
def tDGet2 (td ty tx : TE) : TE := fun σ H Q => td σ H fun x H1 => ∃ a, x = .ref a ∧ IsD H1 a ∧ ty σ H1 fun y H2 => tx σ H2 fun z H3 => ∃ o, DGet H3 a y o ∧ Q (o.getD z) H3
def tDPop1 (td ty : TE) : TE := fun σ H Q => td σ H fun x H1 => ∃ a, x = .ref a ∧ IsD H1 a ∧ ty σ H1 fun y H2 => ∃ kvs k v, H2 a = some (.dK kvs) ∧ y = kV k ∧ valV kvs k = some v ∧ Q v (upd H2 a (.dK (dropK kvs k)))
section
variable {X : Cx} {o e f : Expr} {apos cpos : Pos} {td ty tx : TE}
theorem pe_dget2 (hu : X.A.units + 1 < cLine) (ho : PE X o td) (he : PE X e ty) (hf : PE X f tx) (m : M2 X o "get" apos e f cpos) : PE X (.Call (.Attribute o "get" apos) [e, f] [] cpos) (tDGet2 td ty tx) := by
  intro pins s σ H Q I h
  refine wpAny_Call_method m.base m.few m.line PySem.F.plainAttrs_dict PySem.F.slot_dict_get PySem.F.type_dict_get (thn (ho pins s σ H _ I h) fun u s1 ⟨x, H1, I1, rx, a, ex, d, q1⟩ => ?_)
  subst ex
  obtain rfl : u = Value.ref a := rx
  obtain ⟨t1, t2, _⟩ := isD_at I1 d
  refine ⟨t1, t2, ?_⟩
  rw [m.trees]
  refine Calls.callWith_builtin rfl (Calls.evalArgs_plain (Calls.spliced_cons (thn (he pins s1 σ H1 _ I1 q1) fun iv s2 ⟨y, H2, I2, ry, q2⟩ =>
    Calls.spliced_cons (thn (hf pins s2 σ H2 _ I2 q2) fun fv s3 ⟨z, H3, I3, rz, ov, g, q3⟩ => Calls.spliced_nil ?_))))
  exact d_get2 hu I3 g ry rz fun w' s4 I4 rw' => ⟨_, H3, I4, rw', q3⟩
theorem pe_dpop1 (ho : PE X o td) (he : PE X e ty) (m : M1 X o "pop" apos e cpos) : PE X (.Call (.Attribute o "pop" apos) [e] [] cpos) (tDPop1 td ty) := by
  intro pins s σ H Q I h
  refine wpAny_Call_method m.base m.few m.line PySem.F.plainAttrs_dict PySem.F.slot_dict_pop PySem.F.type_dict_pop (thn (ho pins s σ H _ I h) fun u s1 ⟨x, H1, I1, rx, a, ex, d, q1⟩ => ?_)
  subst ex
  obtain rfl : u = Value.ref a := rx
  obtain ⟨t1, t2, _⟩ := isD_at I1 d
  refine ⟨t1, t2, ?_⟩
  rw [m.trees]
  refine Calls.callWith_builtin rfl (Calls.evalArgs_plain (Calls.spliced_cons (thn (he pins s1 σ H1 _ I1 q1) fun iv s2 ⟨y, H2, I2, ry, kvs, k, v, ea, ey, l, q2⟩ => Calls.spliced_nil ?_)))
  subst ey
  exact d_pop I2 ea ry l (.inl rfl) fun w' s3 I3 rw' => ⟨v, _, I3, rw', q2⟩
end
section
variable {X : Cx} {pins : List (Addr × Obj)} {σ : St} {H : Hp} {s : Shared} {a : Addr} {kvs : List (Key × V)} {A : Around} {E : Value → Shared → Prop}
end
section
variable {X : Cx} {pins : List (Addr × Obj)} {σ : St} {H : Hp} {s : Shared} {a : Addr} {y : V} {u : Value} {A : Around} {E : Value → Shared → Prop}
end
end L2
namespace HT
open PySem PyProof.Rows
section
open PySem.SeqAt
open PySem.AutoSeq1 (wpAny_loadPart')
open PySem.MeetsSeq PySem.MeetsSeq2 PySem.MeetsSeq3
end
section
variable {prog : Program} {w : World} {A : Around} {E : Value → Shared → Prop} {s : Shared}
def sIx (n d : Nat) : Option Int → Nat
  | none => d
  | some v => if v < 0 then (v + (n : Int)).toNat else min v.toNat n
theorem sIx_none (n d : Nat) : sIx n d none = d := rfl
theorem sIx_nat (n d k : Nat) : sIx n d (some (k : Int)) = min k n := by
  show (if (k : Int) < 0 then ((k : Int) + (n : Int)).toNat else min (k : Int).toNat n) = min k n
  rw [if_neg (by omega), Int.toNat_natCast]
end
end HT
namespace L2
open PySem PySem.Spec PyProof.Rows
abbrev TO := St → Hp → (Option Int → Hp → Prop) → Prop
def PO (X : Cx) (e : Option Expr) (t : TO) : Prop :=
  ∀ (pins : List (Addr × Obj)) (s : Shared) (σ : St) (H : Hp) (Q : Option Int → Hp → Prop), Inv X pins σ H s → t σ H Q →
    wpAny (model X.prog X.w) X.A (evalPart e X.env) (fun u s' => ∃ o H', Inv X pins σ H' s' ∧ IsPart u o ∧ Q o H') X.xe s
def tNoPart : TO := fun _ H Q => Q none H
def tPart (t : TE) : TO := fun σ H Q => t σ H fun x H1 => ∃ i, x = .int i ∧ Q (some i) H1
theorem intsAre_of {ns : List Int} : ∀ {us : List Value}, Vals (ns.map V.int) us → IntsAre us ns := by
  induction ns with
  | nil => intro us r; rw [List.map_nil] at r; cases r; exact .nil
  | cons n ns ih =>
    intro us r
    rw [List.map_cons] at r
    cases r with
    | cons r1 r2 =>
      obtain ⟨t, e⟩ := r1
      subst e
      exact .cons n t (ih r2)
section
variable {X : Cx} {e : Expr} {te : TE} {lo hi : Option Expr} {tl th : TO} {pos p2 : Pos}
theorem po_none : PO X none tNoPart := by
  intro pins s σ H Q I h
  rw [evalPart_none]
  exact wpAny_pure ⟨none, H, I, .none, h⟩
theorem po_some (h : PE X e te) : PO X (some e) (tPart te) := by
  intro pins s σ H Q I hw
  rw [evalPart_some]
  refine thn (h pins s σ H _ I hw) fun u s1 ⟨x, H1, I1, r1, q1⟩ => ?_
  obtain ⟨i, rfl, q⟩ := q1
  obtain ⟨t, rfl⟩ := r1
  exact ⟨some i, H1, I1, .int i t, q⟩
def SlR (X : Cx) (r : V → Option Int → Option Int → Hp → VK → Prop) : Prop :=
  ∀ (pins : List (Addr × Obj)) (s : Shared) (σ : St) (H : Hp) (x : V) (v vl vu : Value) (lo hi : Option Int) (sl : Addr) (Q : VK), Inv X pins σ H s → RelV x v → s.heap.IsSliceOf sl vl vu .none → IsPart vl lo → IsPart vu hi → r x lo hi H Q →
    ∃ T id, typeLookup (.type T) "__getitem__" = pure (some (.builtin id)) ∧ s.TypeIs v T ∧ wpAny (model X.prog X.w) X.A (getItem v (.ref sl)) (EP X pins σ Q) X.xe s
def tSl (r : V → Option Int → Option Int → Hp → VK → Prop) (te : TE) (tl th : TO) : TE := fun σ H Q => te σ H fun x H1 => tl σ H1 fun l H2 => th σ H2 fun u H3 => r x l u H3 Q
theorem pe_slice {r : V → Option Int → Option Int → Hp → VK → Prop} (hr : SlR X r) (he : PE X e te) (hl : PO X lo tl) (hu : PO X hi th) : PE X (.Subscript e (.Slice lo hi none p2) pos) (tSl r te tl th) := by
  intro pins s σ H Q I h
  refine Subscript_ (thn (he pins s σ H _ I h) fun v s1 ⟨x, H1, I1, r1, q1⟩ => ?_)
  refine wpAny_Slice (thn (hl pins s1 σ H1 _ I1 q1) fun vl s2 ⟨l, H2, I2, pl, q2⟩ => thn (hu pins s2 σ H2 _ I2 q2) fun vu s3 ⟨u, H3, I3, pu, q3⟩ => ?_)
  rw [evalPart_none]
  refine wpAny_pure ?_
  have I4 : Inv X pins σ H3 { s3 with heap := s3.heap.push { cls := .type "slice", data := .fields #[vl, vu, .none] } } := I3.kept (t' := s3.toks) fun b ob q => Heap.get?_push_of_some _ q
  obtain ⟨T, id, hT, ht, hg⟩ := hr pins { s3 with heap := s3.heap.push { cls := .type "slice", data := .fields #[vl, vu, .none] } } σ H3 x v vl vu l u s3.heap.objs.size Q I4 r1 (Heap.IsSliceOf.new ..) pl pu q3
  show wpAny (model X.prog X.w) X.A (subscriptTail e (.Slice lo hi none p2) v (.ref s3.heap.objs.size)) (EP X pins σ Q) X.xe { s3 with heap := s3.heap.push { cls := .type "slice", data := .fields #[vl, vu, .none] } }
  exact tail_any (ops := [.ref s3.heap.objs.size, v]) ht hT hg (by with_unfolding_all rfl)
def cutV (xs : List V) (lo hi : Option Int) : List V := (xs.drop (HT.sIx xs.length 0 lo)).take (HT.sIx xs.length xs.length hi - HT.sIx xs.length 0 lo)
theorem cutV_length (xs : List V) (lo hi : Option Int) : (cutV xs lo hi).length ≤ xs.length := by
  unfold cutV
  rw [List.length_take, List.length_drop]
  omega
def rSlT (K : PySem.W.Frag) : V → Option Int → Option Int → Hp → VK → Prop := fun x lo hi H Q => ∃ a xs, x = .ref a ∧ SqT K H a xs ∧
  ¬ (HT.sIx xs.length 0 lo = 0 ∧ HT.sIx xs.length xs.length hi = xs.length) ∧ ∀ p, H p = none → Q (.ref p) (upd H p (.tup (cutV xs lo hi)))
end
end L2
namespace L2
open PySem PySem.Spec PyProof.Rows
def ixN (n : Nat) (i : Int) : Option Nat := if 0 ≤ i then (if i < n then some i.toNat else none) else if -(n : Int) ≤ i then some (i + n).toNat else none
def atI {α : Type} (xs : List α) (i : Int) : Option α := (ixN xs.length i).bind fun j => xs[j]?
theorem ixN_seq {n : Nat} {i : Int} {j : Nat} (h : ixN n i = some j) : seqIndex? i n = some j ∧ j < n ∧ -(n : Int) ≤ i ∧ i < n := by
  unfold ixN at h
  by_cases h0 : 0 ≤ i
  · rw [if_pos h0] at h
    by_cases h1 : i < n
    · rw [if_pos h1] at h
      have e : i.toNat = j := Option.some.inj h
      exact ⟨by rw [seqIndex_of h0 h1, e], by omega, by omega, h1⟩
    · rw [if_neg h1] at h; cases h
  · rw [if_neg h0] at h
    by_cases h1 : -(n : Int) ≤ i
    · rw [if_pos h1] at h
      have e : (i + n).toNat = j := Option.some.inj h
      exact ⟨by rw [seqIndex_neg (by omega) h1, e], by omega, h1, by omega⟩
    · rw [if_neg h1] at h; cases h
theorem atI_get {α : Type} {xs : List α} {i : Int} {v : α} (h : atI xs i = some v) : ∃ j, seqIndex? i xs.length = some j ∧ xs[j]? = some v ∧ j < xs.length ∧ -(xs.length : Int) ≤ i ∧ i < xs.length := by
  unfold atI at h
  cases e : ixN xs.length i with
  | none => rw [e] at h; cases h
  | some j =>
    rw [e] at h
    obtain ⟨h1, h2, h3, h4⟩ := ixN_seq e
    exact ⟨j, h1, h, h2, h3, h4⟩
theorem atI_nat {α : Type} {xs : List α} {j : Nat} {v : α} (h : xs[j]? = some v) : atI xs (j : Int) = some v := by
  have hj : j < xs.length := (List.getElem?_eq_some_iff.mp h).1
  have e : ixN xs.length (j : Int) = some j := by
    unfold ixN
    rw [if_pos (by omega), if_pos (by omega)]; simp
  unfold atI; rw [e]; exact h
def PlainIx (b : Expr) : Prop := ∀ o i, subscripted b false o i = operate [o, i] (getItem o i)
def IxR (X : Cx) (r : R2) : Prop :=
  ∀ (value slice : Expr) (pins : List (Addr × Obj)) (s : Shared) (σ : St) (H : Hp) (x y : V) (v u : Value) (Q : VK), Inv X pins σ H s → RelV x v → RelV y u → r x y H Q →
    subscripted slice false v u = operate [v, u] (getItem v u) → wpAny (model X.prog X.w) X.A (subscriptTail value slice v u) (EP X pins σ Q) X.xe s
def MtR (X : Cx) (id : String) (r : V → List V → Hp → VK → Prop) : Prop :=
  ∀ (pins : List (Addr × Obj)) (s : Shared) (σ : St) (H : Hp) (x : V) (xs : List V) (v : Value) (us : List Value) (Q : VK), Inv X pins σ H s → RelV x v → Vals xs us → r x xs H Q →
    wpAny (model X.prog X.w) X.A (call (.builtin id) (v :: us)) (EP X pins σ Q) X.xe s
section
variable {X : Cx} {a b : Expr} {ta tb : TE} {pos : Pos}
theorem pe_ix {r : R2} (hr : IxR X r) (ha : PE X a ta) (hb : PE X b tb) (hs : PlainIx b) : PE X (.Subscript a b pos) (tOp r ta tb) := by
  intro pins s σ H Q I h
  exact Subscript_ (binT ha hb I h fun v u s2 x y H2 I2 rx ry q => hr a b pins s2 σ H2 x y v u Q I2 rx ry q (hs _ _))
def rIxL (K : PySem.W.Frag) : R2 := fun x y H Q => ∃ p xs i v, x = .ref p ∧ y = .int i ∧ SqL K H p xs ∧ atI xs i = some v ∧ Q v H
def rIxT (K : PySem.W.Frag) : R2 := fun x y H Q => ∃ p xs i v, x = .ref p ∧ y = .int i ∧ SqT K H p xs ∧ atI xs i = some v ∧ Q v H
def rIxS : R2 := fun x y H Q => ∃ z i c, x = .str z ∧ y = .int i ∧ z.length ≤ sizeLine ∧ atI z.cps.toList i = some c ∧ Q (.str ⟨#[c]⟩) H
theorem ix_list : IxR X (rIxL X.K) := by
  intro value slice pins s σ H x y v u Q I rx ry h hs
  obtain ⟨p, xs, i, z, rfl, rfl, hq, he, q⟩ := h
  cases rx
  obtain ⟨t, rfl⟩ := ry
  obtain ⟨its, r, pl, hz⟩ := I.list hq
  obtain ⟨j, h1, h2, h3, h4, h5⟩ := atI_get he
  obtain ⟨w, ew, rw'⟩ := r.get h2
  have hl := r.length
  have hn := line63
  have fin : EP X pins σ Q w s := ⟨z, H, I, rw', q⟩
  by_cases h0 : 0 ≤ i
  · have hj : i.toNat = j := by
      rw [seqIndex_of h0 h5] at h1
      exact Option.some.inj h1
    exact item_listR pl.isList h0 (by omega) (by rw [hj]; simpa using ew) fin hs
  · have hj : (i + (its.toArray.size : Int)).toNat = j := by
      rw [seqIndex_neg (by omega) h4] at h1
      rw [List.size_toArray, ← hl]
      exact Option.some.inj h1
    exact subscriptTail_builtinR (x := w) pl.isList.typeIs slot_list_getitem.lookup
      (wpAny_getItem_list_neg (Q := fun r s' => r = w ∧ EP X pins σ Q r s') pl.isList (by omega) (by rw [List.size_toArray] <;> omega) (by omega) (by rw [hj]; simpa using ew) ⟨rfl, fin⟩) hs
theorem ix_str : IxR X rIxS := by
  intro value slice pins s σ H x y v u Q I rx ry h hs
  obtain ⟨z, i, c, rfl, rfl, hz, he, q⟩ := h
  obtain ⟨t, rfl⟩ := rx
  obtain ⟨t', rfl⟩ := ry
  obtain ⟨j, h1, h2, h3, h4, h5⟩ := atI_get he
  have hl : z.cps.toList.length = z.length := by simp [Str.length]
  rw [hl] at h1 h4 h5
  have hn := line63
  exact tail_any (typeIs_str s z t) slot_str_getitem.lookup (getItem_str (c := c) (by
    have e1 : decide (i < -(2 ^ 63 : Int)) = false := decide_eq_false (by omega)
    have e2 : decide (i ≥ 2 ^ 63) = false := decide_eq_false (by omega)
    rw [e1, e2, Bool.or_false]) (by rw [h1]; simpa using h2) ⟨.str ⟨#[c]⟩, H, I.tok _, ⟨_, rfl⟩, q⟩) hs
theorem mapSeq_set (its : List Value) (n j : Nat) (u : Value) : Obj.mapSeq (·.setIfInBounds j u) { cls := .type "list", data := .seq its.toArray n } = { cls := .type "list", data := .seq (its.set j u).toArray n } := by
  simp [Obj.mapSeq]
theorem Inv.lst {pins : List (Addr × Obj)} {σ : St} {H : Hp} {s : Shared} {p : Addr} {xs : List V} (I : Inv X pins σ H s) (h : H p = some (.lst xs)) :
    ∃ (its : List Value) (n : Nat), Vals xs its ∧ s.heap.get? p = some { cls := .type "list", data := .seq its.toArray n } ∧ xs.length ≤ sizeLine := by
  obtain ⟨z, its, n, r, e⟩ := I.hok p _ h
  exact ⟨its, n, r, e, z⟩
theorem Inv.lstUpd {pins : List (Addr × Obj)} {σ : St} {H : Hp} {s : Shared} {p : Addr} {xs ys : List V} {its its' : List Value} {n n' : Nat} {f : Obj → Obj} (I : Inv X pins σ H s) (h : H p = some (.lst xs))
    (ho : s.heap.get? p = some { cls := .type "list", data := .seq its.toArray n }) (hf : f { cls := .type "list", data := .seq its.toArray n } = { cls := .type "list", data := .seq its'.toArray n' }) (r : Vals ys its') (hz : ys.length ≤ sizeLine) (t : Nat) :
    Inv X pins σ (upd H p (.lst ys)) { s with heap := s.heap.update p f, toks := t } := by
  have e : (s.heap.update p f).get? p = some { cls := .type "list", data := .seq its'.toArray n' } := by
    rw [Heap.get?_update_self f ho (by rw [hf] <;> rfl), hf]
  refine I.write (x := p) (e := p) (by rw [h]; trivial) (.inl rfl) (fun b u hb q => (Heap.get?_update_other _ _ (Ne.symm hb)).trans q) ⟨_, e⟩ ?_
  exact ⟨hz, its', n', r, e⟩
def rSetL : V → V → V → Hp → (Hp → Prop) → Prop := fun o i v H Q => ∃ p xs k j, o = .ref p ∧ i = .int k ∧ H p = some (.lst xs) ∧ ixN xs.length k = some j ∧ Q (upd H p (.lst (xs.set j v)))
theorem set_list : PSet X rSetL := by
  intro pins s σ H o i v ov iv u Q I ro ri rv h
  obtain ⟨p, xs, k, j, rfl, rfl, hp, hj, q⟩ := h
  cases ro
  obtain ⟨t, rfl⟩ := ri
  obtain ⟨its, n, r, ho, hz⟩ := I.lst hp
  obtain ⟨h1, h2, h3, h4⟩ := ixN_seq hj
  have hl := r.length
  have hn := line63
  have I' : Inv X pins σ (upd H p (.lst (xs.set j v))) { s with heap := s.heap.update p (Obj.mapSeq (·.setIfInBounds j u)) } :=
    I.lstUpd hp ho (mapSeq_set its n j u) (r.set rv j) (by rw [List.length_set]; exact hz) s.toks
  by_cases h0 : 0 ≤ k
  · have hk : k.toNat = j := by
      rw [seqIndex_of h0 h4] at h1
      exact Option.some.inj h1
    exact PySem.W.ki_setAt ho h0 (by omega) (by rw [List.size_toArray, ← hl]; exact h4) (by rw [hk]; exact ⟨_, I', q⟩)
  · have hk : (k + (its.toArray.size : Int)).toNat = j := by
      rw [seqIndex_neg (by omega) h3] at h1
      rw [List.size_toArray, ← hl]
      exact Option.some.inj h1
    exact PySem.W.ki_setBack ho (by omega) (by rw [List.size_toArray, ← hl]; exact h3) (by omega) (by rw [hk]; exact ⟨_, I', q⟩)
theorem slice_bounds (lo hi : Option Int) (n : Nat) : (sliceBounds lo hi none n).1 = ((HT.sIx n 0 lo : Nat) : Int) ∧ (sliceBounds lo hi none n).2.1 = ((HT.sIx n n hi : Nat) : Int) ∧ (sliceBounds lo hi none n).2.2 = 1 := by
  refine ⟨?_, ?_, rfl⟩
  · cases lo with
    | none => simp [sliceBounds, HT.sIx]
    | some i =>
      simp only [sliceBounds, HT.sIx, Option.getD_none, show (1 : Int) > 0 by decide, if_true]
      by_cases h : i < 0
      · simp only [h, if_true] <;> omega
      · simp only [h, if_false] <;> omega
  · cases hi with
    | none => simp [sliceBounds, HT.sIx]
    | some i =>
      simp only [sliceBounds, HT.sIx, Option.getD_none, show (1 : Int) > 0 by decide, if_true]
      by_cases h : i < 0
      · simp only [h, if_true] <;> omega
      · simp only [h, if_false] <;> omega
theorem slicePick_cut (its : List Value) (lo hi : Option Int) : slicePick its.toArray lo hi none = ((its.drop (HT.sIx its.length 0 lo)).take (HT.sIx its.length its.length hi - HT.sIx its.length 0 lo)).toArray := by
  obtain ⟨h1, h2, h3⟩ := slice_bounds lo hi its.toArray.size
  unfold slicePick
  rw [h1, h2, h3]
  simp only [sliceRange_one, pick_run, List.size_toArray] <;> rfl
def rSlL (K : PySem.W.Frag) : V → Option Int → Option Int → Hp → VK → Prop := fun x lo hi H Q => ∃ a xs, x = .ref a ∧ SqL K H a xs ∧ ∀ p, H p = none → Q (.ref p) (upd H p (.lst (cutV xs lo hi)))
theorem sl_list : SlR X (rSlL X.K) := by
  intro pins s σ H x v vl vu lo hi sl Q I rx hs pl pu h
  obtain ⟨a, xs, rfl, hx, q⟩ := h
  cases rx
  obtain ⟨its, r, ht, hz⟩ := I.list hx
  have hlen := r.length
  refine ⟨"list", _, slot_list_getitem.lookup, ht.isList.typeIs, ?_⟩
  refine wpAny_getItem_list_slice ht.isList hs pl pu .none (by simp) ?_ (by rw [List.size_toArray] <;> omega)
  rw [slicePick_cut, ← hlen]
  refine ⟨.ref s.heap.objs.size, _, I.laid (t' := s.toks) (o := .lst (cutV xs lo hi)) (fun b ob q => Heap.get?_push_of_some _ q) (Nat.le_refl _) ?_, rfl, q _ (I.hok.fresh (Nat.le_refl _))⟩
  exact ⟨Nat.le_trans (cutV_length xs lo hi) hz, _, 0, (r.drop (HT.sIx xs.length 0 lo)).take (HT.sIx xs.length xs.length hi - HT.sIx xs.length 0 lo), Heap.get?_push_size _ rfl⟩
def flatV : V → Bool
  | .non => true
  | .bl _ => true
  | .int _ => true
  | .str _ => true
  | _ => false
def eqV : V → V → Bool
  | .non, .non => true
  | .bl a, .bl b => a == b
  | .bl a, .int b => (if a then 1 else 0) == b
  | .int a, .bl b => a == (if b then 1 else 0)
  | .int a, .int b => a == b
  | .str a, .str b => a == b
  | _, _ => false
def inV (x : V) (xs : List V) : Bool := xs.any fun y => eqV y x
def rIn (K : PySem.W.Frag) (neg : Bool) : R2 := fun x y H Q => ∃ p xs, y = .ref p ∧ (SqL K H p xs ∨ SqT K H p xs) ∧ flatV x = true ∧ xs.all flatV = true ∧ Q (.bl (if neg then !inV x xs else inV x xs)) H
theorem call_len_seq : CallR X (.builtin "len") (fun xs H Q => ∃ p ys, xs = [.ref p] ∧ (SqL X.K H p ys ∨ SqT X.K H p ys) ∧ Q (.int ys.length) H) := by
  intro pins s σ H xs us Q I r h
  obtain ⟨p, ys, rfl, hq, q⟩ := h
  obtain ⟨u, rfl, rx⟩ := vals1 r
  cases rx
  have hn := line63
  rcases hq with hq | hq
  · obtain ⟨its, r', pl, hz⟩ := I.list hq
    have hlen := r'.length
    exact Calls.call_len_list pl.isList (by simp only [List.size_toArray] <;> omega) ⟨.int ys.length, H, I.tok _, ⟨s.toks + 1, by rw [List.size_toArray, hlen]⟩, q⟩
  · obtain ⟨its, r', pl, hz⟩ := I.tuple hq
    have hlen := r'.length
    exact len_tuple pl (by simp only [List.size_toArray] <;> omega) ⟨.int ys.length, H, I.tok _, ⟨s.toks + 1, by rw [List.size_toArray, hlen]⟩, q⟩
theorem call_len_str : CallR X (.builtin "len") (fun xs H Q => ∃ z, xs = [.str z] ∧ z.length ≤ sizeLine ∧ Q (.int z.length) H) := by
  intro pins s σ H xs us Q I r h
  obtain ⟨z, rfl, hz, q⟩ := h
  obtain ⟨u, rfl, t, rfl⟩ := vals1 r
  have hn := line63
  exact len_str (by omega) ⟨.int z.length, H, I.tok _, ⟨_, rfl⟩, q⟩
def tyV (K : PySem.W.Frag) (T : String) (x : V) (H : Hp) : Prop := match x with
  | .str _ => T = "str"
  | .int _ => T = "int"
  | .ref p => (T = "list" ∧ ∃ xs, SqL K H p xs) ∨ (T = "tuple" ∧ ∃ o, K.lookup p = some o ∧ o.cls = .type "tuple" ∧ o.dict = none) ∨
      (T = "dict" ∧ ((∃ kvs, H p = some (.dK kvs)) ∨ ∃ kvs, H p = some (.dT kvs))) ∨ (T = "set" ∧ ∃ S n, H p = some (.set S n))
  | _ => False
theorem tyV_is {pins : List (Addr × Obj)} {σ : St} {H : Hp} {s : Shared} {T : String} {x : V} {v : Value} (I : Inv X pins σ H s) (r : RelV x v) (ty : tyV X.K T x H) :
    s.TypeIs v T ∧ ∀ a, v = .ref a → ∃ ob, s.heap.get? a = some ob ∧ ob.dict = none := by
  cases x with
  | str z =>
    obtain ⟨t, rfl⟩ := r
    cases (show T = "str" from ty)
    exact ⟨typeIs_str s z t, fun _ e => nomatch e⟩
  | int i =>
    obtain ⟨t, rfl⟩ := r
    cases (show T = "int" from ty)
    exact ⟨typeIs_int s i t, fun _ e => nomatch e⟩
  | ref p =>
    cases r
    rcases ty with ⟨rfl, xs, hq⟩ | ⟨rfl, o, hk, hc, hd⟩ | ⟨rfl, hk⟩ | ⟨rfl, S, n, hk⟩
    · obtain ⟨its, _, pl, _⟩ := I.list hq
      refine ⟨pl.isList.typeIs, fun a e => ?_⟩
      cases e
      obtain ⟨o, n, e, c, hd, _⟩ := pl
      exact ⟨o, e, hd⟩
    · refine ⟨⟨o, I.kIn p o hk, hc⟩, fun a e => ?_⟩
      cases e
      exact ⟨o, I.kIn _ o hk, hd⟩
    · have z : ∃ o, s.heap.get? p = some o ∧ o.ExactDict := by
        rcases hk with ⟨kvs, hk⟩ | ⟨kvs, hk⟩
        · obtain ⟨_, _, _, _, o, _, _, e, ex, _⟩ := I.hok p _ hk
          exact ⟨o, e, ex⟩
        · obtain ⟨_, _, _, _, o, _, _, e, ex, _⟩ := I.hok p _ hk
          exact ⟨o, e, ex⟩
      obtain ⟨o, e, ex⟩ := z
      refine ⟨⟨o, e, ex.1⟩, fun a e2 => ?_⟩
      cases e2
      exact ⟨o, e, ex.2.1⟩
    · obtain ⟨o, _, _, _, e, ex, _⟩ := I.hok p _ hk
      refine ⟨⟨o, e, ex.1⟩, fun a e2 => ?_⟩
      cases e2
      exact ⟨o, e, ex.2.1⟩
  | _ => exact False.elim ty
def tBM0 (K : PySem.W.Frag) (T : String) (r : V → List V → Hp → VK → Prop) (to : TE) : TE := fun σ H Q => to σ H fun x H1 => tyV K T x H1 ∧ r x [] H1 Q
def tBM (K : PySem.W.Frag) (T : String) (r : V → List V → Hp → VK → Prop) (to : TE) (t : TA) : TE := fun σ H Q => to σ H fun x H1 => tyV K T x H1 ∧ t σ H1 fun xs H2 => r x xs H2 Q
variable {o e : Expr} {es : List Expr} {to : TE} {t : TA} {name : Str} {apos cpos : Pos} {T id : String} {r : V → List V → Hp → VK → Prop}
theorem pe_bm (pa : PlainAttrs T) (slot : Slot T name id) (hty : typeOf (.builtin id) = pure (.type "method_descriptor")) (hm : MtR X id r) (ho : PE X o to) (ha : PA X (e :: es) t)
    (hbase : attributeBase o name X.env (eval o X.env) = eval o X.env := by rfl)
    (hfew : ((backTo cpos (starEach (e :: es) X.env)).all (fun x => !x.1) && (backToKw cpos (keywordEach [] X.env)).all (fun x => x.1.isSome)
      && decide ((e :: es).length + ([] : List Keyword).length + (if ([] : List Keyword).isEmpty then 0 else 1) < 30)) = true := by rfl)
    (hline : (apos.endLine == cpos.line) = true := by rfl) (hs : starEach (e :: es) X.env = (false, eval e X.env) :: starEach es X.env := by rfl) (hplain : (backTo cpos (starEach es X.env)).any (·.1) = false := by rfl) :
    PE X (.Call (.Attribute o name apos) (e :: es) [] cpos) (tBM X.K T r to t) := by
  intro pins s σ H Q I h
  refine wpAny_Call_method_late hbase hfew hline rfl (thn (ho pins s σ H _ I h) fun v s1 ⟨x, H1, I1, r1, ty, q1⟩ => ?_)
  obtain ⟨h1, h2⟩ := tyV_is I1 r1 ty
  refine ⟨T, id, pa, slot, hty, h1, h2, ?_⟩
  have hA := ha cpos pins s1 σ H1 _ I1 q1
  rw [hs] at hA ⊢
  refine Calls.callWith_builtin (by show (false || (backTo cpos (starEach es X.env)).any (·.1)) = false; rw [hplain] <;> rfl) (Calls.evalArgs_plain ?_)
  exact thn hA fun us s2 ⟨vs, H2, I2, r2, q2⟩ => hm pins s2 σ H2 x vs v us Q I2 r1 r2 q2
/- xs.append(e), list.index on a module's tuple .. are MtR facts of 06m -/
end
end L2
namespace L2
open PySem PySem.Spec PyProof.Rows
def MtM (X : Cx) (id : String) (r : V → List V → Hp → VK → Prop) : Prop :=
  ∀ (pins : List (Addr × Obj)) (s : Shared) (σ : St) (H : Hp) (x : V) (xs : List V) (v : Value) (us : List Value) (Q : VK), Inv X pins σ H s → RelV x v → Vals xs us → r x xs H Q →
    wpAny (model X.prog X.w) X.A (call (.builtin id) (v :: us)) (EP X pins σ Q) X.xe s
theorem Vals.one : ∀ {x : V} {us : List Value}, Vals [x] us → ∃ u, us = [u] ∧ RelV x u
  | _, _, .cons r .nil => ⟨_, rfl, r⟩
theorem Vals.reverse {xs : List V} {us : List Value} (h : Vals xs us) : Vals xs.reverse us.reverse := by
  induction h with
  | nil => exact .nil
  | cons r t ih => rw [List.reverse_cons, List.reverse_cons]; exact Vals.append ih (.cons r .nil)
theorem Vals.rep {xs : List V} {us : List Value} (h : Vals xs us) : ∀ k : Nat, Vals (List.replicate k xs).flatten (List.replicate k us).flatten
  | 0 => .nil
  | k + 1 => by
    rw [List.replicate_succ, List.replicate_succ, List.flatten_cons, List.flatten_cons]
    exact Vals.append h (Vals.rep h k)
theorem foldl_rep (its : List Value) : ∀ (k : Nat) (acc : List Value),
    List.foldl (fun x1 x2 => x1 ++ x2) acc.toArray (List.replicate k its.toArray) = (acc ++ (List.replicate k its).flatten).toArray
  | 0, acc => by simp
  | k + 1, acc => by
    have e : acc.toArray ++ its.toArray = (acc ++ its).toArray := by simp
    have e2 : (acc ++ its) ++ (List.replicate k its).flatten = acc ++ (List.replicate (k + 1) its).flatten := by
      rw [List.replicate_succ, List.flatten_cons, List.append_assoc]
    rw [← e2, ← foldl_rep its k (acc ++ its), ← e, List.replicate_succ, List.foldl_cons]
section
variable {X : Cx} {pins : List (Addr × Obj)} {σ : St} {H : Hp} {s : Shared} {l b : Addr} {xs ys zs : List V}
theorem Inv.lset {its its' : List Value} {n : Nat} {f : Array Value → Array Value} {t' : Nat} (I : Inv X pins σ H s) (hH : H l = some (.lst xs))
    (e : s.heap.get? l = some { cls := .type "list", data := .seq its.toArray n }) (hf : f its.toArray = its'.toArray) (hv : Vals ys its') (hz : ys.length ≤ sizeLine) :
    Inv X pins σ (upd H l (.lst ys)) { s with heap := s.heap.update l (Obj.mapSeq f), toks := t' } := by
  have q := PySem.IsL.update e f
  rw [hf] at q
  refine I.write (x := l) (e := l) (by rw [hH]; exact trivial) (.inl rfl) (fun b' u hb hu => (Heap.get?_update_other s.heap (Obj.mapSeq f) (Ne.symm hb)).trans hu) ⟨_, q⟩ ?_
  exact ⟨hz, its', _, hv, q⟩
theorem Inv.lnew {its : List Value} {t' : Nat} (I : Inv X pins σ H s) (hv : Vals ys its) (hz : ys.length ≤ sizeLine) :
    Inv X pins σ (upd H s.heap.objs.size (.lst ys)) { s with heap := s.heap.push { cls := .type "list", data := .seq its.toArray }, toks := t' } :=
  I.laid (fun _ _ q => Heap.get?_push_of_some _ q) (Nat.le_refl _) ⟨hz, its, 0, hv, Heap.get?_push_size _ rfl⟩
theorem Inv.fresh (I : Inv X pins σ H s) : H s.heap.objs.size = none := I.hok.fresh (Nat.le_refl _)
theorem Inv.lstM (I : Inv X pins σ H s) (hH : H l = some (.lst xs)) : xs.length ≤ sizeLine ∧ ∃ (its : List Value) (n : Nat), Vals xs its ∧ xs.length = its.length ∧ s.heap.get? l = some { cls := .type "list", data := .seq its.toArray n } := by
  obtain ⟨z, its, n, r, e⟩ := I.hok l _ hH
  exact ⟨z, its, n, r, r.length, e⟩
theorem notLongL {n : Nat} (h : n ≤ sizeLine) : Builtin.List.listTooLong n = false := by
  unfold Builtin.List.listTooLong
  exact decide_eq_false (by omega)
end
section
variable {X : Cx}
def rAppend : V → List V → Hp → VK → Prop := fun x vs H Q => ∃ l xs y, x = .ref l ∧ vs = [y] ∧ H l = some (.lst xs) ∧ xs.length < sizeLine ∧ Q .non (upd H l (.lst (xs ++ [y])))
theorem mt_append : MtM X "list.append" rAppend := by
  intro pins s σ H x vs v us Q I rx rv h
  obtain ⟨l, xs, y, rfl, rfl, hH, hz, q⟩ := h
  cases rx
  obtain ⟨u, rfl, ru⟩ := rv.one
  obtain ⟨z, its, n, r, hl, e⟩ := I.lstM hH
  refine call_meets F.slot_list_append ⟨_, e, rfl⟩ F.entry_list_append (F.args_list_append_2 _ _) (PySem.list_append l its.toArray n u (by rw [List.size_toArray]; omega)) ⟨e, ?_⟩
  refine ⟨.non, _, I.lset (its' := its ++ [u]) hH e (by simp) (r.append (.cons ru .nil)) ?_, rfl, q⟩
  rw [List.length_append, List.length_singleton]
  omega
def rExtend : V → List V → Hp → VK → Prop := fun x vs H Q => ∃ l b xs zs, x = .ref l ∧ vs = [.ref b] ∧ H l = some (.lst xs) ∧ H b = some (.lst zs) ∧ xs.length + zs.length ≤ sizeLine ∧ Q .non (upd H l (.lst (xs ++ zs)))
def rClear : V → List V → Hp → VK → Prop := fun x vs H Q => ∃ l xs, x = .ref l ∧ vs = [] ∧ H l = some (.lst xs) ∧ Q .non (upd H l (.lst []))
def rCat : R2 := fun x y H Q => ∃ l b xs zs, x = .ref l ∧ y = .ref b ∧ H l = some (.lst xs) ∧ H b = some (.lst zs) ∧ xs.length + zs.length ≤ sizeLine ∧ ∀ p, H p = none → Q (.ref p) (upd H p (.lst (xs ++ zs)))
theorem op_cat : OpR X (binaryOp .Add) rCat := by
  intro pins s σ H x y v u Q I rx ry h
  obtain ⟨l, b, xs, zs, rfl, rfl, hH, hB, hz, q⟩ := h
  cases rx
  cases ry
  obtain ⟨z, its, n, r, hl, e⟩ := I.lstM hH
  obtain ⟨z2, its2, n2, r2, hl2, e2⟩ := I.lstM hB
  refine PySem.P.add_list e e2 ?_ (by rw [List.size_toArray, List.size_toArray]; omega)
  have ea : its.toArray ++ its2.toArray = (its ++ its2).toArray := by simp
  rw [ea]
  exact ⟨.ref _, _, I.lnew (t' := s.toks) (r.append r2) (by rw [List.length_append]; omega), rfl, q _ I.fresh⟩
def rRep : R2 := fun x y H Q => ∃ l k xs, x = .ref l ∧ y = .int k ∧ H l = some (.lst xs) ∧ -(2 ^ 63) ≤ k ∧ k < 2 ^ 63 ∧ xs.length * k.toNat ≤ sizeLine ∧
  ∀ p, H p = none → Q (.ref p) (upd H p (.lst (List.replicate k.toNat xs).flatten))
theorem len_rep {α : Type} (xs : List α) (k : Nat) : (List.replicate k xs).flatten.length = k * xs.length := by
  induction k with
  | zero => simp
  | succ k ih => rw [List.replicate_succ, List.flatten_cons, List.length_append, ih, Nat.succ_mul, Nat.add_comm]
theorem op_rep : OpR X (binaryOp .Mult) rRep := by
  intro pins s σ H x y v u Q I rx ry h
  obtain ⟨l, k, xs, rfl, rfl, hH, h1, h2, hz, q⟩ := h
  cases rx
  obtain ⟨t, rfl⟩ := ry
  obtain ⟨z, its, n, r, hl, e⟩ := I.lstM hH
  have hlen : its.toArray.size * k.toNat ≤ sizeLine := by rw [List.size_toArray, ← hl]; exact hz
  have hcap : ¬ its.toArray.size * k.toNat > (2 ^ 63 - 1) / 8 := by
    have : (sizeLine : Nat) ≤ (2 ^ 63 - 1) / 8 := by decide
    omega
  have hfit : ¬ (!Builtin.List.listFitsIndex k) = true := by
    rw [fitsIndex_both h1 h2]
    exact Bool.false_ne_true
  have hlong : ¬ Builtin.List.listTooLong (its.toArray.size * k.toNat) = true := by
    rw [notLongL hlen]
    exact Bool.false_ne_true
  have hnew : List.foldl (fun x1 x2 => x1 ++ x2) #[] (List.replicate (if its.toArray.isEmpty = true then 0 else k.toNat) its.toArray) = (List.replicate k.toNat its).flatten.toArray := by
    have f0 : ∀ m : Nat, List.foldl (fun x1 x2 => x1 ++ x2) #[] (List.replicate m its.toArray) = (List.replicate m its).flatten.toArray := fun m => by
      have := foldl_rep its m []
      rw [List.nil_append] at this
      exact this
    rw [f0]
    cases its with
    | nil => simp
    | cons a r' => rw [if_neg (by simp)]
  refine wpAny_binaryOp_repeat_ref (T := "list") (U := "int") (by decide) ⟨_, e, rfl⟩ (fun s' => typeIs_int s' k t) noFill_list_mul F.fills_int_mul F.slot_int_rmul repeat_list F.slot_int_index.lookup
    (call_meets F.slot_int_rmul (typeIs_int s k t) F.entry_int_rmul (F.args_int_rmul_2 _ _) (int___rmul___int_list k t l its.toArray n)
      ⟨e, rfl, ⟨_, e, rfl⟩, call_meets F.slot_list_mul ⟨_, e, rfl⟩ F.entry_list_mul (F.args_list_mul_2 _ _) (AutoListH.list___mul___list_int_3 l its.toArray n k t hfit hcap hlong) ⟨e, ?_⟩⟩)
  rw [hnew]
  exact ⟨.ref _, _, I.lnew (t' := s.toks) (r.rep k.toNat) (by rw [len_rep, Nat.mul_comm]; exact hz), rfl, q _ I.fresh⟩
end
section
variable {prog : Program} {w : World} {A : Around} {E : Value → Shared → Prop} {s : Shared}
set_option maxRecDepth 100000 in
end
section
variable {X : Cx}
end
end L2
namespace Att
open PySem PySem.W PySem.Calls PyProof.Rows
theorem ints_of_wellAll {P : Params} {h : Heap} : ∀ (ns : List Int) (vs : List Value), WellAll P h vs (ns.map WData.int) → IntsAre vs ns := by
  intro ns
  induction ns with
  | nil =>
    intro vs w
    rw [List.map_nil] at w
    cases w
    exact .nil
  | cons n ns ih =>
    intro vs w
    rw [List.map_cons] at w
    cases w with
    | cons a b =>
      cases a
      exact .cons _ _ (ih _ b)
theorem script_of {l : OpenLaw} {n : Nat} (hn : l.most = some n) {P : Params} {h : Heap} {args : List WData} {vals : List Value}
    (hpre : l.row.toRowW.claim.pre args = true) (hwl : WellAll P h vals args) :
    ∃ a vs ns, vals = [Value.ref a] ∧ args = [WData.list (ns.map WData.int)] ∧ h.get? a = some { cls := .type "list", data := .seq vs.toArray } ∧ IntsAre vs ns ∧ ns.length ≤ n := by
  have hsh : WShape.hasAll [] args [.list .int] = true := (pre_splitW hpre).1
  have hc : l.pre.holds [] { args := args } = true := (pre_splitW hpre).2
  obtain ⟨d, r, rfl, h1, h2⟩ := hasAllW_cons hsh
  obtain rfl := hasAllW_nil h2
  obtain ⟨xs, rfl, h3⟩ := hasW_list h1
  obtain ⟨ns, rfl⟩ := items_int h3
  have hlen : ns.length ≤ n := by
    unfold OpenLaw.pre at hc
    have h4 : (WTm.not (.lt (.lit (.int (n : Int))) (.len (.arg 0)))).holds [] { args := [.list (ns.map .int)] } = true := by
      have h4 := (holds_andW hc).1
      rw [hn] at h4
      exact h4
    have h5 := condW_of h4 (w_not (w_lt w_lit (w_len_list (w_arg rfl))))
    rw [List.length_map] at h5
    refine Nat.le_of_not_lt fun q => ?_
    have q' : (n : Int) < ((ns.length : Nat) : Int) := by omega
    first
      | (rw [decide_eq_true q'] at h5; exact absurd h5 (by decide))
      | (simp at h5; omega)
  cases hwl with
  | cons w1 w2 =>
    cases w2
    cases w1 with
    | list ho hall => exact ⟨_, _, ns, rfl, rfl, ho, ints_of_wellAll ns _ hall, hlen⟩
theorem post_true (l : OpenLaw) (args : List WData) : l.row.toRowW.claim.post args (.bool true) args = true :=
  postW_of (r := l.row.toRowW) (X := (true == true))
    (show WShape.has [] (.bool true) .bool = true by first | rfl | decide | simp [WShape.has, WShape.arms, WShape.armsAll])
    (show (WTm.eq .res (.lit (.bool true))).value [] { args := args, res := some (.bool true), after := args } = some (.bool (true == true)) from w_eq_bool (w_res rfl) w_lit) rfl
theorem attach_call {l : OpenLaw} {n : Nat} {q : Program} {loose : List Str} {XP : (Str → Option Value) → Heap → Prop} {YP : World → Heap → Prop} {d : DefRec}
    (hn : l.most = some n) (hdf : d.params.defaults = [])
    (call : ∀ (w : World) (s₀ s₁ : Shared) (mg mb : Str → Option Value) (fa : Addr) (o : Obj) (pm cd doc : Value) (a : Addr) (vs : List Value) (ns : List Int),
      Ground q loose [] XP w s₀ mg mb s₁.heap → YP w s₁.heap →
      s₁.heap.get? fa = some o → o.data = .func (docDef d.name d.params d.body d.scope pm cd doc) → s₁.heap.CodeRec cd d.name → mg d.name = some (.ref fa) →
      s₁.heap.get? a = some { cls := .type "list", data := .seq vs.toArray } → IntsAre vs ns → ns.length ≤ n → s₁.gens = #[] →
      codeAny (model l.prog w) callerA (.call (.ref fa) ⟨[.ref a], []⟩) (fun r s' => r = .ok (.ret (.bool true)) ∧ OldK s₁.heap s'.heap ∧ s'.os = s₁.os ∧ AllBare s'.gens) s₁) :
    WalkO q loose XP YP l.row.toRowW d [] (fun f vs => PySem.call f vs) := by
  intro w s₀ s₁ mg mb G Y fa o pm cd doc dV kV ho hd hcd hD hmg hg args vals as hpre hlay hrd hwl hlo
  obtain rfl : dV = .none := Dflts.none hD hdf
  obtain rfl : kV = .none := Dflts.noKw hD
  obtain ⟨a, vs, ns, rfl, rfl, hobj, hints, hlen⟩ := script_of hn hpre hwl
  refine enter_call (codeAny_mono (call w s₀ s₁ mg mb fa o pm cd doc a vs ns G Y ho (fd_plain hd) hcd hmg hobj hints hlen hg) fun r s' hq => ?_)
  obtain ⟨rfl, h2, h3, h4⟩ := hq
  exact ⟨.inl ⟨.bool true, .bool true, [], rfl, fun _ => rfl, .bool true, post_true l _, fun _ => ⟨List.Pairwise.nil, fun _ hm => (nomatch hm)⟩⟩, h2, h3, h4⟩
section
variable {prog : Program} {w : World} {A : Around} {E : Value → Shared → Prop} {s : Shared} {K : Frag}
end
end Att
namespace L2
open PySem PySem.Spec PyProof.Rows
theorem vals_ints : ∀ {vs : List Value} {ns : List Int}, IntsAre vs ns → Vals (ns.map V.int) vs
  | _, _, .nil => .nil
  | _, _, .cons n t h => .cons ⟨t, rfl⟩ (vals_ints h)
def Only (H : Hp) : Prop := ∀ b, H b = none ∨ ∃ o xs, H b = some (.frz o (.lst xs))
theorem law_call {P : Program} {w : World} {K : PySem.W.Frag} {mg mb : Str → Option Value} {CX : CXT} {k : Nat} {fa a : Addr} {fd : FuncData} {x : Str} {sp : Sp} {s₁ : Shared} {vs : List Value} {ns : List Int}
    (KX : K.In s₁.heap) (hns : s₁.heap.Ns mainGlobals mg) (hb : s₁.heap.Ns builtinsNs mb) (hbb : ∀ x : Str, x ≠ "__name__" → mb x = bootBuiltins x) (hlim : s₁.heap.NoLimit) (hg : s₁.gens = #[])
    (ha : s₁.heap.get? a = some { cls := .type "list", data := .seq vs.toArray }) (hi : IntsAre vs ns) (hl : ns.length ≤ sizeLine) (hr : Room k callerA)
    (F : ∀ base : Heap, K.In base → base.Ns mainGlobals mg → FnOk P w K mg base CX k fa fd [x] sp) (hbind : ∀ (s : Shared) (u : Value), BindsTo s fd ⟨[u], []⟩ [(x, u)])
    (hsp : ∀ H : Hp, Only H → SqL K H a (ns.map V.int) → sp [.ref a] H (fun v _ => v = .bl true) fun _ _ _ => False)
    (hCX : ∀ H e s', CX [] H s₁ (fun _ _ _ => False) e s' → False) :
    codeAny (model P w) callerA (.call (.ref fa) ⟨[.ref a], []⟩) (fun r s' => r = .ok (.ret (.bool true)) ∧ OldK s₁.heap s'.heap ∧ s'.os = s₁.os ∧ AllBare s'.gens) s₁ := by
  have rv := vals_ints hi
  have lenV := hi.length
  have core : ∀ H : Hp, Only H → SqL K H a (ns.map V.int) → HOk P w H s₁.heap → (∀ b, H b ≠ none → b = a) → (H a ≠ none → K.lookup a = none) →
      codeAny (model P w) callerA (.call (.ref fa) ⟨[.ref a], []⟩) (fun r s' => r = .ok (.ret (.bool true)) ∧ OldK s₁.heap s'.heap ∧ s'.os = s₁.os ∧ AllBare s'.gens) s₁ := by
    intro H hO hS hok hA hK
    have base_of : ∀ {b : Addr} {o : Obj}, s₁.heap.get? b = some o → H b = none → (hidT s₁.heap H).get? b = some o := fun e n => hidT_get e n
    have noA : ∀ {b : Addr} {o : Obj} {es : Array DictEntry} {ep : Nat}, s₁.heap.get? b = some o → o.data = .dict es ep → H b = none := fun {b o es ep} e d => by
      cases q : H b with
      | none => rfl
      | some u =>
        have e' : b = a := hA b (by rw [q]; simp)
        subst e'
        rw [ha] at e; cases e
        have d' : Data.seq vs.toArray _ = Data.dict es ep := d
        cases d'
    have nsK : ∀ {b : Addr} {m : Str → Option Value}, s₁.heap.Ns b m → (hidT s₁.heap H).Ns b m := fun {b m} ⟨o, es, ep, e, d, r⟩ => ⟨o, es, ep, base_of e (noA e d), d, r⟩
    have hKb : K.In (hidT s₁.heap H) := fun b o e => base_of (KX b o e) (by
      cases q : H b with
      | none => rfl
      | some u =>
        have e' : b = a := hA b (by rw [q]; simp)
        subst e'
        rw [hK (by rw [q]; simp)] at e; cases e)
    have hM : Mod K mg (hidT s₁.heap H) := ⟨hKb, nsK hns, ⟨mb, nsK hb, hbb⟩, let ⟨mc, h1, h2⟩ := hlim; ⟨mc, nsK h1, h2⟩⟩
    have e0 : Env0 P w K mg (hidT s₁.heap H) callerA [] s₁ H := ⟨rfl, hM, fun b o e => of_hidT e, Nat.le_of_eq (hidT_size _ _), trivial, fun b hb => absurd (show b ∈ ([] : List Addr) from hb) (by simp), hok, .of_eq hg⟩
    refine codeAny_mono ((F _ hKb (nsK hns)).run callerA [] s₁ H ⟨[.ref a], []⟩ [.ref a] [.ref a] _ _ hr e0 (hbind s₁ (.ref a)) (.cons rfl .nil) (hsp H hO hS)) fun r s' h => ?_
    cases r with
    | error e => exact (hCX H e s' h).elim
    | ok fl =>
      cases fl with
      | next => exact False.elim h
      | brk => exact False.elim h
      | cont => exact False.elim h
      | ret u =>
        obtain ⟨v, H', os, bare, un, hok', r', q⟩ := h
        have q' : v = .bl true := q
        subst q'
        obtain rfl : u = Value.bool true := r'
        refine ⟨rfl, OldK.of_keep fun b o e => ?_, os, bare⟩
        cases q : H b with
        | none => exact un.keep b o e q (by intro z; exact absurd (show b ∈ ([] : List Addr) from z) (by simp)) (by simp)
        | some u =>
          rcases hO b with z | ⟨ob, xs, z⟩
          · rw [q] at z; cases z
          · have z2 := un.frzs b ob _ z
            obtain ⟨e1, _⟩ := hok b _ z
            obtain ⟨e2, _⟩ := hok' b _ z2
            rw [e] at e1; cases e1
            exact e2
  cases hk : K.lookup a with
  | some o =>
    have e := KX a o hk
    rw [ha] at e
    cases e
    refine core (fun _ => none) (fun _ => .inl rfl) (.inr ⟨_, vs.toArray, _, hk, rfl, rfl, rfl, by rw [List.size_toArray, lenV]; exact hl, by simpa using rv⟩) (fun b u z => by have z' : (none : Option HO) = some u := z; cases z') (fun b z => absurd rfl z) fun z => absurd rfl z
  | none =>
    refine core (fun b => if b = a then some (.frz { cls := .type "list", data := .seq vs.toArray } (.lst (ns.map V.int))) else none) (fun b => ?_) (.inl (.inr ⟨{ cls := .type "list", data := .seq vs.toArray }, if_pos rfl⟩)) (fun b u z => ?_) (fun b z => ?_) fun _ => hk
    · by_cases hb : b = a
      · exact .inr ⟨_, _, if_pos hb⟩
      · exact .inl (if_neg hb)
    · by_cases hb : b = a
      · have z' := (if_pos hb).symm.trans z
        cases z'
        subst hb
        exact ⟨ha, by rw [List.length_map]; exact hl, vs, _, rv, ha⟩
      · have z' := (if_neg hb).symm.trans z
        cases z'
    · by_cases hb : b = a
      · exact hb
      · exact absurd (if_neg hb) z
end L2
namespace L2
open PySem PySem.Spec PyProof.Rows
abbrev KOf {K : PySem.W.Frag} {h : Heap} (_ : K.In h) : PySem.W.Frag := K
theorem walk_of {l : PySem.W.OpenLaw} {n k : Nat} {q : Program} {loose : List Str} {XP : (Str → Option Value) → Heap → Prop} {YP : World → Heap → Prop} {d : DefRec} {K : Params → PySem.W.Frag} {CX : World → CXT} {sp : World → Sp} {x : Str}
    (hn : l.most = some n) (hn2 : n ≤ sizeLine) (hdf : d.params.defaults = []) (hr : Room k callerA)
    (hY : ∀ (w : World) (h : Heap), YP w h → (K w.params).In h)
    (F : ∀ (w : World) (mg : Str → Option Value) (fa : Addr) (h : Heap), (K w.params).In h → h.Ns mainGlobals mg → mg d.name = some (.ref fa) →
      ∃ fd : FuncData, (∀ (s : Shared) (u : Value), BindsTo s fd ⟨[u], []⟩ [(x, u)]) ∧
        ∀ base : Heap, (K w.params).In base → base.Ns mainGlobals mg → FnOk l.prog w (K w.params) mg base (CX w) k fa fd [x] (sp w))
    (hsp : ∀ (w : World) (H : Hp) (a : Addr) (ns : List Int), ns.length ≤ n → Only H → SqL (K w.params) H a (ns.map V.int) → sp w [.ref a] H (fun v _ => v = .bl true) fun _ _ _ => False)
    (hCX : ∀ (w : World) (H : Hp) (s : Shared) (e : Value) (s' : Shared), CX w [] H s (fun _ _ _ => False) e s' → False) :
    PySem.W.WalkO q loose XP YP l.row.toRowW d [] (fun f vs => PySem.call f vs) := by
  refine Att.attach_call hn hdf fun w s₀ s₁ mg mb fa o pm cd doc a vs ns G Y ho hd hcd hmg hobj hints hlen hg => ?_
  have KX := hY w _ Y
  obtain ⟨fd, hb, hF⟩ := F w mg fa _ KX G.T.g hmg
  exact law_call KX G.T.g G.T.b G.T.builtins G.T.nolimit hg hobj hints (Nat.le_trans hlen hn2) hr hF hb (fun H hO hS => hsp w H a ns hlen hO hS) fun H e s' => hCX w H s₁ e s'
end L2
/- THE LAST THEOREM (shape; LID, My.* are yours):
   My.Adr: a structure of the addresses that your layer names (classes, functions); My.Txt K t: a structure (Prop) of the equations over K;
   My.txt_mk : {K} {implicit addresses ..} (e1 : nsIn K mainGlobals "law" = some (some (.ref f))) (e2 : K.lookup f = some ⟨oc, od, .func (fnOf "law" "law" params body scope dV kV doc pm an cdv ct), sl⟩) (e3 : codeIn K cdv "law" = true) .. : ∃ t, My.Txt K t
set_option maxRecDepth 100000 in
set_option maxHeartbeats 0 in
theorem PySem.Challenge.cw_LID_holds : PySem.Challenge.rw_LID.Holds := by
  w_on; o_law; k_head; (case hw => w_witness2)
  k_fill
  refine L2.walk_of (l := PySem.Challenge.rw_LID) (n := 63) (k := 40) (x := "script") (CX := fun w => ..) (sp := fun _ => My.sp_law) rfl (by decide) rfl ⟨rfl, by decide, by decide⟩ (fun w h Y => PySem.W.kIn_of Y) ?F ?S ?C
  case F =>
    intro w mg fa h KX G hmg
    have T : ∃ t, My.Txt (L2.KOf KX) t := by
      dsimp only [L2.KOf]                          -- K must stand as «<heap const> w.params» for k_is
      refine' My.txt_mk ?e1 ?e2 ?e3 ..
      (case e1 => PySem.W.k_is)                    -- in the order: a name -> its address -> its object -> its parts
      (case e2 => PySem.W.k_is)
      ..
    obtain ⟨t, T⟩ := T
    have e0 := hmg.symm.trans (PySem.W.mg_of KX G T.law)
    cases e0                                       -- fa is the law's own address
    exact ⟨_, fun s u => .of_eq rfl, fun base kb nb => My.law_fn T kb nb⟩     -- if «.of_eq rfl» comes too early: refine' ⟨_, ?b, fun base kb nb => My.law_fn T kb nb⟩; exact fun s u => .of_eq rfl
  case S => exact fun w H a ns hl hO hS => ..
  case C => exact ..
(the tactic k_is has no namespace: write k_is) -/
namespace L2
open PySem PySem.Spec PyProof.Rows
def defArgs (s : Stmt) : Arguments := match s with
  | .FunctionDef _ a _ _ _ _ _ _ _ _ => a
  | _ => { posonlyargs := [], args := [], vararg := none, kwonlyargs := [], kw_defaults := [], kwarg := none, defaults := [] }
def defBody (s : Stmt) : List Stmt := match s with
  | .FunctionDef _ _ b _ _ _ _ _ _ _ => b
  | _ => []
def defScope (s : Stmt) : Scope := match s with
  | .FunctionDef _ _ _ _ _ _ sc _ _ _ => sc
  | _ => { kind := .function, names := [], isGenerator := false, isCoroutine := false }
abbrev CX0 : CXT := fun _ _ _ _ _ _ => False
abbrev E0 : XK := fun _ _ _ => False
theorem pass0 {X : Cx} : Passes CX0 X E0 := fun _ _ _ _ _ _ _ h => h.elim
structure Fun (K : PySem.W.Frag) (x qual : Str) (st : Stmt) (f : Addr) (fd : FuncData) : Prop where
  ex : ∃ (oc : Value) (od : Option Addr) (kV doc pm : Value) (an : Option Addr) (cdv ct : Value) (osl : Array (Option Value)),
    fd = PySem.W.fnOf x qual (defArgs st) (defBody st) (defScope st) .none kV doc pm an cdv ct ∧ K.lookup f = some ⟨oc, od, .func fd, osl⟩ ∧ PySem.W.codeIn K cdv qual = true
  kp : PySem.W.keepIn K (.ref f) = true
section
variable {P : Program} {w : World} {K : PySem.W.Frag} {mg : Str → Option Value} {base : Heap}
theorem Fun.ok {x qual : Str} {st : Stmt} {f : Addr} {fd : FuncData} {N ps : List Str} {k : Nat} {sp : Sp} (F : Fun K x qual st f fd) (S : FnScope N ps (defScope st)) (len : ∀ vs H Q E, sp vs H Q E → vs.length = ps.length)
    (hbody : ∀ (cdv : Value) (A : Around) (outer : List Env) (s : Shared) (H : Hp) (vs : List V) (Q : VK) (E : XK), Room k (A.deeper (envOfC qual (defScope st) s.heap.objs.size f cdv)) → sp vs H Q E →
      ∃ t, PSs (cxOf CX0 P w K mg base N qual (defScope st) f cdv A outer s H E).nox (defBody st) t ∧ t { nx := fun _ H' => Q .non H', rt := Q } (start N vs) H) : FnOk P w K mg base CX0 (k + 1) f fd ps sp := by
  obtain ⟨oc, od, kV, doc, pm, an, cdv, ct, osl, rfl, lk, hcd⟩ := F.ex
  refine fn_of lk hcd S len fun A outer s H vs Q E hr hsp => ?_
  obtain ⟨t, h, q⟩ := hbody cdv A outer s H vs Q E hr hsp
  exact ⟨t, h.nox, q⟩
theorem Fun.binds {x qual : Str} {st : Stmt} {f : Addr} {fd : FuncData} {ps : List Str} (F : Fun K x qual st f fd)
    (h : ∀ (kV doc pm : Value) (an : Option Addr) (cdv ct : Value) (us : List Value), us.length = ps.length → bindArgs (PySem.W.fnOf x qual (defArgs st) (defBody st) (defScope st) .none kV doc pm an cdv ct) ⟨us, []⟩ = pure (ps.zip us)) : Binds K fd ps [] := by
  obtain ⟨oc, od, kV, doc, pm, an, cdv, ct, osl, rfl, lk, hcd⟩ := F.ex
  exact .all (h kV doc pm an cdv ct)
theorem fun_mk {x qual : Str} {st : Stmt} {f : Addr} {oc : Value} {od an : Option Addr} {osl : Array (Option Value)} {kV doc pm cdv ct : Value} (l : K.lookup f = some ⟨oc, od, .func (PySem.W.fnOf x qual (defArgs st) (defBody st) (defScope st) .none kV doc pm an cdv ct), osl⟩)
    (c : PySem.W.codeIn K cdv qual = true) (k : PySem.W.keepIn K (.ref f) = true) : Fun K x qual st f (PySem.W.fnOf x qual (defArgs st) (defBody st) (defScope st) .none kV doc pm an cdv ct) := ⟨⟨oc, od, kV, doc, pm, an, cdv, ct, osl, rfl, l, c⟩, k⟩
end
section
variable {X : Cx}
theorem pv (i : Nat) {x : Str} {pos : Pos} (hN : X.N[i]? = some x := by rfl) (hv : Vis X.env.scope x := by first | exact Or.inl rfl | exact Or.inr (Or.inl rfl) | exact Or.inr (Or.inr rfl)) (hd : (x == ("__debug__" : Str)) = false := by decide)
    (hcd : (x == ("__classdict__" : Str)) = false := by decide) : PE X (.Name x pos) (tVar i) := pe_var hN hv hd hcd
end
theorem ite2 {c A B : Prop} [Decidable c] (h1 : c → A) (h2 : ¬ c → B) : if c then A else B := by
  by_cases h : c
  · rw [if_pos h]
    exact h1 h
  · rw [if_neg h]
    exact h2 h
def Same (H H' : Hp) : Prop := ∀ b o, H b = some o → H' b = some o
theorem Same.refl (H : Hp) : Same H H := fun _ _ h => h
theorem Same.trans {H H1 H2 : Hp} (a : Same H H1) (b : Same H1 H2) : Same H H2 := fun c o h => b c o (a c o h)
theorem Same.free {H H' : Hp} (e : Same H H') {l : Addr} (h : H' l = Option.none) : H l = Option.none := by
  cases q : H l with
  | none => rfl
  | some o =>
    rw [e l o q] at h
    cases h
theorem Same.seq {K : PySem.W.Frag} {H H' : Hp} {a : Addr} {xs : List V} (e : Same H H') (h : SqL K H a xs) : SqL K H' a xs := by
  rcases h with (h | ⟨o, h⟩) | h
  · exact .inl (.inl (e _ _ h))
  · exact .inl (.inr ⟨o, e _ _ h⟩)
  · exact .inr h
end L2
namespace L2
open PySem PySem.Spec PyProof.Rows
section
variable {κ : Type} [DecidableEq κ]
theorem dropK_pos {p : κ × V} {r : List (κ × V)} {k : κ} (e : p.1 = k) : dropK (p :: r) k = dropK r k := by
  unfold dropK
  rw [List.filter_cons, if_neg (by simp [e])]
theorem dropK_neg {p : κ × V} {r : List (κ × V)} {k : κ} (e : ¬ p.1 = k) : dropK (p :: r) k = p :: dropK r k := by
  unfold dropK
  rw [List.filter_cons, if_pos (by simp [e])]
end
end L2
set_option autoImplicit false
namespace Dr
theorem pow_pos {p : Int} (h : 2 ≤ p) : ∀ n : Nat, 0 < p ^ n
  | 0 => by simp
  | n + 1 => by
    rw [Int.pow_succ]
    exact Int.mul_pos (pow_pos h n) (by omega)
theorem pow_add' (p : Int) (m : Nat) : ∀ n : Nat, p ^ (m + n) = p ^ m * p ^ n
  | 0 => by simp
  | n + 1 => by rw [← Nat.add_assoc, Int.pow_succ, pow_add' p m n, Int.pow_succ, Int.mul_assoc]
def primes : List Int := [2, 3, 5, 7, 11, 13, 17, 19, 23, 29, 31, 37, 41, 43, 47, 53, 59, 61, 67, 71, 73, 79, 83, 89, 97]
theorem primes_ge {p : Int} (h : p ∈ primes) : 2 ≤ p ∧ p ≤ 97 :=
  of_decide_eq_true (List.all_eq_true.mp (show (primes.all fun q => decide (2 ≤ q ∧ q ≤ 97)) = true by decide +kernel) p h)
end Dr
namespace Dr
end Dr
namespace Dr
theorem dvd_mul_l {m a : Int} (b : Int) (h : a % m = 0) : (b * a) % m = 0 := by rw [Int.mul_emod, h]; simp
end Dr
namespace Dr
end Dr
namespace Dr
def IsP (n : Int) : Prop := 2 ≤ n ∧ ∀ d : Int, 2 ≤ d → d * d ≤ n → n % d ≠ 0
end Dr
namespace Dr
def pev : List Int → Int → Int
  | [], _ => 0
  | a :: f, x => a + x * pev f x
def dm : Int → List Int → List Int
  | _, [] => []
  | k, a :: f => k * a :: dm (k + 1) f
def pslope : List Int → List Int
  | [] => []
  | [_] => [0]
  | _ :: f => dm 1 f
theorem dm_length : ∀ (f : List Int) (k : Int), (dm k f).length = f.length
  | [], _ => rfl
  | _ :: f, k => by simp [dm, dm_length f (k + 1)]
theorem dm_get : ∀ (f : List Int) (k : Int) (i : Nat) (c : Int), f[i]? = some c → (dm k f)[i]? = some ((k + i) * c)
  | a :: f, k, 0, c, h => by
    have : a = c := by simpa using h
    subst this
    simp [dm]
  | a :: f, k, i + 1, c, h => by
    have := dm_get f (k + 1) i c (by simpa using h)
    simp only [dm, List.getElem?_cons_succ, this]
    congr 2
    omega
theorem pev_append (f g : List Int) (x : Int) : pev (f ++ g) x = pev f x + x ^ f.length * pev g x := by
  induction f with
  | nil => simp [pev]
  | cons a f ih =>
    simp only [List.cons_append, pev, ih, List.length_cons]
    grind
theorem pev_zeros (n : Nat) (x : Int) : pev (List.replicate n 0) x = 0 := by
  induction n with
  | zero => rfl
  | succ n ih => simp [List.replicate_succ, pev, ih]
theorem pev_set (x d : Int) : ∀ (f : List Int) (k : Nat) (c : Int), f[k]? = some c → pev (f.set k (c + d)) x = pev f x + d * x ^ k
  | a :: f, 0, c, h => by
    have : a = c := by simpa using h
    subst this
    simp only [List.set_cons_zero, pev, Int.pow_zero]
    omega
  | a :: f, k + 1, c, h => by
    simp only [List.set_cons_succ, pev, pev_set x d f k c (by simpa using h)]
    grind
theorem pev_take_succ {f : List Int} {i : Nat} {c : Int} (h : f[i]? = some c) (x : Int) : pev (f.take (i + 1)) x = pev (f.take i) x + c * x ^ i := by
  have hi := (List.getElem?_eq_some_iff.mp h).1
  rw [List.take_add_one, h, pev_append, List.length_take, Nat.min_eq_left (Nat.le_of_lt hi)]
  simp only [Option.toList, pev]
  grind
theorem drop_rev {f : List Int} {i : Nat} {c : Int} (h : f.reverse[i]? = some c) : f.drop (f.length - (i + 1)) = c :: f.drop (f.length - i) := by
  have hi : i < f.length := by
    have := (List.getElem?_eq_some_iff.mp h).1
    simpa using this
  rw [List.getElem?_reverse hi] at h
  have h2 : f.length - (i + 1) < f.length := by omega
  rw [List.drop_eq_getElem_cons h2]
  have e1 : f.length - (i + 1) + 1 = f.length - i := by omega
  have e2 : f[f.length - (i + 1)] = c := by
    have h3 : f.length - 1 - i = f.length - (i + 1) := by omega
    rw [h3, List.getElem?_eq_getElem h2] at h
    exact Option.some.inj h
  rw [e1, e2]
theorem pev_rev {f : List Int} {i : Nat} {c : Int} (h : f.reverse[i]? = some c) (x : Int) : pev (f.drop (f.length - (i + 1))) x = pev (f.drop (f.length - i)) x * x + c := by
  rw [drop_rev h]
  simp only [pev]
  grind
def Sm (n : Int) (k : Nat) : Prop := n.natAbs < 2 ^ k
theorem Sm.mono {n : Int} {k l : Nat} (h : Sm n k) (hl : k ≤ l) : Sm n l := Nat.lt_of_lt_of_le h (Nat.pow_le_pow_right (by decide) hl)
theorem Sm.zero (k : Nat) : Sm 0 k := Nat.pow_pos (by decide)
theorem Sm.add {a b : Int} {k l : Nat} (ha : Sm a k) (hb : Sm b l) : Sm (a + b) (max k l + 1) := by
  have h1 := ha.mono (Nat.le_max_left k l)
  have h2 := hb.mono (Nat.le_max_right k l)
  unfold Sm at *
  rw [Nat.pow_succ]
  omega
theorem Sm.mul {a b : Int} {k l : Nat} (ha : Sm a k) (hb : Sm b l) : Sm (a * b) (k + l) := by
  unfold Sm at *
  rw [Int.natAbs_mul, Nat.pow_add]
  exact Nat.mul_lt_mul_of_lt_of_lt ha hb
theorem Sm.pow {a : Int} {k : Nat} (ha : Sm a k) : ∀ n : Nat, Sm (a ^ n) (k * n + 1)
  | 0 => by
    show (a ^ 0).natAbs < 2 ^ _
    simp
  | n + 1 => by
    rw [Int.pow_succ]
    have := (Sm.pow ha n).mul ha
    exact this.mono (by rw [Nat.mul_succ]; omega)
def PolyB (f : List Int) (m : Nat) : Prop := ∀ c, c ∈ f → Sm c m
theorem pev_inj_from : ∀ (f g : List Int) (N : Int), f.length = g.length → (∀ x, N ≤ x → pev f x = pev g x) → f = g
  | [], [], _, _, _ => rfl
  | a :: f, b :: g, N, hl, h => by
    have hab : a = b := by
      let D : Int := ((a - b).natAbs : Int) + 1 + (N.natAbs : Int)
      have hD : N ≤ D := by omega
      have e := h D hD
      simp only [pev] at e
      have e2 : a - b = D * (pev g D - pev f D) := by grind
      refine Decidable.byContradiction fun hne => ?_
      have hz : pev g D - pev f D ≠ 0 := fun z => by
        rw [z] at e2
        simp at e2
        omega
      have h3 : (a - b).natAbs = D.natAbs * (pev g D - pev f D).natAbs := by rw [← Int.natAbs_mul, ← e2]
      have h4 : D.natAbs * 1 ≤ D.natAbs * (pev g D - pev f D).natAbs := Nat.mul_le_mul_left _ (by omega)
      omega
    subst hab
    congr 1
    refine pev_inj_from f g (max N 1) (by simpa using hl) fun x hx => ?_
    have e := h x (by omega)
    simp only [pev] at e
    have e2 : x * pev f x = x * pev g x := by omega
    exact Int.eq_of_mul_eq_mul_left (by omega) e2
  | [], _ :: _, _, hl, _ => by simp at hl
  | _ :: _, [], _, hl, _ => by simp at hl
theorem pev_inj {f g : List Int} (hl : f.length = g.length) (h : ∀ x, pev f x = pev g x) : f = g := pev_inj_from f g 0 hl fun x _ => h x
end Dr
namespace Dr
structure IsProd (f g r : List Int) : Prop where
  len : r.length + 1 = f.length + g.length
  ev : ∀ x, pev r x = pev f x * pev g x
theorem IsProd.uniq {f g r r' : List Int} (h : IsProd f g r) (h' : IsProd f g r') : r = r' := pev_inj (by have := h.len; have := h'.len; omega) fun x => by rw [h.ev, h'.ev]
def padd : List Int → List Int → List Int
  | [], g => g
  | f, [] => f
  | a :: f, b :: g => (a + b) :: padd f g
structure IsSeen (f : List Int) (a q : Int) (s : List Int) : Prop where
  len : s.length = f.length
  ev : ∀ y, pev s y = pev f (a + q * y)
theorem IsSeen.uniq {f s s' : List Int} {a q : Int} (h : IsSeen f a q s) (h' : IsSeen f a q s') : s = s' := pev_inj (h.len.trans h'.len.symm) fun x => by rw [h.ev, h'.ev]
end Dr
namespace Dr
end Dr
namespace Dr
structure Rows (M a R S r t s : Int) : Prop where
  sg : s = 1 ∨ s = -1
  r0 : 0 ≤ r
  rR : r < R
  st : 1 ≤ s * t
  sS : s * S ≤ 0
  det : R * t - r * S = s * M
  h1 : (R - a * S) % M = 0
  h2 : (r - a * t) % M = 0
end Dr
namespace Dr
end Dr
namespace Dr
def InB (p x : Int) (b : Int × Nat) : Prop := (x - b.1) % p ^ b.2 = 0
end Dr
namespace Dr
end Dr
namespace Dr
def l1 : List Int → Nat
  | [] => 0
  | a :: f => a.natAbs + l1 f
def sn (r q : Int) : List Int → List Int
  | [] => []
  | a :: f => padd [a] (padd ((sn r q f).map (r * ·)) (0 :: (sn r q f).map (q * ·)))
end Dr
namespace Dr
instance (p x : Int) (b : Int × Nat) : Decidable (InB p x b) := inferInstanceAs (Decidable ((x - b.1) % p ^ b.2 = 0))
def Within (p : Int) (d b : Int × Nat) : Prop := b.2 ≤ d.2 ∧ (d.1 - b.1) % p ^ b.2 = 0
instance (p : Int) (d b : Int × Nat) : Decidable (Within p d b) := inferInstanceAs (Decidable (_ ∧ _))
end Dr
namespace Dr
def Stp (a b : Int × Int) : Prop := a.2 * b.1 < b.2 * a.1
def Par (a b : Int × Int) : Prop := a.2 * b.1 = b.2 * a.1
instance (a b : Int × Int) : Decidable (Stp a b) := inferInstanceAs (Decidable (_ < _))
instance (a b : Int × Int) : Decidable (Par a b) := inferInstanceAs (Decidable (_ = _))
end Dr
namespace Dr
end Dr
namespace Dr
end Dr
namespace Dr
end Dr
namespace Dr
end Dr
namespace Dr
end Dr
namespace Dr
end Dr
namespace Dr
def Un (p : Int) (F : List Int) : Prop := 0 < F.length ∧ ∀ y, pev F y % p ≠ 0
def shw (p r : Int) (w : Int × Int) : Int × Int := ((w.1 - w.2 * r) / p, w.2)
end Dr
namespace Dr
def vl (p : Int) (N : Nat) (β : Int → Int) (a : Int) (e : Nat) (w : Int × Int) : Int := (a + p ^ e * (w.1 * β w.2)) % p ^ N
end Dr
namespace Dr
end Dr
namespace Dr
end Dr
namespace Dr
noncomputable def turn (p : Int) (b : Int) : Int := Classical.epsilon fun y => (b * y - 1) % p ^ 64 = 0
end Dr
namespace Dr
end Dr
namespace Dr
def PF (F : Int → Int) : Prop := ∃ k : List Int, ∀ x, F x = pev k x
theorem PF.of (k : List Int) : PF (pev k) := ⟨k, fun _ => rfl⟩
theorem PF.const (c : Int) : PF fun _ => c := ⟨[c], fun x => by simp [pev]⟩
def Cg (q : Int) (F G : Int → Int) : Prop := ∃ K, PF K ∧ ∀ x, F x - G x = q * K x
theorem Cg.of_eq {q : Int} {F G : Int → Int} (h : ∀ x, F x = G x) : Cg q F G := ⟨fun _ => 0, PF.const 0, fun x => by rw [h, Int.sub_self, Int.mul_zero]⟩
theorem Cg.refl {q : Int} (F : Int → Int) : Cg q F F := Cg.of_eq fun _ => rfl
def Cf (q : Int) (f g : List Int) : Prop := ∀ i, (f.getD i 0 - g.getD i 0) % q = 0
theorem getD_len {f : List Int} {i : Nat} (h : f.length ≤ i) : f.getD i 0 = 0 := by
  rw [List.getD_eq_getElem?_getD, List.getElem?_eq_none h]
  rfl
theorem Cf.take {p : Int} {f : List Int} {m : Nat} (h : ∀ j, m < j → f.getD j 0 % p = 0) : Cf p (f.take (m + 1)) f := fun i => by
  by_cases c : i < m + 1
  · have : (f.take (m + 1)).getD i 0 = f.getD i 0 := by
      rw [List.getD_eq_getElem?_getD, List.getD_eq_getElem?_getD, List.getElem?_take_of_lt c]
    rw [this, Int.sub_self]
    simp
  · rw [getD_len (by rw [List.length_take]; omega)]
    have := dvd_mul_l (-1) (h i (by omega))
    rwa [show -1 * f.getD i 0 = 0 - f.getD i 0 by omega] at this
end Dr
namespace Dr
end Dr
namespace Dr
def Inv (p : Int) (g h t : List Int) : Prop := ∃ s : List Int, Cg p (fun x => pev t x * pev h x + pev s x * pev g x) fun _ => 1
def Row (p : Int) (g h r t : List Int) : Prop := ∃ s : List Int, Cg p (pev r) fun x => pev t x * pev h x + pev s x * pev g x
end Dr
namespace Dr
end Dr
namespace Dr
end Dr
namespace Dr
def ws (rs : List Int) : List (Int × Int) := rs.map fun r => (r, 1)
end Dr
namespace Dr
end Dr
namespace Dr
structure NextOf (s : List Int) (a x : Int) (N : List Int) : Prop where
  len : N.length = s.length
  get : ∀ (i : Nat) (u v : Int), s[i]? = some u → (x :: s)[i]? = some v → N[i]? = some (u * a + v)
theorem pev_next (a y : Int) : ∀ (s N : List Int) (q : Int), NextOf s a q N → pev N y + s.getLastD q * y ^ s.length = (a + y) * pev s y + q
  | [], N, q, h => by
    have e : N = [] := List.length_eq_zero_iff.mp h.len
    subst e
    simp [pev]
  | u :: s, N, q, h => by
    match N, h with
    | [], h => exact absurd h.len (by simp)
    | n :: N, h =>
      have e0 := h.get 0 u q rfl rfl
      have e0 : n = u * a + q := by simpa using e0
      have ih := pev_next a y s N u ⟨by simpa using h.len, fun i u' v e1 e2 => h.get (i + 1) u' v e1 e2⟩
      have el : (u :: s).getLastD q = s.getLastD u := by cases s <;> rfl
      rw [el, List.length_cons, Int.pow_succ]
      simp only [pev]
      rw [e0]
      generalize s.getLastD u = L at ih ⊢
      generalize y ^ s.length = Y at ih ⊢
      generalize pev N y = A at ih ⊢
      generalize pev s y = B at ih ⊢
      grind
theorem NextOf.ev {s N : List Int} {a x : Int} (h : NextOf s a x N) (h0 : s.getLastD x = 0) (y : Int) : pev N y = (a + y) * pev s y + x := by
  have := pev_next a y s N x h
  rw [h0] at this
  omega
theorem NextOf.top {s N : List Int} {a x : Int} {j : Nat} (h : NextOf s a x N) (z : ∀ i u, j ≤ i → s[i]? = some u → u = 0) : ∀ i u, j + 1 ≤ i → N[i]? = some u → u = 0 := fun i u hi e => by
  have hl := (List.getElem?_eq_some_iff.mp e).1
  rw [h.len] at hl
  have e1 : s[i]? = some s[i] := List.getElem?_eq_getElem hl
  obtain ⟨k, rfl⟩ : ∃ k, i = k + 1 := ⟨i - 1, by omega⟩
  have e2 : s[k]? = some s[k] := List.getElem?_eq_getElem (by omega)
  have := h.get (k + 1) _ _ e1 (show s[k]? = _ from e2)
  rw [e] at this
  have := Option.some.inj this
  rw [this, z _ _ (by omega) e1, z _ _ (by omega) e2]
  simp
theorem pev_scale (W y : Int) : ∀ (s L : List Int) (c : Int), L.length = s.length → (∀ (i : Nat) (u : Int), s[i]? = some u → L[i]? = some (u * (c * W ^ i))) → pev L y = c * pev s (W * y)
  | [], L, c, h, _ => by
    have e : L = [] := List.length_eq_zero_iff.mp h
    subst e
    simp [pev]
  | u :: s, [], c, h, _ => absurd h (by simp)
  | u :: s, n :: L, c, h, g => by
    have e0 := g 0 u rfl
    have e0 : n = u * c := by simpa using e0
    have ih := pev_scale W y s L (c * W) (by simpa using h) fun i u' e1 => by
      have := g (i + 1) u' e1
      rw [Int.pow_succ] at this
      rw [show c * W * W ^ i = c * (W ^ i * W) by generalize W ^ i = X; grind]
      exact this
    simp only [pev]
    rw [ih, e0]
    generalize pev s (W * y) = B
    grind
end Dr
namespace L2
open PySem PySem.Spec PyProof.Rows
section
variable {X : Cx}
theorem op_mulW : OpR X (binaryOp .Mult) (rI IntMulOk fun i j => .int (i * j)) := opI fun _ _ _ _ _ _ _ hc q => mul_int q hc
def CDivW (_ j : Int) : Prop := 0 < j ∧ j.natAbs.log2 < 9000
theorem op_fdivW : OpR X (binaryOp .FloorDiv) (rI CDivW fun i j => .int (i / j)) := opI fun i j _ _ _ _ _ hc q => by
  have h1 : (0 : Int) < j := hc.1
  exact floordiv_int (by omega) (by rw [Int.fdiv_eq_ediv_of_nonneg i (by omega)]; exact q) (.inl (PyProof.noPylong_of_log2 hc.2))
end
def Itc (a c : Int) (n : Nat) : It := ⟨fun i _ => i < n, fun i H x H' => H' = H ∧ x = .int (a + i * c), fun i _ => n ≤ i⟩
theorem turn_rangeC {P : Program} {w : World} {K : PySem.W.Frag} {tg : Expr} (it : Addr) (lo c : Int) (n : Nat) : Turn P w K tg (Itc lo c n) [it] it (fun i h => IsRangeIter h it (lo + (i : Nat) * c) ((n : Int) - (i : Nat)) c) where
  mem := by simp
  obj := fun i h st b hb => by
    have e : b = it := by simpa using hb
    subst e
    exact ⟨_, st, fun v z => by
      have z' : Data.fields _ = Data.cell v := z
      cases z'⟩
  keep := fun i h h' st k => k it (by simp) _ st
  item := by
    intro X hP hw hK hc i pins s σ H E I hf st hg
    subst hP hw hK
    obtain ⟨f0, f1, f2, f3, f4, f5⟩ := hf it (by simp)
    have W := Walks.range (prog := X.prog) (w := X.w) (I.ok.hd hc) it lo c n
    refine W.item i s _ _ hg st fun v h' tk hv st' kk => ?_
    obtain ⟨t, rfl⟩ := hv
    have I1 : Inv X pins σ H { s with heap := h', toks := tk } := I.turned (fun b o hb e => kk b o (by simpa using hb) e) f0 f1 f3 f4 f5
    exact ⟨_, rfl, go_of (s := { s with heap := h', toks := tk }) (n := "range_iterator") st' rfl rfl (by decide) ⟨.int (lo + i * c), H, I1, ⟨t, rfl⟩, ⟨rfl, rfl⟩, st', fun b hb => (hf b hb).1⟩⟩
  done := by
    intro X hP hw hK hc i pins s σ H E I hf st hg
    subst hP hw hK
    obtain ⟨f0, f1, f2, f3, f4, f5⟩ := hf it (by simp)
    exact wpAny_pyNext_range_end (I.ok.hd hc) st (by have : n ≤ i := hg; omega) fun h' eb => ⟨rfl, I.turned (t' := s.toks) (fun b o hb e => eb b o hb e) f0 f1 f3 f4 f5⟩
  self := fun _ _ _ _ _ st h => wpAny_pyIter_rangeiter st h
section
variable {X : Cx} {tg : Expr}
def turns (a b c : Int) : Nat := if a < b then ((b - a - 1) / c + 1).toNat else 0
def iRng3 (ta : TA) : TI := fun σ H R => ta σ H fun vs H1 => ∃ i j c : Int, vs = [.int i, .int j, .int c] ∧ (-(2 ^ 60) ≤ i ∧ i < 2 ^ 60 ∧ -(2 ^ 60) ≤ j ∧ j < 2 ^ 60 ∧ 0 < c ∧ c < 1000) ∧ R (Itc i c (turns i j c)) H1
end
theorem for_rangeC {lo c : Int} {n : Nat} {g : TG} {tb : TS} {D : Ends} {σ : St} {H : Hp} (Pv : Nat → St → Hp → Prop) (h0 : Pv 0 σ H)
    (hs : ∀ i σ H, i < n → Pv i σ H → g (.int (lo + i * c)) σ H fun σ2 H2 => tb { D with nx := Pv (i + 1), ct := Pv (i + 1), bk := D.nx } σ2 H2) (hd : ∀ σ H, Pv n σ H → D.nx σ H) :
    ∃ W : Nat → Nat → St → Hp → Prop, (∃ m, W 0 m σ H) ∧ ∀ i m σ H, W i m σ H →
      ((Itc lo c n).stop i H ∧ D.nx σ H) ∨ ((Itc lo c n).go i H ∧ ∃ N : St → Hp → Prop, (∀ σ' H', N σ' H' → ∃ m', m' < m ∧ W (i + 1) m' σ' H') ∧ ∀ x H', (Itc lo c n).yld i H x H' → g x σ H' fun σ2 H2 => tb { D with nx := N, ct := N, bk := D.nx } σ2 H2) := by
  refine ⟨fun i m σ H => m = n - i ∧ i ≤ n ∧ Pv i σ H, ⟨n, by simp, Nat.zero_le _, h0⟩, ?_⟩
  rintro i m σ H ⟨rfl, hi, p⟩
  by_cases hlt : i < n
  · refine .inr ⟨hlt, Pv (i + 1), fun σ' H' p' => ⟨n - (i + 1), by omega, rfl, hlt, p'⟩, fun x H' y => ?_⟩
    obtain ⟨e, y⟩ := y
    subst e y
    exact hs i σ _ hlt p
  · have e : i = n := by omega
    subst e
    exact .inl ⟨Nat.le_refl _, hd σ H p⟩
def clsV : V → Value
  | .ty n => .type n
  | .ref a => .ref a
  | _ => .none
def isCls : V → Bool
  | .ty _ => true
  | .ref _ => true
  | _ => false
section
variable {X : Cx}
theorem call_isinst : CallR X (.builtin "isinstance") (fun xs H Q => ∃ x y t b, xs = [x, y] ∧ isCls y = true ∧ TyOf X.K H x t ∧ PySem.W.kitOne X.K t (clsV y) = some b ∧ Q (.bl b) H) := by
  intro pins s σ H xs us Q I r h
  obtain ⟨x, y, t, b, rfl, hy, ty, e, q⟩ := h
  obtain ⟨u, w', rfl, rx, ry⟩ := vals2 r
  have ec : w' = clsV y := by
    cases y <;> first
      | (simp [isCls] at hy; done)
      | exact ry
  subst ec
  exact isinst_ok I rx ty e fun tk => ⟨.bl b, H, I.tok tk, rfl, q⟩
mutual
inductive DatV (K : PySem.W.Frag) (H : Hp) : V → PyData → Prop
  | non : DatV K H .non .none
  | bl (b : Bool) : DatV K H (.bl b) (.bool b)
  | int (i : Int) : DatV K H (.int i) (.int i)
  | str (x : Str) : DatV K H (.str x) (.str x)
  | lst {a : Addr} {xs : List V} {ds : List PyData} : SqL K H a xs → DatVs K H xs ds → DatV K H (.ref a) (.list ds)
  | tup {a : Addr} {xs : List V} {ds : List PyData} : SqT K H a xs → DatVs K H xs ds → DatV K H (.ref a) (.tuple ds)
inductive DatVs (K : PySem.W.Frag) (H : Hp) : List V → List PyData → Prop
  | nil : DatVs K H [] []
  | cons {x : V} {d : PyData} {xs : List V} {ds : List PyData} : DatV K H x d → DatVs K H xs ds → DatVs K H (x :: xs) (d :: ds)
end
theorem DatVs.ints {K : PySem.W.Frag} {H : Hp} : ∀ ns : List Int, DatVs K H (ns.map V.int) (ns.map PyData.int)
  | [] => .nil
  | n :: r => .cons (.int n) (DatVs.ints r)
variable {pins : List (Addr × Obj)} {σ : St} {H : Hp} {s : Shared}
mutual
theorem reads_of (I : Inv X pins σ H s) : ∀ {x : V} {d : PyData} {u : Value}, DatV X.K H x d → RelV x u → ∃ as, Reads s.heap u d as
  | _, _, _, .non, r => by cases r; exact ⟨_, .none⟩
  | _, _, _, .bl b, r => by cases r; exact ⟨_, .bool b⟩
  | _, _, _, .int i, r => by obtain ⟨t, rfl⟩ := r; exact ⟨_, .int i t⟩
  | _, _, _, .str x, r => by obtain ⟨t, rfl⟩ := r; exact ⟨_, .str x t⟩
  | _, _, _, .lst h q, r => by
    cases r
    obtain ⟨its, rv, pl, _⟩ := I.list h
    obtain ⟨o, ho, hc, n, hd⟩ := pl.isList
    obtain ⟨as, ra⟩ := readsAll_of I q rv
    exact ⟨_, .list ho hc hd (by simpa using ra)⟩
  | _, _, _, .tup h q, r => by
    cases r
    obtain ⟨its, rv, pl, _⟩ := I.tuple h
    obtain ⟨o, ho, hc, n, hd⟩ := pl
    obtain ⟨as, ra⟩ := readsAll_of I q rv
    exact ⟨_, .tuple ho hc hd (by simpa using ra)⟩
theorem readsAll_of (I : Inv X pins σ H s) : ∀ {xs : List V} {ds : List PyData} {us : List Value}, DatVs X.K H xs ds → Vals xs us → ∃ as, ReadsAll s.heap us ds as
  | _, _, _, .nil, r => by cases r; exact ⟨_, .nil⟩
  | _, _, _, .cons h q, r => by
    cases r with
    | cons r rr =>
      obtain ⟨as, ra⟩ := reads_of I h r
      obtain ⟨bs, rb⟩ := readsAll_of I q rr
      exact ⟨_, .cons ra rb⟩
end
def rEqD (K : PySem.W.Frag) (neg : Bool) : R2 := fun x y H Q => ∃ d e, DatV K H x d ∧ DatV K H y e ∧ SeqAt.shaped d = true ∧ SeqAt.shaped e = true ∧ Q (.bl (if neg then !PyData.eqv d e else PyData.eqv d e)) H
theorem op_neD (hu : X.A.units + 64 < cLine) : OpR X (compareOp .NotEq) (rEqD X.K true) := by
  intro pins s σ H x y v u Q I rx ry h
  obtain ⟨d, e, hd, he, sd, se, q⟩ := h
  obtain ⟨as, ra⟩ := reads_of I hd rx
  obtain ⟨bs, rb⟩ := reads_of I he ry
  exact ne_dataH ra rb sd se hu (fin_bl I q rfl)
theorem eqvAll_ints : ∀ ns ms : List Int, PyData.eqvAll (ns.map PyData.int) (ms.map PyData.int) = decide (ns = ms)
  | [], [] => by simp [PyData.eqvAll]
  | [], _ :: _ => by simp [PyData.eqvAll]
  | _ :: _, [] => by simp [PyData.eqvAll]
  | a :: r, b :: t => by
    simp only [List.map_cons, PyData.eqvAll, PyData.eqv, eqvAll_ints r t]
    by_cases h : a = b <;> by_cases h' : r = t <;> simp [h, h']
end
end L2
namespace Att
open PySem PySem.W PySem.Calls PyProof.Rows
theorem bits_of_lay {ns : List Int} (h : WData.layableAll [WData.list (ns.map WData.int)] = true) : ∀ n, n ∈ ns → Builtin.Int.intBits n ≤ 2 ^ 20 := fun n hn => by
  have h1 := layableW_arg h _ (List.mem_singleton.mpr rfl)
  have h2 := layableW_item h1 (.int n) (List.mem_map.mpr ⟨n, hn, rfl⟩)
  have h3 := (layableW_iff.mp h2).2.2
  simpa only [WData.weight, Builtin.Int.intBits] using h3
theorem attach_callB {l : OpenLaw} {n : Nat} {q : Program} {loose : List Str} {XP : (Str → Option Value) → Heap → Prop} {YP : World → Heap → Prop} {d : DefRec}
    (hn : l.most = some n) (hdf : d.params.defaults = [])
    (call : ∀ (w : World) (s₀ s₁ : Shared) (mg mb : Str → Option Value) (fa : Addr) (o : Obj) (pm cd doc : Value) (a : Addr) (vs : List Value) (ns : List Int),
      Ground q loose [] XP w s₀ mg mb s₁.heap → YP w s₁.heap →
      s₁.heap.get? fa = some o → o.data = .func (docDef d.name d.params d.body d.scope pm cd doc) → s₁.heap.CodeRec cd d.name → mg d.name = some (.ref fa) →
      s₁.heap.get? a = some { cls := .type "list", data := .seq vs.toArray } → IntsAre vs ns → ns.length ≤ n → (∀ n, n ∈ ns → Builtin.Int.intBits n ≤ 2 ^ 20) → s₁.gens = #[] →
      codeAny (model l.prog w) callerA (.call (.ref fa) ⟨[.ref a], []⟩) (fun r s' => r = .ok (.ret (.bool true)) ∧ OldK s₁.heap s'.heap ∧ s'.os = s₁.os ∧ AllBare s'.gens) s₁) :
    WalkO q loose XP YP l.row.toRowW d [] (fun f vs => PySem.call f vs) := by
  intro w s₀ s₁ mg mb G Y fa o pm cd doc dV kV ho hd hcd hD hmg hg args vals as hpre hlay hrd hwl hlo
  obtain rfl : dV = .none := Dflts.none hD hdf
  obtain rfl : kV = .none := Dflts.noKw hD
  obtain ⟨a, vs, ns, rfl, rfl, hobj, hints, hlen⟩ := script_of hn hpre hwl
  refine enter_call (codeAny_mono (call w s₀ s₁ mg mb fa o pm cd doc a vs ns G Y ho (fd_plain hd) hcd hmg hobj hints hlen (bits_of_lay hlay) hg) fun r s' hq => ?_)
  obtain ⟨rfl, h2, h3, h4⟩ := hq
  exact ⟨.inl ⟨.bool true, .bool true, [], rfl, fun _ => rfl, .bool true, post_true l _, fun _ => ⟨List.Pairwise.nil, fun _ hm => (nomatch hm)⟩⟩, h2, h3, h4⟩
end Att
namespace L2
open PySem PySem.Spec PyProof.Rows
def spLaw (K : PySem.W.Frag) : Sp := fun vs H Q _ => ∃ (a : Addr) (ns : List Int), vs = [.ref a] ∧ SqL K H a (ns.map V.int) ∧ ns.length ≤ 63 ∧ (∀ n, n ∈ ns → Builtin.Int.intBits n ≤ 2 ^ 20) ∧ ∀ H', Q (.bl true) H'
theorem walk_law {l : PySem.W.OpenLaw} {k : Nat} {q : Program} {loose : List Str} {XP : (Str → Option Value) → Heap → Prop} {YP : World → Heap → Prop} {d : DefRec} {K : Params → PySem.W.Frag} {CX : World → CXT}
    (hn : l.most = some 63) (hdf : d.params.defaults = []) (hr : Room k callerA)
    (hY : ∀ (w : World) (h : Heap), YP w h → (K w.params).In h)
    (hCX : ∀ (w : World) (H : Hp) (s : Shared) (e : Value) (s' : Shared), CX w [] H s (fun _ _ _ => False) e s' → False)
    (F : ∀ (w : World) (mg : Str → Option Value) (fa : Addr) (h : Heap), (K w.params).In h → h.Ns mainGlobals mg → mg d.name = some (.ref fa) →
      ∃ fd : FuncData, (∀ (s : Shared) (u : Value), BindsTo s fd ⟨[u], []⟩ [("script", u)]) ∧
        ∀ base : Heap, (K w.params).In base → base.Ns mainGlobals mg → FnOk l.prog w (K w.params) mg base (CX w) k fa fd ["script"] (spLaw (K w.params))) :
    PySem.W.WalkO q loose XP YP l.row.toRowW d [] (fun f vs => PySem.call f vs) := by
  refine Att.attach_callB hn hdf fun w s₀ s₁ mg mb fa o pm cd doc a vs ns G Y ho hd hcd hmg hobj hints hlen hbits hg => ?_
  have KX := hY w _ Y
  obtain ⟨fd, hb, hF⟩ := F w mg fa _ KX G.T.g hmg
  exact law_call KX G.T.g G.T.b G.T.builtins G.T.nolimit hg hobj hints (Nat.le_trans hlen (by decide)) hr hF hb (fun H hO hS => ⟨a, ns, rfl, hS, hlen, hbits, fun _ => rfl⟩) fun H e s' => hCX w H s₁ e s'
end L2
namespace L2
open PySem PySem.Spec PyProof.Rows
theorem adr {a b : Addr} (h : @Ne Nat a b) : a ≠ b := h
theorem ltN {h : Heap} {b : Addr} {o : Obj} (e : h.get? b = some o) : @LT.lt Nat instLTNat b h.objs.size := Heap.lt_size e
def ClOk (cells : List (Str × Addr)) : List (Str × Addr) → Prop
  | [] => True
  | y :: r => cells.lookup y.1 = some y.2 ∧ ClOk cells r
theorem ClOk.get {cells : List (Str × Addr)} : ∀ {cl : List (Str × Addr)}, ClOk cells cl → ∀ {x : Str} {c : Addr}, cl.lookup x = some c → cells.lookup x = some c
  | (y, d) :: r, ⟨h, hr⟩, x, c, e => by
    by_cases q : x = y
    · subst q
      simp only [List.lookup_cons, beq_self_eq_true] at e
      cases e
      exact h
    · have q' : (x == y) = false := by simpa using q
      simp only [List.lookup_cons, q'] at e
      exact ClOk.get hr e
def CapsOk (X : Cx) (sc : Scope) (cl : List (Str × Addr)) : List Nat → List Str → Prop
  | [], [] => True
  | j :: js, x :: xs => X.N[j]? = some x ∧ X.env.scope.names.lookup x = some .cell ∧ sc.names.lookup x = some .cell ∧ (cl.lookup x).isSome = true ∧ CapsOk X sc cl js xs
  | _, _ => False
def capV (caps : List Nat) (σ : St) : St := caps.map fun j => (σ[j]?).getD none
def compCx (X : Cx) (N : List Str) (scope : Scope) (cl : List (Str × Addr)) (C : Addr) (s : Shared) (H : Hp) (fp : List Addr) : Cx where
  prog := X.prog
  w := X.w
  K := X.K
  mg := X.mg
  base := X.base
  A := X.A
  N := N
  s₀ := s
  H₀ := H
  env := compEnvC scope cl C X.env
  outer := X.stack
  stack := X.stack
  ex := fp
  fn := fun _ => false
  calm := X.calm
  pn := []
  xe := fun _ _ => False
theorem mem_of_lookup {α : Type} {x : Str} {k : α} : ∀ {l : List (Str × α)}, l.lookup x = some k → (x, k) ∈ l
  | (y, j) :: r, e => by
    by_cases q : x = y
    · subst q
      simp only [List.lookup_cons, beq_self_eq_true] at e
      cases e
      exact .head _
    · have q' : (x == y) = false := by simpa using q
      simp only [List.lookup_cons, q'] at e
      exact .tail _ (mem_of_lookup e)
section
variable {X : Cx} {pins : List (Addr × Obj)} {σ : St} {H : Hp} {s : Shared} {N : List Str} {scope : Scope} {cl : List (Str × Addr)} {C : Addr} {fp : List Addr} {caps : List Nat} {xs : List Str}
theorem comp_ok (I : Inv X pins σ H s) (hcl : ClOk X.env.cells cl) (hk : scope.kind = .function) (hfp : ∀ b ∈ fp, FpOk X pins H b) (hlt : ∀ b ∈ fp, b < s.heap.objs.size)
    (hhas : ((relabel scope X.env).names.all fun y => !(y.2 == .cell || y.2 == .free) || (cl.lookup y.1).isSome) = true) (hC : s.heap.objs.size ≤ C) : (compCx X N scope cl C s H fp).Ok where
  mod := I.ok.mod
  kind := hk
  glob := I.ok.glob
  blt := I.ok.blt
  above := hC
  inj := fun x y c h1 h2 => I.ok.inj x y c (hcl.get h1) (hcl.get h2)
  has := fun x h => by
    have key : ∀ k : NameKind, (k = .cell ∨ k = .free) → (relabel scope X.env).names.lookup x = some k → ∃ c, cl.lookup x = some c := fun k hk e => by
      have h1 := List.all_eq_true.mp hhas _ (mem_of_lookup e)
      have h2 : (cl.lookup x).isSome = true := by
        rcases hk with rfl | rfl <;> simpa using h1
      exact Option.isSome_iff_exists.mp h2
    rcases h with h | h
    · exact key _ (.inl rfl) h
    · exact key _ (.inr rfl) h
  cab := fun x c h => by cases h
  hd := I.ok.hd
  frames := I.ok.frames
  stk := .inl rfl
  exf := fun b hb => ⟨fun z => by
      have h1 : @LT.lt Nat instLTNat b s.heap.objs.size := hlt b hb
      have z' : @Eq Nat b C := z
      have hC' : @LE.le Nat _ s.heap.objs.size C := hC
      omega, fun x c e => (hfp b hb).2.2.2.2.1 x c (hcl.get e)⟩
  bs := I.bs
  bsz := Nat.le_trans I.ok.bsz I.sz
  noex := fun b o e hb => by
    rcases (hfp b hb).2.2.2.1 with z | z
    · exact I.ok.noex b o e z
    · have h1 : @LT.lt Nat _ b X.base.objs.size := Heap.lt_size e
      have h2 := I.ok.bsz
      have z' : @LE.le Nat _ X.s₀.heap.objs.size b := z
      omega
  exfs := fun b hb z => by
    have h1 := I.stkSub b z
    rcases List.mem_cons.mp h1 with q | q
    · exact (hfp b hb).2.1 q
    · exact (hfp b hb).2.2.1 q
  funs := I.stack
  frf := I.stkFree
theorem cap_get : ∀ {caps : List Nat} {xs : List Str}, CapsOk X (relabel scope X.env) cl caps xs → ∀ {i : Nat} {x : Str} {v : V}, xs[i]? = some x → (capV caps σ)[i]? = some (some v) →
    ∃ j : Nat, X.N[j]? = some x ∧ σ[j]? = some (some v) ∧ X.env.scope.names.lookup x = some .cell ∧ (relabel scope X.env).names.lookup x = some .cell ∧ ∃ c, cl.lookup x = some c
  | [], [], _, i, x, v, h, _ => by simp at h
  | j :: js, y :: ys, ⟨h1, h2, h3, h4, hr⟩, 0, x, v, h, e => by
    simp only [List.getElem?_cons_zero, Option.some.injEq] at h
    subst h
    have e' : (σ[j]?).getD none = some v := by simpa [capV] using e
    refine ⟨j, h1, ?_, h2, h3, Option.isSome_iff_exists.mp h4⟩
    cases q : σ[j]? with
    | none => rw [q] at e'; cases e'
    | some o => rw [q] at e'; exact congrArg some e'
  | j :: js, y :: ys, ⟨_, _, _, _, hr⟩, i + 1, x, v, h, e => cap_get hr (by simpa using h) (by simpa [capV] using e)
theorem comp_start (I : Inv X pins σ H s) (hcl : ClOk X.env.cells cl) (hk : scope.kind = .function) (hfp : ∀ b ∈ fp, FpOk X pins H b) (hlt : ∀ b ∈ fp, b < s.heap.objs.size)
    (hhas : ((relabel scope X.env).names.all fun y => !(y.2 == .cell || y.2 == .free) || (cl.lookup y.1).isSome) = true) (hC : s.heap.objs.size ≤ C)
    (hcap : CapsOk X (relabel scope X.env) cl caps xs) (hlen : caps.length = xs.length) {x : Str} {h₁ : Heap} {t : Nat} {m : Str → Option Value} (hn : h₁.Ns C m) (kp : ∀ b o, s.heap.get? b = some o → h₁.get? b = some o) :
    Inv (compCx X (x :: xs) scope cl C s H fp) [] (none :: capV caps σ) H { s with heap := h₁, toks := t } where
  ok := comp_ok I hcl hk hfp hlt hhas hC
  os := rfl
  bare := I.bare
  base := Un.kept kp
  loc := by
    refine ⟨m, hn, fun i y v h1 h2 _ => ?_⟩
    cases i with
    | zero => simp at h2
    | succ i =>
      obtain ⟨j, e1, e2, e3, e4, c, e5⟩ := cap_get (X := X) (scope := scope) hcap (i := i) (by simpa [compCx] using h1) (by simpa using h2)
      obtain ⟨m₀, _, hl⟩ := I.loc
      obtain ⟨u, r, lk⟩ := hl j y v e1 e2 (.inr (.inl e3))
      refine ⟨u, r, .inr ⟨.inl e4, c, e5, ?_⟩⟩
      rcases lk with ⟨z, _⟩ | ⟨_, c', q1, q2⟩
      · have z' : X.env.scope.names.lookup y = some .local := z
        rw [e3] at z'
        cases z'
      · rw [hcl.get e5] at q1
        cases q1
        obtain ⟨o, ho, hd⟩ := q2
        exact ⟨o, kp _ _ ho, hd⟩
  cell := fun y c e => by
    obtain ⟨v, o, ho, hd⟩ := I.cell y c (hcl.get e)
    exact ⟨v, o, kp _ _ ho, hd⟩
  free := I.hok.fresh hC
  freeC := fun y c e => I.freeC y c (hcl.get e)
  pin := fun p hp => by
    have hp' : p ∈ ([] : List (Addr × Obj)) := hp
    cases hp'
  hok := I.hok.kept kp
  len := by simp [compCx, capV, hlen]
end
def PTs (X : Cx) (ifs : List Expr) (t : TT) : Prop :=
  ∀ (pins : List (Addr × Obj)) (s : Shared) (σ : St) (H : Hp) (Q : Bool → Hp → Prop), Inv X pins σ H s → t σ H Q →
    wpAny (model X.prog X.w) X.A (forIn ifs true fun c r => if r = true then do let ok ← isTrue c X.env (eval c X.env); pure (ForInStep.yield ok) else pure (ForInStep.yield r)) (TP X pins σ Q) X.xe s
theorem pts_nil {X : Cx} : PTs X [] (fun _ H Q => Q true H) := fun _ _ _ H _ I h => wpAny_tests_nil ⟨H, I, h⟩
def tComp (caps : List Nat) (wi : TI) (tt : TT) (te : TE) : TE := fun σ H Q => wi σ H fun J H1 => ∃ (n : Nat) (W : Nat → List V → Hp → Prop), n ≤ sizeLine ∧ W 0 [] H1 ∧ ∀ i ys H2, W i ys H2 →
  (J.stop i H2 ∧ ∀ p, H2 p = none → Q (.ref p) (upd H2 p (.lst ys))) ∨
  (J.go i H2 ∧ i < n ∧ ∀ x H3, J.yld i H2 x H3 → tt (some x :: capV caps σ) H3 fun b H4 => if b = true then te (some x :: capV caps σ) H4 fun v H5 => W (i + 1) (ys ++ [v]) H5 else W (i + 1) ys H4)
section
variable {prog : Program} {w : World} {A : Around} {R : Result → Shared → Prop} {s : Shared}
theorem comp_loop {elt target iter : Expr} {ifs : List Expr} {scope : Scope} {pos : Pos} {it acc : Value} {env : Env} (I : Nat → Shared → Prop)
    (turn : ∀ n s, I n s → wpAny (model prog w) A (pyNext it) (fun r s₁ => match r with
      | none => R (.ok .next) s₁
      | some v => wpAny (model prog w) A (letOwnedTupleGo target it v) (fun _ s₁ => wpAny (model prog w) A (assign target env v) (fun _ s₂ =>
          wpAny (model prog w) A (forIn ifs true fun c r => if r = true then do let ok ← isTrue c env (eval c env); pure (ForInStep.yield ok) else pure (ForInStep.yield r)) (fun ok s₃ =>
            if ok = true then wpAny (model prog w) A (eval elt env) (fun x s₄ =>
              wpAny (model prog w) A (call (.builtin "list.append") [acc, x]) (fun _ s₅ => ∃ m, m < n ∧ I m s₅) (fun _ _ => False) s₄) (fun _ _ => False) s₃
            else ∃ m, m < n ∧ I m s₃) (fun _ _ => False) s₂) (fun _ _ => False) s₁) (fun _ _ => False) s₁) (fun _ _ => False) s)
    (n : Nat) (h : I n s) :
    codeAny (model prog w) A (.compLoop (.ListComp elt [⟨target, iter, ifs, 0⟩] scope pos) 0 it acc env) R s := by
  refine codeAny_loop rfl I (fun n s hI => ?_) n h
  show wpAny _ A ((compTurn (.ListComp elt [⟨target, iter, ifs, 0⟩] scope pos) 0 it acc env).onRaise (fun x => do noteFrame x env; theTreesLotGoes x)) _ _ s
  refine wpAny_noted ?_
  rw [compTurn_list]
  refine wpAny_bind (wpAny_standAt (wpAny_bind (wpAny_mono (turn n s hI) (fun r s₁ h₁ => ?_) fun _ _ h' => h'.elim)))
  cases r with
  | none => exact wpAny_pure h₁
  | some v =>
    refine wpAny_bind (wpAny_mono h₁ (fun _ s₁ h₁ => ?_) fun _ _ h' => h'.elim)
    refine wpAny_bind (wpAny_mono h₁ (fun _ s₂ h₂ => wpAny_bind (wpAny_mono h₂ (fun ok s₃ h₃ => ?_) fun _ _ h' => h'.elim)) fun _ _ h' => h'.elim)
    cases ok with
    | false => exact wpAny_pure ⟨rfl, h₃⟩
    | true =>
      exact wpAny_bind (wpAny_bind (wpAny_mono h₃ (fun x s₄ h₄ => wpAny_bind (wpAny_mono h₄ (fun _ s₅ h₅ => wpAny_pure (wpAny_pure ⟨rfl, h₅⟩)) fun _ _ h' => h'.elim)) fun _ _ h' => h'.elim))
end
def Loose (X : Cx) (pins : List (Addr × Obj)) (H : Hp) (C : Addr) : Prop :=
  H C = none ∧ C ≠ X.env.locals ∧ X.s₀.heap.objs.size ≤ C ∧ (∀ x c, X.env.cells.lookup x = some c → c ≠ C) ∧ ∀ p ∈ X.pn ++ pins, p.1 ≠ C
theorem Inv.letGo {X : Cx} {pins : List (Addr × Obj)} {σ : St} {H : Hp} {s : Shared} {C : Addr} {h' : Heap} (I : Inv X pins σ H s) (l : Loose X pins H C) (k : Heap.SameBut C s.heap h') : Inv X pins σ H { s with heap := h' } :=
  I.turned (it := C) (t' := s.toks) (fun b o hb e => k.extBut b o hb e) l.1 l.2.1 (.inr l.2.2.1) l.2.2.2.1 l.2.2.2.2
section
variable {X : Cx}
theorem comp_block {elt iter : Expr} {x : Str} {px pos : Pos} {ifs : List Expr} {scope : Scope} {cl : List (Str × Addr)} {caps : List Nat} {xs : List Str} {tt : TT} {te : TE}
    (hc : X.calm = true) (hcl : ClOk X.env.cells cl) (hcap : CapsOk X (relabel scope X.env) cl caps xs) (hlen : caps.length = xs.length)
    (hkind : scope.kind = .function) (hcell : ∀ y ∈ scope.names, y.2 ≠ .cell)
    (hhas : ((relabel scope X.env).names.all fun y => !(y.2 == .cell || y.2 == .free) || (cl.lookup y.1).isSome) = true)
    (hx : (relabel scope X.env).names.lookup x = some .local) (hN : (x :: xs).Nodup)
    (ht : ∀ C s H fp, PTs (compCx X (x :: xs) scope cl C s H fp) ifs tt) (he : ∀ C s H fp, PE (compCx X (x :: xs) scope cl C s H fp) elt te)
    {pins : List (Addr × Obj)} {σ : St} {H1 : Hp} {s2 : Shared} {it : Addr} {fp : List Addr} {tn : Nat → Heap → Prop} {J : It} {Q : VK}
    (I2 : Inv X pins σ H1 s2) (T : Turn X.prog X.w X.K (.Name x px) J fp it tn) (st0 : tn 0 s2.heap) (hfp : ∀ b ∈ fp, FpOk X pins H1 b)
    (hq : ∃ (n : Nat) (W : Nat → List V → Hp → Prop), n ≤ sizeLine ∧ W 0 [] H1 ∧ ∀ i ys H2, W i ys H2 →
      (J.stop i H2 ∧ ∀ p, H2 p = none → Q (.ref p) (upd H2 p (.lst ys))) ∨
      (J.go i H2 ∧ i < n ∧ ∀ x H3, J.yld i H2 x H3 → tt (some x :: capV caps σ) H3 fun b H4 => if b = true then te (some x :: capV caps σ) H4 fun v H5 => W (i + 1) (ys ++ [v]) H5 else W (i + 1) ys H4))
    {RR : Value → Addr → Result → Shared → Prop}
    (hRR : ∀ s1 D C m H', Inv X pins σ H' s1 → s1.heap.Ns C m → Loose X pins H' C → Q (.ref D) H' → RR (.ref D) C (.ok .next) s1) :
    wpAny (model X.prog X.w) X.A (newList []) (fun acc s₃ => wpAny (model X.prog X.w) X.A (newFunctionEnv scope X.env.globals cl [] X.env.qual none .none (some X.env)) (fun cenv s₄ =>
      codeAny (model X.prog X.w) X.A (.compStart (.ListComp elt [⟨.Name x px, iter, ifs, 0⟩] scope pos) 0 (.ref it) acc { cenv with scope := relabel scope X.env }) (RR acc cenv.locals) s₄) X.xe s₃) X.xe s2 := by
  obtain ⟨n, W, hn, w0, hW⟩ := hq
  have hlt : ∀ b ∈ fp, b < s2.heap.objs.size := fun b hb => by
    obtain ⟨o, ho, _⟩ := T.obj 0 s2.heap st0 b hb
    exact Heap.lt_size ho
  refine wpAny_newObj_type (wpAny_newFunctionEnv hcell (by intro y hy; simp at hy) (fun h₁ hns₁ hsb₁ => ?_) hkind)
  dsimp only at hns₁ hsb₁ ⊢
  generalize hH2 : s2.heap.push { cls := .type "list", dict := none, data := .seq ([] : List Value).toArray } = G at hns₁ hsb₁ ⊢
  have hC : G.objs.size = s2.heap.objs.size + 1 := by rw [← hH2, Heap.size_push]
  have hDC : s2.heap.objs.size ≠ G.objs.size := by omega
  have old : ∀ b o, s2.heap.get? b = some o → h₁.get? b = some o := fun b o e => hsb₁.extBut b o (adr (by have h1 : @LT.lt Nat _ b s2.heap.objs.size := Heap.lt_size e; omega)) (Heap.get?_push_of_some _ (hH2 ▸ Heap.get?_push_of_some _ e))
  have hacc : h₁.get? s2.heap.objs.size = some { cls := .type "list", dict := none, data := .seq ([] : List Value).toArray } :=
    hsb₁.extBut _ _ hDC (Heap.get?_push_of_some _ (hH2 ▸ Heap.get?_push_size _ rfl))
  have I3 : Inv (compCx X (x :: xs) scope cl G.objs.size s2 H1 fp) [] (none :: capV caps σ) H1 { s2 with heap := h₁, toks := s2.toks + ([] : List (Str × Value)).length } :=
    comp_start I2 hcl hkind hfp hlt hhas (by omega) hcap hlen hns₁ old
  have st1 : tn 0 h₁ := T.keep 0 _ _ st0 fun b hb o e => old b o e
  have fpX : ∀ {pins' : List (Addr × Obj)} {H' : Hp} (b : Addr), b ∈ fp → H' b = none → (∀ p ∈ pins', p.1 ≠ b) → FpOk (compCx X (x :: xs) scope cl G.objs.size s2 H1 fp) pins' H' b := fun b hb hh hp =>
    ⟨hh, fun z => by have h1 : @LT.lt Nat _ b s2.heap.objs.size := hlt b hb; have z' : @Eq Nat b G.objs.size := z; omega, fun z => by
      rcases List.mem_cons.mp (I2.stkSub b z) with q | q
      · exact (hfp b hb).2.1 q
      · exact (hfp b hb).2.2.1 q, .inl hb, fun y c e => (hfp b hb).2.2.2.2.1 y c (hcl.get e), fun p hp' => hp p hp'⟩
  let XC := compCx X (x :: xs) scope cl G.objs.size s2 H1 fp
  have loop : ∀ s3 : Shared, s3 = { s2 with heap := h₁, toks := s2.toks + ([] : List (Str × Value)).length } →
      codeAny (model X.prog X.w) X.A (.compLoop (.ListComp elt [⟨.Name x px, iter, ifs, 0⟩] scope pos) 0 (.ref it) (.ref s2.heap.objs.size) (compEnvC scope cl G.objs.size X.env))
        (RR (.ref s2.heap.objs.size) G.objs.size) s3 := by
    rintro s3 rfl
    refine comp_loop (fun m s' => ∃ (i : Nat) (ys : List V) (Hn : Hp) (its : List Value) (k : Nat) (v0 : Option V), m = n + 1 - i ∧ i ≤ n ∧ ys.length ≤ i ∧ W i ys Hn ∧ Vals ys its ∧ tn i s'.heap ∧ (∀ b ∈ fp, Hn b = none) ∧
      Inv XC [(s2.heap.objs.size, { cls := .type "list", data := .seq its.toArray k })] (v0 :: capV caps σ) Hn s') ?_ (n + 1) ?_
    · rintro m s' ⟨i, ys, Hn, its, k, v0, rfl, hin, hyl, w, rv, st, hfn, J'⟩
      have pD := J'.pin _ (List.mem_append_right _ (List.mem_singleton.mpr rfl))
      have neD : ∀ b ∈ fp, ∀ p ∈ [((s2.heap.objs.size, ({ cls := .type "list", data := .seq its.toArray k } : Obj)))], p.1 ≠ b := fun b hb p hp z => by
        have h1 : @LT.lt Nat instLTNat b s2.heap.objs.size := hlt b hb
        rw [List.mem_singleton.mp hp] at z
        have z' : @Eq Nat s2.heap.objs.size b := z
        omega
      rcases hW i ys Hn w with ⟨hstop, fin⟩ | ⟨hgo, hi', hgo'⟩
      · -- it stops
        refine wpAny_mono (T.done XC rfl rfl rfl hc i _ s' _ Hn (fun _ _ => False) J' (fun b hb => fpX b hb (hfn b hb) (neD b hb)) st hstop) (fun r s1 hr => ?_) fun _ _ z => z
        obtain ⟨rfl, J1⟩ := hr
        obtain ⟨mC, hnC, _⟩ := J1.loc
        have pD1 := J1.pin _ (List.mem_append_right _ (List.mem_singleton.mpr rfl))
        have hD' : s1.heap.get? s2.heap.objs.size = some { cls := .type "list", data := .seq its.toArray k } := pD1.1
        have hHD : Hn s2.heap.objs.size = none := pD1.2.1
        have hHC : Hn G.objs.size = none := J1.free
        have un : Un (frs X.stack) fp H1 (upd Hn s2.heap.objs.size (.lst ys)) s2.heap s1.heap := by
          have u := J1.base
          have lt2 : ∀ b o, s2.heap.get? b = some o → b ≠ G.objs.size ∧ b ≠ s2.heap.objs.size := fun b o e => by
            have h1 := ltN e
            exact ⟨adr (by omega), adr (by omega)⟩
          refine ⟨u.keep, u.slot, fun b o e n1 n2 => ?_, u.there, fun b zs e => ?_, fun b o u' e => ?_, fun b ps e => ?_⟩
          · rw [upd_ne (lt2 b o e).2]
            exact u.free b o e n1 n2
          · have q := u.tups b zs e
            rw [upd_ne (fun z => by rw [z, hHD] at q; cases q)]
            exact q
          · have q := u.frzs b o u' e
            rw [upd_ne (fun z => by rw [z, hHD] at q; cases q)]
            exact q
          · obtain ⟨more, q⟩ := u.tbls b ps e
            refine ⟨more, ?_⟩
            rw [upd_ne (fun z => by rw [z, hHD] at q; cases q)]
            exact q
        have hok : HOk X.prog X.w (upd Hn s2.heap.objs.size (.lst ys)) s1.heap := fun a o e => by
          by_cases ha : a = s2.heap.objs.size
          · subst ha
            rw [upd_same] at e
            cases e
            exact ⟨by omega, its, k, rv, hD'⟩
          · rw [upd_ne ha] at e
            have q : ObjOk X.prog X.w Hn s1.heap a o := J1.hok a o e
            refine q.stay (fun b u' hb e' => e') (fun b e' => ?_) fun b zs e' => ?_
            · rw [upd_ne (fun z => by rw [z, hHD] at e'; cases e')]; exact e'
            · rw [upd_ne (fun z => by rw [z, hHD] at e'; cases e')]; exact e'
        have I4 : Inv X pins σ (upd Hn s2.heap.objs.size (.lst ys)) s1 :=
          I2.call' (ch := fp) J1.os un hok J1.bare fun b hb => ⟨(hfp b hb).2.2.2.1, (hfp b hb).2.1, (hfp b hb).2.2.2.2.1, (hfp b hb).2.2.2.2.2⟩
        refine hRR s1 _ _ mC _ I4 hnC ⟨by rw [upd_ne (Ne.symm hDC)]; exact hHC, fun z => ?_, by have := I2.sz; omega, fun y c e z => ?_, fun p hp z => ?_⟩ (fin _ hHD)
        · have h1 : @LT.lt Nat instLTNat X.env.locals s2.heap.objs.size := I2.lt
          have z' : @Eq Nat G.objs.size X.env.locals := z
          omega
        · obtain ⟨v', o', ho', _⟩ := I2.cell y c e
          have h1 := ltN ho'
          have z' : @Eq Nat c G.objs.size := z
          omega
        · have h1 := ltN (I2.pin p hp).1
          have z' : @Eq Nat p.1 G.objs.size := z
          omega
      · -- a turn
        refine wpAny_mono (T.item XC rfl rfl rfl hc i _ s' _ Hn (fun _ _ => False) J' (fun b hb => fpX b hb (hfn b hb) (neD b hb)) st hgo) (fun r s1 hr => ?_) fun _ _ z => z
        obtain ⟨u, rfl, hr⟩ := hr
        refine wpAny_mono hr (fun _ s2' h2 => ?_) fun _ _ z => z
        obtain ⟨v, H3, J1, ru, hy, st1', hf3⟩ := h2
        refine wpAny_assign_Name ?_
        refine store_ok2 (v := v) J1 hN (i := 0) rfl (.inl hx) ru (fun s4 J2 hsb => ?_) (.inr hx)
        have st4 : tn (i + 1) s4.heap := by
          obtain ⟨a, hsa, ha⟩ := hsb
          refine T.keep _ _ _ st1' fun b hb o e => hsa.extBut b o (fun z => ?_) e
          rcases ha with ha | ha
          · have h1 : @LT.lt Nat instLTNat b s2.heap.objs.size := hlt b hb
            have ha' : @Eq Nat a G.objs.size := ha
            have z' : @Eq Nat b a := z
            omega
          · exact (hfp b hb).2.2.2.2.1 x a (hcl.get ha) z.symm
        have J2' : Inv XC [(s2.heap.objs.size, { cls := .type "list", data := .seq its.toArray k })] (some v :: capV caps σ) H3 s4 := J2
        have ob4 : ∀ b ∈ fp, ∃ o, s4.heap.get? b = some o ∧ ∀ v, o.data ≠ .cell v := fun b hb => T.obj _ _ st4 b hb
        have J3 := J2'.pinned (fun b hb => fpX b hb (hf3 b hb) (neD b hb)) ob4
        have tnAt : ∀ {σ' : St} {H' : Hp} {s'' : Shared}, Inv XC ([(s2.heap.objs.size, ({ cls := .type "list", data := .seq its.toArray k } : Obj))] ++ pinsAt fp s4.heap) σ' H' s'' → tn (i + 1) s''.heap ∧ ∀ b ∈ fp, H' b = none := fun J4 =>
          ⟨T.keep _ _ _ st4 fun b hb o e => (J4.pin (b, o) (List.mem_append_right _ (List.mem_append_right _ (mem_pinsAt hb e)))).1, fun b hb => by
            obtain ⟨o, e, _⟩ := ob4 b hb
            exact (J4.pin (b, o) (List.mem_append_right _ (List.mem_append_right _ (mem_pinsAt hb e)))).2.1⟩
        refine thn (ht _ _ _ _ _ s4 _ H3 _ J3 (hgo' v H3 hy)) fun ok s5 ⟨H4, J4, q4⟩ => ?_
        cases ok with
        | false =>
          rw [if_neg (by simp)]
          have q4' : W (i + 1) ys H4 := q4
          obtain ⟨a1, a2⟩ := tnAt J4
          exact ⟨n + 1 - (i + 1), by omega, i + 1, ys, H4, its, k, some v, rfl, by omega, by omega, q4', rv, a1, a2, J4.unpinned⟩
        | true =>
          rw [if_pos rfl]
          have q4' : te (some v :: capV caps σ) H4 fun v H5 => W (i + 1) (ys ++ [v]) H5 := q4
          refine thn (he _ _ _ _ _ s5 _ H4 _ J4 q4') fun uv s6 ⟨y, H5, J5, ry, q5⟩ => ?_
          obtain ⟨a1, a2⟩ := tnAt J5
          have pD6 := J5.pin _ (List.mem_append_right _ (List.mem_append_left _ (List.mem_singleton.mpr rfl)))
          have hl6 := rv.length
          refine call_meets F.slot_list_append ⟨_, pD6.1, rfl⟩ F.entry_list_append (F.args_list_append_2 _ _) (PySem.list_append s2.heap.objs.size its.toArray k uv (by rw [List.size_toArray]; omega)) ⟨pD6.1, ?_⟩
          have J6 : Inv XC [] (some v :: capV caps σ) H5 s6 := J5.pins_of fun p hp => by cases hp
          have ne6 : s2.heap.objs.size ∉ fp := fun z => by have h1 : @LT.lt Nat instLTNat s2.heap.objs.size s2.heap.objs.size := hlt _ z; omega
          have J7 : Inv XC [] (some v :: capV caps σ) H5 { s6 with heap := s6.heap.update s2.heap.objs.size (Obj.mapSeq fun xs => xs.push uv), toks := s6.toks } :=
            J6.turned (it := s2.heap.objs.size) (fun b o hb e => by rw [Heap.get?_update_other _ _ (Ne.symm hb)]; exact e) pD6.2.1 (fun z => hDC z) (.inr (Nat.le_refl _)) (fun y c e z => by
              have e1 := I2.cell y c (hcl.get e)
              obtain ⟨v', o', ho', _⟩ := e1
              have h1 := ltN ho'
              have z' : @Eq Nat c s2.heap.objs.size := z
              omega) (fun p hp => by cases hp)
          refine ⟨n + 1 - (i + 1), by omega, i + 1, ys ++ [y], H5, its ++ [uv], k + 1, some v, rfl, by omega, by rw [List.length_append, List.length_singleton]; omega, q5, rv.append (.cons ry .nil), ?_, a2, ?_⟩
          · refine T.keep _ _ _ a1 fun b hb o e => ?_
            show (s6.heap.update s2.heap.objs.size _).get? b = some o
            rw [Heap.get?_update_other _ _ (fun z => ne6 (by rw [z]; exact hb))]
            exact e
          · refine J7.pins_of fun p hp => ?_
            rw [List.mem_singleton.mp hp]
            refine ⟨?_, pD6.2.1, fun z => hDC z, pD6.2.2.2.1, fun v' z => ?_⟩
            · show (s6.heap.update s2.heap.objs.size _).get? s2.heap.objs.size = _
              rw [Heap.get?_update_self _ pD6.1 rfl]
              simp only [Obj.mapSeq, List.push_toArray]
              rw [if_neg (by simp)]
            · have z' : Data.seq _ _ = Data.cell v' := z
              cases z'
    · exact ⟨0, [], H1, [], 0, none, by omega, by omega, by simp, w0, .nil, st1, fun b hb => (hfp b hb).1, I3.pins_of fun p hp => by
        rw [List.mem_singleton.mp hp]
        refine ⟨hacc, I2.hok.fresh (Nat.le_refl _), fun z => hDC z, fun z => ?_, fun v' z => ?_⟩
        · have := I2.stkFree _ z
          rcases List.mem_cons.mp (I2.stkSub _ z) with q | q
          · have h1 : @LT.lt Nat instLTNat X.env.locals s2.heap.objs.size := I2.lt
            have z' : @Eq Nat s2.heap.objs.size X.env.locals := q
            omega
          · exact I2.nofs (Nat.le_refl _) q
        · have z' : Data.seq _ _ = Data.cell v' := z
          cases z'⟩
  exact codeAny_compStart_list (loop _ rfl) (T.self X.A 0 _ _ _ st1 (loop _ rfl))
theorem pe_comp {elt iter : Expr} {x : Str} {px pos : Pos} {ifs : List Expr} {scope : Scope} {cl : List (Str × Addr)} (caps : List Nat) (xs : List Str) {wi : TI} {tt : TT} {te : TE}
    (hc : X.calm = true) (hclos : closureFor scope X.env = pure cl) (hcl : ClOk X.env.cells cl) (hcap : CapsOk X (relabel scope X.env) cl caps xs) (hlen : caps.length = xs.length)
    (hkind : scope.kind = .function) (hcell : ∀ y ∈ scope.names, y.2 ≠ .cell) (hnames : ∀ y ∈ scope.names, y.2 = .local → scope.names.lookup y.1 = some .local)
    (hhas : ((relabel scope X.env).names.all fun y => !(y.2 == .cell || y.2 == .free) || (cl.lookup y.1).isSome) = true)
    (hx : (relabel scope X.env).names.lookup x = some .local) (hN : (x :: xs).Nodup)
    (hi : PI X (.Name x px) iter wi) (ht : ∀ C s H fp, PTs (compCx X (x :: xs) scope cl C s H fp) ifs tt) (he : ∀ C s H fp, PE (compCx X (x :: xs) scope cl C s H fp) elt te)
    (hs : ∀ v, foldedSetIterable iter X.env v = pure v := by intro _; rfl) : PE X (.ListComp elt [⟨.Name x px, iter, ifs, 0⟩] scope pos) (tComp caps wi tt te) := by
  intro pins s σ H Q I h
  rw [eval_ListComp]
  refine wpAny_comprehension_free (use := none) rfl hs hclos hkind hnames (wpAny_mono (hi pins s σ H _ I h) (fun v s1 h1 => wpAny_mono h1 (fun itv s2 h2 => ?_) fun _ _ e => e) fun _ _ e => e)
  obtain ⟨it, fp, tn, J, H1, rfl, I2, T, st0, hfp, hq⟩ := h2
  refine comp_block (RR := fun acc C => compPost (model X.prog X.w) X.A X.xe none (EP X pins σ Q) acc C) hc hcl hcap hlen hkind hcell hhas hx hN ht he I2 T st0 hfp hq ?_
  intro s1 D C m H' I4 hn l q
  exact ⟨m, hn, fun h' hsb => ⟨.ref D, H', I4.letGo l hsb, rfl, q⟩⟩
theorem ps_comp {elt iter : Expr} {x y : Str} {px py pos spos : Pos} {ifs : List Expr} {scope : Scope} {cl : List (Str × Addr)} {k : Nat} (caps : List Nat) (xs : List Str) {wi : TI} {tt : TT} {te : TE}
    (hsw : swapsWith (.ListComp elt [⟨.Name x px, iter, ifs, 0⟩] scope pos) (some (.Name y py)) spos.line X.env = pure true)
    (hNX : X.N.Nodup) (hk : X.N[k]? = some y) (hy : X.env.scope.names.lookup y = some .local)
    (hc : X.calm = true) (hclos : closureFor scope X.env = pure cl) (hcl : ClOk X.env.cells cl) (hcap : CapsOk X (relabel scope X.env) cl caps xs) (hlen : caps.length = xs.length)
    (hkind : scope.kind = .function) (hcell : ∀ y ∈ scope.names, y.2 ≠ .cell) (hnames : ∀ y ∈ scope.names, y.2 = .local → scope.names.lookup y.1 = some .local)
    (hhas : ((relabel scope X.env).names.all fun y => !(y.2 == .cell || y.2 == .free) || (cl.lookup y.1).isSome) = true)
    (hx : (relabel scope X.env).names.lookup x = some .local) (hN : (x :: xs).Nodup)
    (hi : PI X (.Name x px) iter wi) (ht : ∀ C s H fp, PTs (compCx X (x :: xs) scope cl C s H fp) ifs tt) (he : ∀ C s H fp, PE (compCx X (x :: xs) scope cl C s H fp) elt te)
    (hs : ∀ v, foldedSetIterable iter X.env v = pure v := by intro _; rfl) : PS X (.Assign [.Name y py] (.ListComp elt [⟨.Name x px, iter, ifs, 0⟩] scope pos) spos) (tAsg (tComp caps wi tt te) (gName k)) := by
  intro pins s σ H D I h
  rw [exec_Assign_Name_used _ _ _ _ hsw]
  refine wpAny_bind (wpAny_standAt (wpAny_bind ?_))
  show wpAny _ X.A (do let _ ← comprehension (.ListComp elt [⟨.Name x px, iter, ifs, 0⟩] scope pos) scope X.env _ (newList []) false (eval iter X.env) (some (assign (.Name y py) X.env))) _ _ s
  refine wpAny_bind (wpAny_mono (wpAny_comprehension_free (use := some (assign (.Name y py) X.env)) (Q := fun _ s' => SP X pins D .next s') rfl hs hclos hkind hnames
    (wpAny_mono (hi pins s σ H _ I h) (fun xv s₁ h₁ => wpAny_mono h₁ (fun itv s2 h2 => ?_) fun _ _ e => e) fun _ _ e => e)) (fun _ s' hq => wpAny_pure (wpAny_pure hq)) fun _ _ e => e)
  obtain ⟨it, fp, tn, J, H1, rfl, I2, T, st0, hfp, hq⟩ := h2
  refine comp_block (Q := fun v H1 => gName k v σ H1 D.nx) (RR := fun acc C => compPost (model X.prog X.w) X.A X.xe (some (assign (.Name y py) X.env)) (fun _ s' => SP X pins D .next s') acc C) hc hcl hcap hlen hkind hcell hhas hx hN ht he I2 T st0 hfp hq ?_
  intro s1 Da C m H' I4 hn l q
  show wpAny _ X.A (assign (.Name y py) X.env (.ref Da)) _ _ s1
  refine wpAny_assign_Name (store_ok2 (v := .ref Da) I4 hNX hk (.inl hy) rfl (fun s4 I5 hsb => ?_) (.inr hy))
  obtain ⟨a, hsa, ha⟩ := hsb
  have hCa : C ≠ a := by
    rcases ha with ha | ha
    · rw [ha]; exact l.2.1
    · exact Ne.symm (l.2.2.2.1 y a ha)
  refine ⟨m, hn.sameBut hsa hCa, fun h' hsb => ⟨_, H', I5.letGo l hsb, q⟩⟩
end
end L2
namespace L2
open PySem PySem.Spec PyProof.Rows
theorem same_new {H : Hp} {p : Addr} (h : H p = none) (o : HO) : Same H (upd H p o) := fun b u q => by rw [upd_ne (ne_of_none q h)]; exact q
structure Def (P : Program) (w : World) (K : PySem.W.Frag) (mg : Str → Option Value) (base : Heap) (x : Str) (k : Nat) (ps : List Str) (sp : Sp) : Prop where
  ex : ∃ (f : Addr) (fd : FuncData), FnOk P w K mg base CX0 k f fd ps sp ∧ Binds K fd ps [] ∧ PySem.W.keepIn K (.ref f) = true ∧ mg x = some (.ref f)
theorem def_mk {P : Program} {w : World} {K : PySem.W.Frag} {mg : Str → Option Value} {base : Heap} {x qual : Str} {st : Stmt} {f : Addr} {fd : FuncData} {k : Nat} {ps : List Str} {sp : Sp} (F : Fun K x qual st f fd)
    (ok : FnOk P w K mg base CX0 k f fd ps sp) (b : Binds K fd ps []) (m : mg x = some (.ref f)) : Def P w K mg base x k ps sp := ⟨⟨f, fd, ok, b, F.kp, m⟩⟩
section
variable {X : Cx} {x : Str} {j k : Nat} {ps : List Str} {sp : Sp} {p pos : Pos} {e : Expr} {es : List Expr} {t : TA}
theorem pe_def (D : Def X.prog X.w X.K X.mg X.base x j ps sp) (hr : Room k X.A) (hg : Gl X x) (ha : PA X (e :: es) t) (hjk : j ≤ k := by decide) (hdb : (x == ("__debug__" : Str)) = false := by decide)
    (he : starEach (e :: es) X.env = (false, eval e X.env) :: starEach es X.env := by rfl) (hpl : (backTo pos (starEach es X.env)).any (·.1) = false := by rfl) :
    PE X (.Call (.Name x p) (e :: es) [] pos) (tCall sp [] E0 t) := by
  obtain ⟨f, fd, ok, b, kp, m⟩ := D.ex
  exact pe_call ok (hr.mono hjk) hg m kp b .nil pass0 ha hdb he hpl
end
end L2
namespace L2
open PySem PySem.Spec PyProof.Rows
def tJoin (t : TS) : TS := fun D σ H => ∃ R : St → Hp → Prop, (∀ σ' H', R σ' H' → D.nx σ' H') ∧ t { D with nx := R } σ H
theorem ps_join {X : Cx} {st : Stmt} {t : TS} (h : PS X st t) : PS X st (tJoin t) := by
  intro pins s σ H D I ⟨R, hR, q⟩
  refine thn (h pins s σ H _ I q) fun f s' hq => ?_
  cases f with
  | next =>
    obtain ⟨σ', H', I', r⟩ := hq
    exact ⟨σ', H', I', hR _ _ r⟩
  | brk => exact hq
  | cont => exact hq
  | ret v => exact hq
end L2
namespace L2
open PySem PySem.Spec PyProof.Rows
theorem bt_isinstance : bootBuiltins "isinstance" = some (.builtin "isinstance") := by decide +kernel
theorem bt_min : bootBuiltins "min" = some (.builtin "min") := by decide +kernel
theorem bt_max : bootBuiltins "max" = some (.builtin "max") := by decide +kernel
theorem bt_int : bootBuiltins "int" = some (.type "int") := by decide +kernel
theorem bt_list : bootBuiltins "list" = some (.type "list") := by decide +kernel
theorem bt_str : bootBuiltins "str" = some (.type "str") := by decide +kernel
theorem bt_reversed : bootBuiltins "reversed" = some (.type "reversed") := by decide +kernel
def cInts : List Expr → Option (List Int)
  | [] => some []
  | .Constant (.int i) _ _ :: r => (cInts r).map (i :: ·)
  | _ => none
theorem pa_ints {X : Cx} : ∀ {es : List Expr} {ns : List Int}, cInts es = some ns → PA X es (fun _ H Q => Q (ns.map V.int) H)
  | [], ns, h => by
    simp only [cInts, Option.some.injEq] at h
    subst h
    exact pa_nil
  | e :: es, ns, h => by
    cases e with
    | Constant c k p =>
      cases c with
      | int i =>
        simp only [cInts, Option.map_eq_some_iff] at h
        obtain ⟨ms, h1, rfl⟩ := h
        have q := pa_cons (X := X) (e := .Constant (.int i) k p) pe_int (pa_ints h1) rfl
        exact q
      | _ => simp [cInts] at h
    | _ => simp [cInts] at h
theorem int_pow_le {a b : Int} (h0 : 0 ≤ a) (h : a ≤ b) : ∀ n : Nat, a ^ n ≤ b ^ n
  | 0 => by simp
  | n + 1 => by
    rw [Int.pow_succ, Int.pow_succ]
    have h1 := int_pow_le h0 h n
    have h2 : 0 ≤ a ^ n := Int.pow_nonneg h0
    exact Int.mul_le_mul h1 h h0 (Int.le_trans h2 h1)
end L2
namespace L2
open PySem PySem.Spec PyProof.Rows
theorem ps_eq {X : Cx} {st st' : Stmt} {t : TS} (e : st = st') (h : PS X st' t) : PS X st t := by subst e; exact h
theorem ps_setInts {X : Cx} {st : Stmt} {i : Nat} {x : Str} {es : List Expr} {ns : List Int} {p1 p2 pos : Pos} (e : st = .Assign [.Name x p1] (.List es p2) pos) (hc : cInts es = some ns) (hN : X.N.Nodup) (hi : X.N[i]? = some x) (hx : Loc X.env.scope x)
    (hf : X.fn x = true ∨ X.env.scope.names.lookup x = some .local) : PS X st (tAsg (tLst fun _ H Q => Q (ns.map V.int) H) (gName i)) := by
  subst e
  exact ps_set hN hi hx (pe_lst (pa_ints hc)) rfl hf
end L2
namespace L2
open PySem PySem.Spec PyProof.Rows
def ForIt (J : It) (g : TG) (tb : TS) (D : Ends) (σ : St) (H : Hp) : Prop := ∃ W : Nat → Nat → St → Hp → Prop, (∃ m, W 0 m σ H) ∧ ∀ i m σ H, W i m σ H →
  (J.stop i H ∧ D.nx σ H) ∨ (J.go i H ∧ ∃ N : St → Hp → Prop, (∀ σ' H', N σ' H' → ∃ m', m' < m ∧ W (i + 1) m' σ' H') ∧ ∀ x H', J.yld i H x H' → g x σ H' fun σ2 H2 => tb { D with nx := N, ct := N, bk := D.nx } σ2 H2)
theorem w_for {wi : TI} {g : TG} {tb : TS} {D : Ends} {σ : St} {H : Hp} : tFor wi g tb D σ H = wi σ H fun J H1 => ForIt J g tb D σ H1 := rfl
section
variable {lo c : Int} {n : Nat} {K : PySem.W.Frag} {a : Addr} {xs : List V} {g : TG} {tb : TS} {D : Ends} {σ : St} {H : Hp}
theorem forR (Pv : Nat → St → Hp → Prop) (h0 : Pv 0 σ H)
    (hs : ∀ i σ H, i < n → Pv i σ H → g (.int (lo + i)) σ H fun σ2 H2 => tb { D with nx := Pv (i + 1), ct := Pv (i + 1), bk := D.nx } σ2 H2) (hd : ∀ σ H, Pv n σ H → D.nx σ H) : ForIt (Itr lo n) g tb D σ H := for_range Pv h0 hs hd
theorem forC (Pv : Nat → St → Hp → Prop) (h0 : Pv 0 σ H)
    (hs : ∀ i σ H, i < n → Pv i σ H → g (.int (lo + i * c)) σ H fun σ2 H2 => tb { D with nx := Pv (i + 1), ct := Pv (i + 1), bk := D.nx } σ2 H2) (hd : ∀ σ H, Pv n σ H → D.nx σ H) : ForIt (Itc lo c n) g tb D σ H := for_rangeC Pv h0 hs hd
theorem forL (xs : List V) (Pv : Nat → St → Hp → Prop) (h0 : Pv 0 σ H) (hl : ∀ i σ H, i ≤ xs.length → Pv i σ H → SqL K H a xs)
    (hs : ∀ i x σ H, xs[i]? = some x → Pv i σ H → g x σ H fun σ2 H2 => tb { D with nx := Pv (i + 1), ct := Pv (i + 1), bk := D.nx } σ2 H2) (hd : ∀ σ H, Pv xs.length σ H → D.nx σ H) : ForIt (Itl K a) g tb D σ H := for_list Pv h0 hl hs hd
theorem forI (ns : List Int) (Pv : Nat → St → Hp → Prop) (h0 : Pv 0 σ H) (hl : ∀ i σ H, Pv i σ H → SqL K H a (ns.map V.int))
    (hs : ∀ i (x : Int) σ H, ns[i]? = some x → Pv i σ H → g (.int x) σ H fun σ2 H2 => tb { D with nx := Pv (i + 1), ct := Pv (i + 1), bk := D.nx } σ2 H2) (hd : ∀ σ H, Pv ns.length σ H → D.nx σ H) : ForIt (Itl K a) g tb D σ H := by
  refine forL (ns.map V.int) Pv h0 (fun i σ H _ h => hl i σ H h) (fun i v σ H hv p => ?_) (fun σ H p => hd σ H (by rw [List.length_map] at p; exact p))
  rw [List.getElem?_map] at hv
  cases z : ns[i]? with
  | none => rw [z] at hv; cases hv
  | some x =>
    rw [z] at hv
    cases hv
    exact hs i x σ H z p
end
theorem whB {c : TT} {tb : TS} {D : Ends} {σ : St} {H : Hp} (W : Nat → St → Hp → Prop) (m : Nat) (h0 : W m σ H) (hs : ∀ m σ H, W m σ H →
    c σ H fun b H1 => if b = true then ∃ N : St → Hp → Prop, (∀ σ' H', N σ' H' → ∃ m', m' < m ∧ W m' σ' H') ∧ tb { D with nx := N, ct := N, bk := D.nx } σ H1 else D.nx σ H1) : tWhile c tb D σ H := ⟨W, ⟨m, h0⟩, hs⟩
theorem Same.up {H H' : Hp} (g : Same H H') {p : Addr} (hp : H p = none) (o : HO) : Same H (upd H' p o) := fun b u q => by rw [upd_ne (ne_of_none q hp)]; exact g b u q
theorem joinB {t : TS} {D : Ends} {σ : St} {H : Hp} (R : St → Hp → Prop) (h : t { D with nx := R } σ H) (hR : ∀ σ' H', R σ' H' → D.nx σ' H') : tJoin t D σ H := ⟨R, hR, h⟩
theorem sc_ii {a b : Int} : scal (.int a) (.int b) = true := rfl
theorem sc_bb {a b : Bool} : scal (.bl a) (.bl b) = true := rfl
theorem sc_in {a : Int} : scal (.int a) .non = true := rfl
theorem sc_ni {a : Int} : scal .non (.int a) = true := rfl
theorem sc_ss {a b : Str} : scal (.str a) (.str b) = true := rfl
theorem sc_nn : scal .non .non = true := rfl
theorem sc_bn {a : Bool} : scal (.bl a) .non = true := rfl
theorem sc_is {a : Int} {b : Str} : scal (.int a) (.str b) = true := rfl
theorem kit_int_int (K : PySem.W.Frag) : PySem.W.kitOne K (.type "int") (.type "int") = some true := by unfold PySem.W.kitOne; rw [if_pos (by decide)]
theorem kit_int_bool (K : PySem.W.Frag) : PySem.W.kitOne K (.type "int") (.type "bool") = some false := by unfold PySem.W.kitOne; rw [if_neg (by decide)]; kernel_rfl
theorem kit_int_str (K : PySem.W.Frag) : PySem.W.kitOne K (.type "int") (.type "str") = some false := by unfold PySem.W.kitOne; rw [if_neg (by decide)]; kernel_rfl
theorem kit_int_list (K : PySem.W.Frag) : PySem.W.kitOne K (.type "int") (.type "list") = some false := by unfold PySem.W.kitOne; rw [if_neg (by decide)]; kernel_rfl
theorem kit_int_tuple (K : PySem.W.Frag) : PySem.W.kitOne K (.type "int") (.type "tuple") = some false := by unfold PySem.W.kitOne; rw [if_neg (by decide)]; kernel_rfl
theorem kit_int_dict (K : PySem.W.Frag) : PySem.W.kitOne K (.type "int") (.type "dict") = some false := by unfold PySem.W.kitOne; rw [if_neg (by decide)]; kernel_rfl
theorem kit_bool_int (K : PySem.W.Frag) : PySem.W.kitOne K (.type "bool") (.type "int") = some true := by unfold PySem.W.kitOne; rw [if_neg (by decide)]; kernel_rfl
theorem kit_bool_bool (K : PySem.W.Frag) : PySem.W.kitOne K (.type "bool") (.type "bool") = some true := by unfold PySem.W.kitOne; rw [if_pos (by decide)]
theorem kit_bool_str (K : PySem.W.Frag) : PySem.W.kitOne K (.type "bool") (.type "str") = some false := by unfold PySem.W.kitOne; rw [if_neg (by decide)]; kernel_rfl
theorem kit_bool_list (K : PySem.W.Frag) : PySem.W.kitOne K (.type "bool") (.type "list") = some false := by unfold PySem.W.kitOne; rw [if_neg (by decide)]; kernel_rfl
theorem kit_bool_tuple (K : PySem.W.Frag) : PySem.W.kitOne K (.type "bool") (.type "tuple") = some false := by unfold PySem.W.kitOne; rw [if_neg (by decide)]; kernel_rfl
theorem kit_bool_dict (K : PySem.W.Frag) : PySem.W.kitOne K (.type "bool") (.type "dict") = some false := by unfold PySem.W.kitOne; rw [if_neg (by decide)]; kernel_rfl
theorem kit_NoneType_int (K : PySem.W.Frag) : PySem.W.kitOne K (.type "NoneType") (.type "int") = some false := by unfold PySem.W.kitOne; rw [if_neg (by decide)]; kernel_rfl
theorem kit_NoneType_bool (K : PySem.W.Frag) : PySem.W.kitOne K (.type "NoneType") (.type "bool") = some false := by unfold PySem.W.kitOne; rw [if_neg (by decide)]; kernel_rfl
theorem kit_NoneType_str (K : PySem.W.Frag) : PySem.W.kitOne K (.type "NoneType") (.type "str") = some false := by unfold PySem.W.kitOne; rw [if_neg (by decide)]; kernel_rfl
theorem kit_NoneType_list (K : PySem.W.Frag) : PySem.W.kitOne K (.type "NoneType") (.type "list") = some false := by unfold PySem.W.kitOne; rw [if_neg (by decide)]; kernel_rfl
theorem kit_NoneType_tuple (K : PySem.W.Frag) : PySem.W.kitOne K (.type "NoneType") (.type "tuple") = some false := by unfold PySem.W.kitOne; rw [if_neg (by decide)]; kernel_rfl
theorem kit_NoneType_dict (K : PySem.W.Frag) : PySem.W.kitOne K (.type "NoneType") (.type "dict") = some false := by unfold PySem.W.kitOne; rw [if_neg (by decide)]; kernel_rfl
theorem kit_str_int (K : PySem.W.Frag) : PySem.W.kitOne K (.type "str") (.type "int") = some false := by unfold PySem.W.kitOne; rw [if_neg (by decide)]; kernel_rfl
theorem kit_str_bool (K : PySem.W.Frag) : PySem.W.kitOne K (.type "str") (.type "bool") = some false := by unfold PySem.W.kitOne; rw [if_neg (by decide)]; kernel_rfl
theorem kit_str_str (K : PySem.W.Frag) : PySem.W.kitOne K (.type "str") (.type "str") = some true := by unfold PySem.W.kitOne; rw [if_pos (by decide)]
theorem kit_str_list (K : PySem.W.Frag) : PySem.W.kitOne K (.type "str") (.type "list") = some false := by unfold PySem.W.kitOne; rw [if_neg (by decide)]; kernel_rfl
theorem kit_str_tuple (K : PySem.W.Frag) : PySem.W.kitOne K (.type "str") (.type "tuple") = some false := by unfold PySem.W.kitOne; rw [if_neg (by decide)]; kernel_rfl
theorem kit_str_dict (K : PySem.W.Frag) : PySem.W.kitOne K (.type "str") (.type "dict") = some false := by unfold PySem.W.kitOne; rw [if_neg (by decide)]; kernel_rfl
abbrev bnames : List String := ["int", "bool", "str", "list", "tuple", "dict"]
def isiT (a b : String) : Option Bool := if b ∈ bnames then some (a == b || (a == "bool" && b == "int")) else none
theorem isi_int {K : PySem.W.Frag} {b : String} {v : Bool} (h : isiT "int" b = some v) : PySem.W.kitOne K (.type "int") (.type b) = some v := by
  unfold isiT at h
  split at h
  · rename_i z
    cases h
    simp only [bnames, List.mem_cons, List.not_mem_nil, or_false] at z
    rcases z with rfl | rfl | rfl | rfl | rfl | rfl
    · exact kit_int_int K
    · exact kit_int_bool K
    · exact kit_int_str K
    · exact kit_int_list K
    · exact kit_int_tuple K
    · exact kit_int_dict K
  · cases h
theorem isi_bool {K : PySem.W.Frag} {b : String} {v : Bool} (h : isiT "bool" b = some v) : PySem.W.kitOne K (.type "bool") (.type b) = some v := by
  unfold isiT at h
  split at h
  · rename_i z
    cases h
    simp only [bnames, List.mem_cons, List.not_mem_nil, or_false] at z
    rcases z with rfl | rfl | rfl | rfl | rfl | rfl
    · exact kit_bool_int K
    · exact kit_bool_bool K
    · exact kit_bool_str K
    · exact kit_bool_list K
    · exact kit_bool_tuple K
    · exact kit_bool_dict K
  · cases h
theorem isi_NoneType {K : PySem.W.Frag} {b : String} {v : Bool} (h : isiT "NoneType" b = some v) : PySem.W.kitOne K (.type "NoneType") (.type b) = some v := by
  unfold isiT at h
  split at h
  · rename_i z
    cases h
    simp only [bnames, List.mem_cons, List.not_mem_nil, or_false] at z
    rcases z with rfl | rfl | rfl | rfl | rfl | rfl
    · exact kit_NoneType_int K
    · exact kit_NoneType_bool K
    · exact kit_NoneType_str K
    · exact kit_NoneType_list K
    · exact kit_NoneType_tuple K
    · exact kit_NoneType_dict K
  · cases h
theorem isi_str {K : PySem.W.Frag} {b : String} {v : Bool} (h : isiT "str" b = some v) : PySem.W.kitOne K (.type "str") (.type b) = some v := by
  unfold isiT at h
  split at h
  · rename_i z
    cases h
    simp only [bnames, List.mem_cons, List.not_mem_nil, or_false] at z
    rcases z with rfl | rfl | rfl | rfl | rfl | rfl
    · exact kit_str_int K
    · exact kit_str_bool K
    · exact kit_str_str K
    · exact kit_str_list K
    · exact kit_str_tuple K
    · exact kit_str_dict K
  · cases h
def isiV : V → String → Option Bool
  | .int _, n => isiT "int" n
  | .bl _, n => isiT "bool" n
  | .non, n => isiT "NoneType" n
  | .str _, n => isiT "str" n
  | _, _ => none
def isiO : HO → String → Option Bool
  | .lst _, n => isiT "list" n
  | .tup _, n => isiT "tuple" n
  | .dK _, n => isiT "dict" n
  | _, _ => none
section
variable {X : Cx}
theorem call_isiS : CallR X (.builtin "isinstance") (fun xs H Q => ∃ x n, xs = [x, .ty n] ∧ ∃ b, isiV x n = some b ∧ Q (.bl b) H) := by
  intro pins s σ H xs us Q I r h
  obtain ⟨x, n, rfl, b, e, q⟩ := h
  refine call_isinst pins s σ H _ us Q I r ?_
  cases x with
  | int i => exact ⟨_, _, _, b, rfl, rfl, .int i, isi_int e, q⟩
  | bl i => exact ⟨_, _, _, b, rfl, rfl, .bl i, isi_bool e, q⟩
  | non => exact ⟨_, _, _, b, rfl, rfl, .non, isi_NoneType e, q⟩
  | str i => exact ⟨_, _, _, b, rfl, rfl, .str i, isi_str e, q⟩
  | _ => cases e
end
theorem isv_int_int {i : Int} : isiV (.int i) "int" = some true := (by decide : isiT "int" "int" = _)
theorem isv_int_bool {i : Int} : isiV (.int i) "bool" = some false := (by decide : isiT "int" "bool" = _)
theorem isv_int_str {i : Int} : isiV (.int i) "str" = some false := (by decide : isiT "int" "str" = _)
theorem isv_int_list {i : Int} : isiV (.int i) "list" = some false := (by decide : isiT "int" "list" = _)
theorem isv_int_tuple {i : Int} : isiV (.int i) "tuple" = some false := (by decide : isiT "int" "tuple" = _)
theorem isv_int_dict {i : Int} : isiV (.int i) "dict" = some false := (by decide : isiT "int" "dict" = _)
theorem isv_bool_int {i : Bool} : isiV (.bl i) "int" = some true := (by decide : isiT "bool" "int" = _)
theorem isv_bool_bool {i : Bool} : isiV (.bl i) "bool" = some true := (by decide : isiT "bool" "bool" = _)
theorem isv_bool_str {i : Bool} : isiV (.bl i) "str" = some false := (by decide : isiT "bool" "str" = _)
theorem isv_bool_list {i : Bool} : isiV (.bl i) "list" = some false := (by decide : isiT "bool" "list" = _)
theorem isv_bool_tuple {i : Bool} : isiV (.bl i) "tuple" = some false := (by decide : isiT "bool" "tuple" = _)
theorem isv_bool_dict {i : Bool} : isiV (.bl i) "dict" = some false := (by decide : isiT "bool" "dict" = _)
theorem isv_NoneType_int  : isiV (.non) "int" = some false := by decide
theorem isv_NoneType_bool  : isiV (.non) "bool" = some false := by decide
theorem isv_NoneType_str  : isiV (.non) "str" = some false := by decide
theorem isv_NoneType_list  : isiV (.non) "list" = some false := by decide
theorem isv_NoneType_tuple  : isiV (.non) "tuple" = some false := by decide
theorem isv_NoneType_dict  : isiV (.non) "dict" = some false := by decide
theorem isv_str_int {i : Str} : isiV (.str i) "int" = some false := (by decide : isiT "str" "int" = _)
theorem isv_str_bool {i : Str} : isiV (.str i) "bool" = some false := (by decide : isiT "str" "bool" = _)
theorem isv_str_str {i : Str} : isiV (.str i) "str" = some true := (by decide : isiT "str" "str" = _)
theorem isv_str_list {i : Str} : isiV (.str i) "list" = some false := (by decide : isiT "str" "list" = _)
theorem isv_str_tuple {i : Str} : isiV (.str i) "tuple" = some false := (by decide : isiT "str" "tuple" = _)
theorem isv_str_dict {i : Str} : isiV (.str i) "dict" = some false := (by decide : isiT "str" "dict" = _)
theorem iso_list_int {xs : List V} : isiO (.lst xs) "int" = some false := (by decide : isiT "list" "int" = _)
theorem iso_list_bool {xs : List V} : isiO (.lst xs) "bool" = some false := (by decide : isiT "list" "bool" = _)
theorem iso_list_str {xs : List V} : isiO (.lst xs) "str" = some false := (by decide : isiT "list" "str" = _)
theorem iso_list_list {xs : List V} : isiO (.lst xs) "list" = some true := (by decide : isiT "list" "list" = _)
theorem iso_list_tuple {xs : List V} : isiO (.lst xs) "tuple" = some false := (by decide : isiT "list" "tuple" = _)
theorem iso_list_dict {xs : List V} : isiO (.lst xs) "dict" = some false := (by decide : isiT "list" "dict" = _)
theorem iso_tuple_int {xs : List V} : isiO (.tup xs) "int" = some false := (by decide : isiT "tuple" "int" = _)
theorem iso_tuple_bool {xs : List V} : isiO (.tup xs) "bool" = some false := (by decide : isiT "tuple" "bool" = _)
theorem iso_tuple_str {xs : List V} : isiO (.tup xs) "str" = some false := (by decide : isiT "tuple" "str" = _)
theorem iso_tuple_list {xs : List V} : isiO (.tup xs) "list" = some false := (by decide : isiT "tuple" "list" = _)
theorem iso_tuple_tuple {xs : List V} : isiO (.tup xs) "tuple" = some true := (by decide : isiT "tuple" "tuple" = _)
theorem iso_tuple_dict {xs : List V} : isiO (.tup xs) "dict" = some false := (by decide : isiT "tuple" "dict" = _)
theorem iso_dict_int {xs : List (Key × V)} : isiO (.dK xs) "int" = some false := (by decide : isiT "dict" "int" = _)
theorem iso_dict_bool {xs : List (Key × V)} : isiO (.dK xs) "bool" = some false := (by decide : isiT "dict" "bool" = _)
theorem iso_dict_str {xs : List (Key × V)} : isiO (.dK xs) "str" = some false := (by decide : isiT "dict" "str" = _)
theorem iso_dict_list {xs : List (Key × V)} : isiO (.dK xs) "list" = some false := (by decide : isiT "dict" "list" = _)
theorem iso_dict_tuple {xs : List (Key × V)} : isiO (.dK xs) "tuple" = some false := (by decide : isiT "dict" "tuple" = _)
theorem iso_dict_dict {xs : List (Key × V)} : isiO (.dK xs) "dict" = some true := (by decide : isiT "dict" "dict" = _)
end L2
namespace L2
open PySem PySem.Spec PyProof.Rows
def CompIt (J : It) (caps : List Nat) (tt : TT) (te : TE) (σ : St) (H : Hp) (Q : VK) : Prop := ∃ (n : Nat) (W : Nat → List V → Hp → Prop), n ≤ sizeLine ∧ W 0 [] H ∧ ∀ i ys H2, W i ys H2 →
  (J.stop i H2 ∧ ∀ p, H2 p = none → Q (.ref p) (upd H2 p (.lst ys))) ∨
  (J.go i H2 ∧ i < n ∧ ∀ x H3, J.yld i H2 x H3 → tt (some x :: capV caps σ) H3 fun b H4 => if b = true then te (some x :: capV caps σ) H4 fun v H5 => W (i + 1) (ys ++ [v]) H5 else W (i + 1) ys H4)
theorem w_comp {caps : List Nat} {wi : TI} {tt : TT} {te : TE} {σ : St} {H : Hp} {Q : VK} : tComp caps wi tt te σ H Q = wi σ H fun J H1 => CompIt J caps tt te σ H1 Q := rfl
section
variable {lo : Int} {n : Nat} {K : PySem.W.Frag} {a : Addr} {caps : List Nat} {tt : TT} {te : TE} {σ : St} {H : Hp} {Q : VK}
theorem compR (Pv : Nat → List V → Hp → Prop) (hn : n ≤ sizeLine) (h0 : Pv 0 [] H)
    (hs : ∀ i ys H, i < n → Pv i ys H → tt (some (.int (lo + i)) :: capV caps σ) H fun b H4 => if b = true then te (some (.int (lo + i)) :: capV caps σ) H4 fun v H5 => Pv (i + 1) (ys ++ [v]) H5 else Pv (i + 1) ys H4)
    (hd : ∀ ys H, Pv n ys H → ∀ p, H p = none → Q (.ref p) (upd H p (.lst ys))) : CompIt (Itr lo n) caps tt te σ H Q := by
  refine ⟨n, fun i ys H => i ≤ n ∧ Pv i ys H, hn, ⟨Nat.zero_le _, h0⟩, ?_⟩
  rintro i ys H2 ⟨hi, p⟩
  by_cases hlt : i < n
  · refine .inr ⟨hlt, hlt, ?_⟩
    rintro x H3 ⟨rfl, rfl⟩
    have key := hs i ys H3 hlt p
    have e1 : ∀ H5 zs, Pv (i + 1) zs H5 → i + 1 ≤ n ∧ Pv (i + 1) zs H5 := fun _ _ h => ⟨hlt, h⟩
    have e2 : (fun (b : Bool) (H4 : Hp) => if b = true then te (some (.int (lo + i)) :: capV caps σ) H4 fun v H5 => Pv (i + 1) (ys ++ [v]) H5 else Pv (i + 1) ys H4) = fun b H4 => if b = true then te (some (.int (lo + i)) :: capV caps σ) H4 fun v H5 => i + 1 ≤ n ∧ Pv (i + 1) (ys ++ [v]) H5 else i + 1 ≤ n ∧ Pv (i + 1) ys H4 := by
      funext b H4
      have z : i + 1 ≤ n := hlt
      simp only [z, true_and]
    rw [e2] at key
    exact key
  · have e : i = n := by omega
    subst e
    exact .inl ⟨Nat.le_refl _, hd ys H2 p⟩
theorem compI (ns : List Int) (Pv : Nat → List V → Hp → Prop) (hn : ns.length ≤ sizeLine) (h0 : Pv 0 [] H) (hl : ∀ i ys H, Pv i ys H → SqL K H a (ns.map V.int))
    (hs : ∀ i (x : Int) ys H, ns[i]? = some x → Pv i ys H → tt (some (.int x) :: capV caps σ) H fun b H4 => if b = true then te (some (.int x) :: capV caps σ) H4 fun v H5 => Pv (i + 1) (ys ++ [v]) H5 else Pv (i + 1) ys H4)
    (hd : ∀ ys H, Pv ns.length ys H → ∀ p, H p = none → Q (.ref p) (upd H p (.lst ys))) : CompIt (Itl K a) caps tt te σ H Q := by
  refine ⟨ns.length, fun i ys H => i ≤ ns.length ∧ Pv i ys H, hn, ⟨Nat.zero_le _, h0⟩, ?_⟩
  rintro i ys H2 ⟨hi, p⟩
  have hS := hl i ys H2 p
  by_cases hlt : i < ns.length
  · obtain ⟨x, hx⟩ : ∃ x, ns[i]? = some x := ⟨ns[i], List.getElem?_eq_getElem hlt⟩
    have hv : (ns.map V.int)[i]? = some (.int x) := by rw [List.getElem?_map, hx]; rfl
    refine .inr ⟨⟨_, _, hS, hv⟩, hlt, ?_⟩
    rintro y H3 ⟨rfl, hy⟩
    have hxy : y = .int x := (Option.some.inj (hv.symm.trans (hy _ hS))).symm
    subst hxy
    have key := hs i x ys H3 hx p
    have e2 : (fun (b : Bool) (H4 : Hp) => if b = true then te (some (.int x) :: capV caps σ) H4 fun v H5 => Pv (i + 1) (ys ++ [v]) H5 else Pv (i + 1) ys H4) = fun b H4 => if b = true then te (some (.int x) :: capV caps σ) H4 fun v H5 => i + 1 ≤ ns.length ∧ Pv (i + 1) (ys ++ [v]) H5 else i + 1 ≤ ns.length ∧ Pv (i + 1) ys H4 := by
      funext b H4
      have z : i + 1 ≤ ns.length := hlt
      simp only [z, true_and]
    rw [e2] at key
    exact key
  · have e : i = ns.length := by omega
    subst e
    exact .inl ⟨⟨_, hS, by rw [List.length_map]; exact Nat.le_refl _⟩, hd ys H2 p⟩
end
theorem cx_K {CX : CXT} {P : Program} {w : World} {K : PySem.W.Frag} {mg : Str → Option Value} {base : Heap} {N : List Str} {qual : Str} {scope : Scope} {f : Addr} {cd : Value} {A : Around} {outer : List Env} {s : Shared} {H : Hp} {E : XK} : (cxOf CX P w K mg base N qual scope f cd A outer s H E).K = K := rfl
theorem cc_K {X : Cx} {N : List Str} {scope : Scope} {cl : List (Str × Addr)} {C : Addr} {s : Shared} {H : Hp} {fp : List Addr} : (compCx X N scope cl C s H fp).K = X.K := rfl
end L2
namespace Rv
open PySem PySem.Spec PyProof.Rows
theorem lri_nolen : typeLookup (.type "list_reverseiterator") "__len__" = pure none := by rw [typeLookup_type, builtinLookup_eq_fast]; kernel_rfl
theorem lri_hint : typeLookup (.type "list_reverseiterator") "__length_hint__" = pure (some (.builtin "list_reverseiterator.__length_hint__")) := by rw [typeLookup_type, builtinLookup_eq_fast]; kernel_rfl
section
variable {prog : Program} {w : World} {A : Around} {E : Value → Shared → Prop} {s : Shared}
theorem hint_rev {it l : Addr} {i : Int} {Q : Bool → Shared → Prop} (hit : s.heap.IsRevIter it l i) (h : Q false s) : wpAny (model prog w) A (Builtin.List.listLengthHint (.ref it)) Q E s := by
  unfold Builtin.List.listLengthHint
  refine wpAny_bind (wpAny_specialOf hit.typeIs lri_nolen ?_)
  wp_delta
  refine wpAny_bind (wpAny_specialOf hit.typeIs lri_hint ?_)
  wp_delta
  refine wpAny_bind (wpAny_isInstance (T := "list_reverseiterator") (b := true) hit.typeIs (by rw [isSubtype_type]; kernel_rfl) ?_)
  exact wpAny_pure h
theorem extend_rev {R : Result → Shared → Prop} {it l : Addr} {items : Array Value} (hh : A.handled = none) (hit : s.heap.IsRevIter it l ((items.size : Int) - 1)) (hl : s.heap.IsList l items) (hli : l ≠ it) (hz : items.size ≤ sizeLine)
    (S : Addr) (hSi : S ≠ it) (hSl : S ≠ l) (res : Value) (c₀ : Nat) (hS : s.heap.get? S = some { cls := .type "list", data := .seq #[] c₀ })
    (hR : ∀ h' tk acc' c', (∀ b o, b ≠ S → b ≠ it → s.heap.get? b = some o → h'.get? b = some o) → h'.get? S = some { cls := .type "list", dict := none, data := .seq acc' c', slots := #[] } →
      ItemsOf (fun i v => items[items.size - 1 - i]? = some v) acc' items.size → R (.ok (.ret res)) { s with heap := h', toks := tk }) :
    wpAny (model prog w) A.in1 (Builtin.List.listExtendWith (.ref S) (.ref it) res)
      (fun fin s' => match fin with | .done f => R (.ok f) s' | .again c' => c'.quiet = true ∧ codeAny (model prog w) A c' R s') (fun e s' => R (.error e) s') s := by
  have hSf : S ∉ [it, l] := fun hm => by
    simp only [List.mem_cons, List.not_mem_nil, or_false] at hm
    rcases hm with z | z
    · exact hSi z
    · exact hSl z
  have W := (Walks.listRev (prog := prog) (w := w) (A := A.in1) hh it l hli items).toS
  unfold Builtin.List.listExtendWith
  refine wpAny_bind (wpAny_typeOf (T := "list_reverseiterator") hit.typeIs ?_)
  have h1 : Builtin.List.listSameRef (.ref S) (.ref it) = false := by simp [Builtin.List.listSameRef, hSi]
  have h2 : (Value.type "list_reverseiterator" == Value.type "list") = false := by decide
  have h3 : (Value.type "list_reverseiterator" == Value.type "tuple") = false := by decide
  simp only [h1, h2, h3, Bool.or_false, Bool.false_eq_true, if_false]
  refine wpAny_bind (wpAny_pyIter_revIter hit ?_)
  refine wpAny_bind (wpAny_holding (hint_rev hit ?_))
  rw [if_neg (by decide)]
  refine wpAny_pure ⟨plainId_quiet F.plain_extend_loop _, codeAny_extend_loopS W hz _ hSf _ items.size 0 _ _ _ rfl (Nat.zero_le _) ⟨Nat.zero_le _, by simpa using hit, hl⟩ hS (ItemsOf.nil _) fun s' acc' c' hm hS' hacc => ?_⟩
  rw [Moved.eq_with hm]
  refine hR s'.heap s'.toks acc' c' (fun b ob hb hb2 e => hm.heap b ob (fun hmem => ?_) e) hS' hacc
  rcases List.mem_cons.mp hmem with e' | hmem
  · exact hb e'
  · exact hb2 (List.mem_singleton.mp hmem)
theorem init_rev {R : Result → Shared → Prop} {it l : Addr} {items : Array Value} (hh : A.handled = none) (hit : s.heap.IsRevIter it l ((items.size : Int) - 1)) (hl : s.heap.IsList l items) (hli : l ≠ it) (hz : items.size ≤ sizeLine)
    (S : Addr) (hSi : S ≠ it) (hSl : S ≠ l) (hS : s.heap.get? S = some { cls := .type "list", data := .seq #[] })
    (hR : ∀ h' tk acc' c', (∀ b o, b ≠ S → b ≠ it → s.heap.get? b = some o → h'.get? b = some o) → h'.get? S = some { cls := .type "list", dict := none, data := .seq acc' c', slots := #[] } →
      ItemsOf (fun i v => items[items.size - 1 - i]? = some v) acc' items.size → R (.ok (.ret .none)) { s with heap := h', toks := tk }) :
    wpAny (model prog w) A.in1 (Builtin.«list.__init__» ⟨[.ref S, .ref it], []⟩)
      (fun fin s' => match fin with | .done f => R (.ok f) s' | .again c' => c'.quiet = true ∧ codeAny (model prog w) A c' R s') (fun e s' => R (.error e) s') s := by
  show wpAny _ _ (do let old ← Builtin.List.listItems (.ref S); Builtin.List.listUpdate (.ref S) (fun _ => #[]); letGo old.toList.reverse; Builtin.List.listExtendWith (.ref S) (.ref it) .none) _ _ s
  refine wpAny_bind ?_
  unfold Builtin.List.listItems
  refine wpAny_bind (wpAny_seqItems hS rfl (wpAny_pure ?_))
  show wpAny _ _ (updateSeq S (fun _ => #[]) >>= fun _ => letGo (#[] : Array Value).toList.reverse >>= fun _ => Builtin.List.listExtendWith (.ref S) (.ref it) .none) _ _ s
  refine wpAny_bind (wpAny_updateSeq hS rfl ?_)
  have hS₂ := Heap.get?_update_self (Obj.mapSeq (fun _ => (#[] : Array Value))) hS rfl
  have oth : ∀ b o, b ≠ S → s.heap.get? b = some o → (s.heap.update S (Obj.mapSeq (fun _ => (#[] : Array Value)))).get? b = some o :=
    fun b o hb e => (Heap.get?_update_other _ _ (Ne.symm hb)).trans e
  refine wpAny_bind (wpAny_letGo ?_)
  refine extend_rev hh (hit.at fun o e => oth it o (Ne.symm hSi) e) (hl.at fun o e => oth l o (Ne.symm hSl) e) hli hz S hSi hSl .none _ hS₂ fun h' tk acc' c' hk hS' hacc => ?_
  exact hR h' tk acc' c' (fun b o hb hb2 e => hk b o hb hb2 (oth b o hb e)) hS' hacc
end
section
variable {prog : Program} {w : World} {A : Around} {E : Value → Shared → Prop} {s : Shared}
theorem call_list_rev {Q : Value → Shared → Prop} {it l : Addr} {items : Array Value} (hh : A.handled = none) (hit : s.heap.IsRevIter it l ((items.size : Int) - 1)) (hl : s.heap.IsList l items) (hli : l ≠ it) (hz : items.size ≤ sizeLine)
    (hQ : ∀ h' tk acc' c', (∀ b o, b ≠ it → s.heap.get? b = some o → h'.get? b = some o) →
      h'.get? s.heap.objs.size = some { cls := .type "list", dict := none, data := .seq acc' c', slots := #[] } → ItemsOf (fun i v => items[items.size - 1 - i]? = some v) acc' items.size → Q (.ref s.heap.objs.size) { s with heap := h', toks := tk }) :
    wpAny (model prog w) A (call (.type "list") [.ref it]) Q E s := by
  refine callType_codes (Q₁ := fun obj s₁ => obj = .ref s.heap.objs.size ∧ s₁ = { s with heap := s.heap.push { cls := .type "list", data := .seq #[] } }) F.called_list (F.typeCall_list_1 _) F.entry_list_init
    (code_list_new _ ⟨rfl, rfl⟩) fun obj s₁ h₁ => ?_
  obtain ⟨rfl, rfl⟩ := h₁
  have hS : (s.heap.push { cls := .type "list", data := .seq #[] }).get? s.heap.objs.size = some { cls := .type "list", data := .seq #[] } := Heap.get?_push_size _ rfl
  obtain ⟨o1, ho1, _⟩ := id hit
  obtain ⟨o2, ho2, _⟩ := id hl
  refine ⟨⟨_, hS, rfl⟩, F.args_list_init_2 _ _, init_rev (A := A.in1) hh (hit.at fun o e => Heap.get?_push_of_some _ e) (hl.at fun o e => Heap.get?_push_of_some _ e) hli hz _ (Nat.ne_of_gt (Heap.lt_size ho1)) (Nat.ne_of_gt (Heap.lt_size ho2)) hS fun h' tk acc' c' hk hS' hacc => ?_⟩
  exact ⟨rfl, hQ h' tk acc' c' (fun b o hb e => hk b o (Nat.ne_of_lt (Heap.lt_size e)) hb (Heap.get?_push_of_some _ e)) hS' hacc⟩
end
end Rv
namespace L2
open PySem PySem.Spec PyProof.Rows
def Itv (K : PySem.W.Frag) (a : Addr) (n : Nat) : It :=
  ⟨fun i H => i < n ∧ ∃ xs, SqL K H a xs ∧ xs.length = n, fun i H x H' => H' = H ∧ ∀ xs, SqL K H a xs → xs[n - 1 - i]? = some x, fun i _ => n ≤ i⟩
theorem turn_rev {P : Program} {w : World} {K : PySem.W.Frag} {tg : Expr} (a it : Addr) (n : Nat) : Turn P w K tg (Itv K a n) [it] it (fun i h => i ≤ n ∧ h.IsRevIter it a ((n : Int) - 1 - (i : Int))) where
  mem := by simp
  obj := fun i h st b hb => by
    have e : b = it := by simpa using hb
    subst e
    obtain ⟨_, o, e, c, d⟩ := st
    exact ⟨o, e, fun v z => by rw [d] at z; cases z⟩
  keep := fun i h h' st k => ⟨st.1, st.2.at fun o e => k it (by simp) o e⟩
  item := by
    intro X hP hw hK hc i pins s σ H E I hf st hg
    subst hP hw hK
    obtain ⟨hi, xs, hq, hn⟩ := hg
    obtain ⟨its, rv, p, hz⟩ := I.list hq
    have hlt : n - 1 - i < xs.length := by omega
    have hx : xs[n - 1 - i]? = some xs[n - 1 - i] := List.getElem?_eq_getElem hlt
    obtain ⟨u, hu, ru⟩ := rv.get hx
    obtain ⟨f0, f1, f2, f3, f4, f5⟩ := hf it (by simp)
    have st2 := st.2
    rw [show (n : Int) - 1 - (i : Int) = ((n - 1 - i : Nat) : Int) by omega] at st2
    refine wpAny_pyNext_rev_item st2 p.isList (x := u) (by simpa using hu) fun h' st' sb => ?_
    have I1 : Inv X pins σ H { s with heap := h' } := I.turned (t' := s.toks) (fun b o hb e => (sb.2 b hb).trans e) f0 f1 f3 f4 f5
    rw [show ((n - 1 - i : Nat) : Int) - 1 = (n : Int) - 1 - ((i + 1 : Nat) : Int) by omega] at st'
    obtain ⟨o, e, c, d⟩ := id st'
    exact ⟨u, rfl, go_of (s := { s with heap := h' }) e c d (by decide) ⟨_, H, I1, ru, ⟨rfl, fun ys hy => by rw [I.list_inj hy hq]; exact hx⟩, ⟨hi, st'⟩, fun b hb => (hf b hb).1⟩⟩
  done := by
    intro X hP hw hK hc i pins s σ H E I hf st hg
    subst hP hw hK
    obtain ⟨f0, f1, f2, f3, f4, f5⟩ := hf it (by simp)
    have hg' : n ≤ i := hg
    have st2 := st.2
    rw [show (n : Int) - 1 - (i : Int) = -1 by have := st.1; omega] at st2
    exact wpAny_pyNext_rev_end (I.ok.hd hc) st2 fun h' eb => ⟨rfl, I.turned (t' := s.toks) (fun b o hb e => eb b o hb e) f0 f1 f3 f4 f5⟩
  self := fun _ _ _ _ _ st h => wpAny_pyIter_revIter st.2 h
section
variable {X : Cx} {tg e : Expr} {te : TE} {p p2 pos pos2 : Pos}
theorem ev_rev {pins : List (Addr × Obj)} {σ : St} {H : Hp} {s : Shared} {R : Addr → List V → Hp → Prop} (hg : Gl X "reversed") (hm : X.mg "reversed" = none) (he : PE X e te) (I : Inv X pins σ H s)
    (h : te σ H fun x H1 => ∃ a xs, x = .ref a ∧ SqL X.K H1 a xs ∧ R a xs H1)
    (hs : starEach [e] X.env = (false, eval e X.env) :: starEach [] X.env := by rfl) :
    wpAny (model X.prog X.w) X.A (eval (.Call (.Name "reversed" p) [e] [] pos) X.env) (fun v s1 => ∃ it a xs H1, v = .ref it ∧ Inv X pins σ H1 s1 ∧ s1.heap.IsRevIter it a ((xs.length : Int) - 1) ∧ FpOk X pins H1 it ∧ SqL X.K H1 a xs ∧ a ≠ it ∧ R a xs H1) X.xe s := by
  refine wpAny_Call_Name_kw (ld_blt I hg hm bt_reversed ?_ (by decide) (by decide))
  refine PyProof.Rows.callWith_type1 (thn (pa_cons he pa_nil hs pos pins s σ H (fun vs H1 => ∃ a xs, vs = [.ref a] ∧ SqL X.K H1 a xs ∧ R a xs H1) I ?_) fun us s1 ⟨vs, H1, I1, r1, q1⟩ => ?_) hs rfl
  · show te σ H _
    have e2 : (fun x H1 => tNil σ H1 fun xs H2 => (fun vs H1 => ∃ a ys, vs = [V.ref a] ∧ SqL X.K H1 a ys ∧ R a ys H1) (x :: xs) H2) = fun x H1 => ∃ a xs, x = V.ref a ∧ SqL X.K H1 a xs ∧ R a xs H1 := by
      funext x H1
      simp only [tNil, List.cons.injEq, and_true]
    have := h
    rw [← e2] at this
    exact this
  · obtain ⟨a, xs, rfl, hq, hR⟩ := q1
    obtain ⟨u, rfl, ru⟩ := vals1 r1
    cases ru
    obtain ⟨its, rv, pl, hz⟩ := I1.list hq
    refine call_reversed_list pl.isList ?_
    have hl := rv.length
    obtain ⟨o, ho, _⟩ := id pl.isList
    refine ⟨s1.heap.objs.size, a, xs, H1, rfl, I1.kept (t' := s1.toks) fun b o e => Heap.get?_push_of_some _ e, ⟨_, Heap.get?_push_size _ rfl, rfl, ?_⟩, I1.fpOk (Nat.le_refl _) (I1.hok.fresh (Nat.le_refl _)), hq, Nat.ne_of_lt (Heap.lt_size ho), hR⟩
    simp only [revObj, List.size_toArray]
    rw [← hl]
def iRev (K : PySem.W.Frag) (tl : TE) : TI := fun σ H R => tl σ H fun x H1 => ∃ a xs, x = .ref a ∧ SqL K H1 a xs ∧ R (Itv K a xs.length) H1
theorem pi_rev (hg : Gl X "reversed") (hm : X.mg "reversed" = none) (he : PE X e te) (hs : starEach [e] X.env = (false, eval e X.env) :: starEach [] X.env := by rfl) : PI X tg (.Call (.Name "reversed" p) [e] [] pos) (iRev X.K te) := by
  intro pins s σ H R I h
  refine thn (ev_rev hg hm he I h hs) fun v s1 ⟨it, a, xs, H1, hv, I1, hit, hf, hq, hne, hR⟩ => ?_
  subst hv
  refine wpAny_pyIter_revIter hit ?_
  refine ⟨it, [it], _, _, H1, rfl, I1, turn_rev a it xs.length, ⟨Nat.zero_le _, by simpa using hit⟩, fun b hb => ?_, hR⟩
  have e : b = it := by simpa using hb
  subst e
  exact hf
def tListRev (K : PySem.W.Frag) (te : TE) : TE := fun σ H Q => te σ H fun x H1 => ∃ a xs, x = .ref a ∧ SqL K H1 a xs ∧ ∀ l, H1 l = none → Q (.ref l) (upd H1 l (.lst xs.reverse))
theorem pe_listRev (hc : X.calm = true) (hgl : Gl X "list") (hml : X.mg "list" = none) (hg : Gl X "reversed") (hm : X.mg "reversed" = none) (he : PE X e te)
    (hs : starEach [e] X.env = (false, eval e X.env) :: starEach [] X.env := by rfl)
    (hs2 : starEach [.Call (.Name "reversed" p) [e] [] pos] X.env = (false, eval (.Call (.Name "reversed" p) [e] [] pos) X.env) :: starEach [] X.env := by rfl) :
    PE X (.Call (.Name "list" p2) [.Call (.Name "reversed" p) [e] [] pos] [] pos2) (tListRev X.K te) := by
  intro pins s σ H Q I h
  refine wpAny_Call_Name_kw (ld_blt I hgl hml bt_list ?_ (by decide) (by decide))
  refine PyProof.Rows.callWith_type1 ?_ hs2 rfl
  rw [hs2]
  show wpAny _ _ (spliced ((false, eval (.Call (.Name "reversed" p) [e] [] pos) X.env) :: backTo pos2 (starEach [] X.env))) _ _ s
  refine Calls.spliced_cons (thn (ev_rev hg hm he I h hs) fun v s1 ⟨it, a, xs, H1, hv, I1, hit, hf, hq, hne, hR⟩ => ?_)
  subst hv
  refine Calls.spliced_nil ?_
  obtain ⟨its, rv, pl, hz⟩ := I1.list hq
  have hl := rv.length
  refine Rv.call_list_rev (items := its.toArray) (I1.ok.hd hc) (by rw [List.size_toArray, ← hl]; exact hit) pl.isList hne (by rw [List.size_toArray, ← hl]; exact hz) fun h' tk acc' c' kp hS hacc => ?_
  obtain ⟨f0, f1, f2, f3, f4, f5⟩ := hf
  have rr : Vals xs.reverse acc'.toList := by
    have e : acc'.toList = its.reverse := by
      obtain ⟨sz, all⟩ := hacc
      have sz' : acc'.size = its.length := sz.trans (by simp)
      refine List.ext_getElem (by rw [Array.length_toList, List.length_reverse, sz']) fun j h1 h2 => ?_
      have h1' : j < acc'.size := by rwa [Array.length_toList] at h1
      have := all j acc'[j] (Array.getElem?_eq_getElem h1')
      simp only [List.size_toArray, List.getElem?_toArray] at this
      rw [List.getElem_reverse, Array.getElem_toList]
      have h3 : its.length - 1 - j < its.length := by omega
      rw [List.getElem?_eq_getElem h3] at this
      exact (Option.some.inj this).symm
    rw [e]
    exact rv.reverse
  have hnone : H1 s1.heap.objs.size = none := I1.hok.fresh (Nat.le_refl _)
  refine ⟨.ref s1.heap.objs.size, upd H1 s1.heap.objs.size (.lst xs.reverse), ?_, rfl, hR _ hnone⟩
  have nit : ∀ b, b ∉ [it] → b ≠ it := fun b hb z => hb (List.mem_singleton.mpr z)
  have lts : ∀ b o, s1.heap.get? b = some o → b ≠ s1.heap.objs.size := fun b o e => Nat.ne_of_lt (Heap.lt_size e)
  have un : Un (frs X.stack) [it] H1 (upd H1 s1.heap.objs.size (.lst xs.reverse)) s1.heap h' :=
    ⟨fun b o e _ _ hx => kp b o (nit b hx) e, fun b o e _ _ hx => ⟨o.slots, kp b o (nit b hx) e⟩, fun b o e n _ => by rw [upd_ne (lts b o e)]; exact n, fun b o e hx => ⟨o, kp b o (nit b hx) e⟩,
      fun b zs e => by rw [upd_ne (ne_of_none e hnone)]; exact e, fun b o u e => by rw [upd_ne (ne_of_none e hnone)]; exact e, fun b ps e => ⟨#[], by rw [upd_ne (ne_of_none e hnone), e]; simp⟩⟩
  have hit0 : ∀ b o, H1 b = some o → b ≠ it := fun b o e => ne_of_none e f0
  have hok : HOk X.prog X.w (upd H1 s1.heap.objs.size (.lst xs.reverse)) h' := fun b o e => by
    by_cases hb : b = s1.heap.objs.size
    · subst hb
      rw [upd_same] at e
      cases e
      exact ⟨by rw [List.length_reverse]; exact hz, acc'.toList, c', rr, by simpa using hS⟩
    · rw [upd_ne hb] at e
      have q : ObjOk X.prog X.w H1 s1.heap b o := I1.hok b o e
      refine q.stay (fun c u hc e' => kp c u ?_ e') (fun c e' => ?_) fun c zs e' => ?_
      · rcases hc with hc | hc
        · rw [hc]; exact hit0 b o e
        · exact hit0 c _ hc
      · rw [upd_ne (ne_of_none e' hnone)]; exact e'
      · rw [upd_ne (ne_of_none e' hnone)]; exact e'
  exact I1.call' (s' := { s1 with heap := h', toks := tk }) (ch := [it]) rfl un hok I1.bare fun b hb => by
    rw [List.mem_singleton.mp hb]
    exact ⟨f3, f1, f4, f5⟩
end
theorem forV {K : PySem.W.Frag} {a : Addr} {g : TG} {tb : TS} {D : Ends} {σ : St} {H : Hp} (ns : List Int) (Pv : Nat → St → Hp → Prop) {n : Nat} (hn : n = ns.length) (h0 : Pv 0 σ H) (hl : ∀ i σ H, Pv i σ H → SqL K H a (ns.map V.int))
    (hs : ∀ i (x : Int) σ H, ns.reverse[i]? = some x → Pv i σ H → g (.int x) σ H fun σ2 H2 => tb { D with nx := Pv (i + 1), ct := Pv (i + 1), bk := D.nx } σ2 H2) (hd : ∀ σ H, Pv ns.length σ H → D.nx σ H) : ForIt (Itv K a n) g tb D σ H := by
  subst hn
  refine ⟨fun i m σ H => m = ns.length - i ∧ i ≤ ns.length ∧ Pv i σ H, ⟨ns.length, by simp, Nat.zero_le _, h0⟩, ?_⟩
  rintro i m σ H ⟨rfl, hi, p⟩
  have q := hl i σ H p
  by_cases hlt : i < ns.length
  · refine .inr ⟨⟨hlt, _, q, by simp⟩, Pv (i + 1), fun σ' H' p' => ⟨ns.length - (i + 1), by omega, rfl, hlt, p'⟩, fun x H' y => ?_⟩
    obtain ⟨e, y⟩ := y
    subst e
    have y' := y _ q
    rw [List.getElem?_map] at y'
    have hr : ns.reverse[i]? = ns[ns.length - 1 - i]? := List.getElem?_reverse hlt
    cases z : ns[ns.length - 1 - i]? with
    | none => rw [z] at y'; cases y'
    | some v =>
      rw [z] at y'
      cases y'
      exact hs i v σ _ (hr.trans z) p
  · have e : i = ns.length := by omega
    subst e
    exact .inl ⟨Nat.le_refl _, hd σ H p⟩
theorem cut_from {α : Type} (f : α → V) (xs : List α) {k : Int} (hk : 0 ≤ k) : cutV (xs.map f) (some k) none = (xs.drop k.toNat).map f := by
  obtain ⟨n, rfl⟩ : ∃ n : Nat, k = (n : Int) := ⟨k.toNat, by omega⟩
  unfold cutV
  rw [HT.sIx_none, HT.sIx_nat, Int.toNat_natCast, List.map_drop]
  rcases Nat.le_total n (xs.map f).length with h | h
  · rw [Nat.min_eq_left h, List.take_of_length_le (by rw [List.length_drop]; exact Nat.le_refl _)]
  · rw [Nat.min_eq_right h, List.drop_of_length_le (Nat.le_refl _), List.drop_of_length_le h]
    simp
theorem newH {H H1 : Hp} {p : Addr} {o : HO} (e : upd H p o = H1) (n : H p = none) : Same H H1 ∧ H1 p = some o := by
  subst e
  exact ⟨same_new n o, upd_same⟩
theorem w_tyl {K : PySem.W.Frag} {p : Addr} {H : Hp} : tyV K "list" (.ref p) H = ∃ xs, SqL K H p xs := by
  unfold tyV
  simp
section
variable {K : PySem.W.Frag} {H : Hp} {a b : Addr} {ns ms : List Int} {Q : VK}
theorem eqv_il : PyData.eqv (.list (ns.map PyData.int)) (.list (ms.map PyData.int)) = decide (ns = ms) := by
  rw [← eqvAll_ints]
  simp only [PyData.eqv]
theorem canLay_ints : ∀ ns : List Int, PyData.canLayAll0 (ns.map PyData.int) = true
  | [] => by simp [PyData.canLayAll0]
  | n :: r => by simp [PyData.canLayAll0, PyData.canLay0, canLay_ints r]
theorem depth_ints : ∀ ns : List Int, PyData.depthAll (ns.map PyData.int) = 0
  | [] => by simp [PyData.depthAll]
  | n :: r => by simp [PyData.depthAll, PyData.depth, depth_ints r]
theorem shaped_l (ns : List Int) : SeqAt.shaped (.list (ns.map PyData.int)) = true := by
  unfold SeqAt.shaped
  simp [PyData.canLay0, PyData.depth, canLay_ints, depth_ints]
theorem neL (h : SqL K H a (ns.map V.int)) (h' : SqL K H b (ms.map V.int)) (q : Q (.bl (!decide (ns = ms))) H) : rEqD K true (.ref a) (.ref b) H Q := by
  refine ⟨_, _, .lst h (DatVs.ints ns), .lst h' (DatVs.ints ms), shaped_l ns, shaped_l ms, ?_⟩
  rw [if_pos rfl, eqv_il]
  exact q
end
theorem seqI {t u : TS} {D : Ends} {σ : St} {H : Hp} (h : t { D with nx := u D } σ H) : tSeq t u D σ H := h
section
variable {X : Cx}
end
end L2
namespace Ul
open PySem PySem.Spec PyProof.Rows
section
variable {prog : Program} {w : World} {A : Around} {E : Value → Shared → Prop}
theorem draw_list {it l : Addr} {items : Array Value} (hne : l ≠ it) : ∀ (n i : Nat) (s : Shared) (Q : List Value → Shared → Prop), s.heap.IsListIter it l i → s.heap.IsList l items → i + n ≤ items.size →
    (∀ h', h'.IsListIter it l (i + n) → Heap.SameBut it s.heap h' → Q ((items.toList.drop i).take n) { s with heap := h' }) → wpAny (model prog w) A (draw (.ref it) n) Q E s
  | 0, i, s, Q, hit, _, _, hQ => by
    show wpAny _ _ (pure []) Q E s
    exact wpAny_pure (by simpa using hQ s.heap hit (Heap.SameBut.refl ..))
  | n + 1, i, s, Q, hit, ht, hle, hQ => by
    have hlt : i < items.size := by omega
    show wpAny _ _ (pyNext (.ref it) >>= _) Q E s
    refine wpAny_bind (wpAny_pyNext_list_item hit ht (x := items[i]) (by simp [hlt]) fun h₁ hit₁ hs₁ => ?_)
    refine wpAny_bind (wpAny_holding (draw_list hne n (i + 1) _ _ hit₁ (ht.at fun o e => (hs₁.2 l hne).trans e) (by omega) fun h₂ hit₂ hs₂ => wpAny_pure ?_))
    have hd : items.toList.drop i = items[i] :: items.toList.drop (i + 1) := by simp [List.drop_eq_getElem_cons, hlt]
    have := hQ h₂ (by rw [show i + (n + 1) = i + 1 + n by omega]; exact hit₂) (hs₁.trans hs₂)
    rw [hd, List.take_succ_cons] at this
    exact this
variable {s : Shared}
theorem unpackItems_list {l : Addr} {items : Array Value} {Q : List Value → Shared → Prop} (hh : A.handled = none) (ht : s.heap.IsList l items)
    (hQ : ∀ h', Heap.ExtBut s.heap.objs.size s.heap h' → Q items.toList { s with heap := h' }) : wpAny (model prog w) A (unpackItems (.ref l) items.size none) Q E s := by
  have hlt : l ≠ s.heap.objs.size := by obtain ⟨o, ho, _⟩ := id ht; exact Nat.ne_of_lt (Heap.lt_size ho)
  unfold unpackItems
  refine wpAny_bind ?_
  · unfold notIterableAtAll
    refine wpAny_bind (wpAny_specialOf ht.typeIs PySem.slot_list_iter.lookup ?_)
    refine wpAny_pure ?_
    simp only [Bool.false_eq_true, if_false]
    refine wpAny_bind (wpAny_holding (wpAny_pyIter_list ht ?_))
    refine wpAny_bind (wpAny_holding (draw_list hlt items.size 0 _ _ ⟨_, Heap.get?_push_size _ rfl, rfl, rfl⟩ (ht.at fun o e => Heap.get?_push_of_some _ e) (by omega) fun h₁ hit₁ hs₁ => ?_))
    have hall : List.take items.size (List.drop 0 items.toList) = items.toList := by
      rw [List.drop_zero]; exact List.take_of_length_le (by simp)
    rw [hall]
    rw [if_neg (by simp)]
    have ht₁ : h₁.IsList l items := (ht.at (h' := s.heap.push _) fun o e => Heap.get?_push_of_some _ e).at fun o e => (hs₁.2 l hlt).trans e
    refine wpAny_bind (wpAny_holding (wpAny_pyNext_list_end hh hit₁ ht₁ (by simp) fun h₂ he₂ => ?_))
    simp only [Option.isSome_none, Bool.false_eq_true, if_false]
    refine wpAny_pure (hQ h₂ fun b o hb e => he₂ b o hb (hs₁.extBut b o hb (Heap.get?_push_of_some _ e)))
theorem assign_Tuple_list {env : Env} {elts : List Expr} {x1} {pos : Pos} {l : Addr} {items : Array Value} {Q : Unit → Shared → Prop} (hh : A.handled = none) (ht : s.heap.IsList l items)
    (hn : (assignEach elts env).length = items.size) (hstar : (assignEach elts env).findIdx? (·.1) = none)
    (h : ∀ h', Heap.ExtBut s.heap.objs.size s.heap h' → wpAny (model prog w) A (assignInOrder ((assignEach elts env).map (·.2)) items.toList) Q E { s with heap := h' }) :
    wpAny (model prog w) A (assign (.Tuple elts x1 pos) env (.ref l)) Q E s := by
  rw [assign_Tuple]
  refine wpAny_bind (wpAny_standAt ?_)
  unfold unpack
  rw [hn, hstar]
  exact wpAny_bind (wpAny_holding (unpackItems_list hh ht h))
end
end Ul
namespace L2
open PySem PySem.Spec PyProof.Rows
section
variable {X : Cx} {pos : Pos}
def gLst (K : PySem.W.Frag) (n : Nat) (t : TGs) : TG := fun v σ H Q => ∃ a xs, v = .ref a ∧ SqL K H a xs ∧ xs.length = n ∧ t xs σ H Q
theorem pg_lst {es : List Expr} {k : Nat} {t : TGs} {n : Nat} (hc : X.calm = true) (h : PGs X es t)
    (hn : (assignEach es X.env).length = n := by rfl) (hst : (assignEach es X.env).findIdx? (·.1) = none := by rfl) : PG X (.Tuple es k pos) (gLst X.K n t) := by
  intro pins s σ H v u Q I r hw
  obtain ⟨a, xs, e1, hq, hl, hw⟩ := hw
  subst e1
  cases r
  obtain ⟨its, rv, ht, hz⟩ := I.list hq
  refine Ul.assign_Tuple_list (I.ok.hd hc) ht.isList (by simp [hn, ← hl, rv.length]) hst fun h' hx => ?_
  have I1 : Inv X pins σ H { s with heap := h' } := I.kept (t' := s.toks) fun b o e => hx b o (Nat.ne_of_lt (Heap.lt_size e)) e
  exact h pins _ σ H xs _ Q I1 (by simpa using rv) hw
theorem hu1 {n : Nat} (h : n + 64 < cLine) : n + 1 < cLine := by omega
end
end L2
namespace L2
open PySem PySem.Spec PyProof.Rows
def CXE (P : Program) (w : World) : CXT := fun outer H s E e s' => ∃ (ea t : Addr) (C : Value) (vs : List Value) (B : Heap) (H' : Hp), e = .ref ea ∧ s'.os = s.os ∧ AllBare s'.gens ∧ Heap.FlyingW B outer ea C (.ref t) s'.heap ∧ s'.heap.TupAt t vs ∧ B.get? t = none ∧
  HOk P w H' B ∧ (∀ b o, s.heap.get? b = some o → H b = none → b ∉ frs outer → B.get? b = some o) ∧ (∀ b o, s.heap.get? b = some o → b ∉ frs outer → ∃ o', B.get? b = some o') ∧ Un (frs outer) [] H H' s.heap s'.heap ∧ E C none H'
section
variable {X : Cx} {pins : List (Addr × Obj)} {σ : St} {H H1 : Hp} {s s1 : Shared}
theorem frs_cons {env : Env} {L : Addr} {l : List Env} (h : env.frame = some L) {b : Addr} : b ∈ frs (env :: l) ↔ b = L ∨ b ∈ frs l := by
  unfold frs
  rw [List.filterMap_cons, h]
  exact List.mem_cons
theorem Inv.old (I : Inv X pins σ H s) {b : Addr} {o : Obj} (e : X.s₀.heap.get? b = some o) : b ≠ X.env.locals := fun z => by
  have h1 : @LT.lt Nat instLTNat b X.s₀.heap.objs.size := Heap.lt_size e
  have h2 : @LE.le Nat _ X.s₀.heap.objs.size X.env.locals := I.ok.above
  have z' : @Eq Nat b X.env.locals := z
  omega
theorem hid_ok {fs : List Addr} (I : Inv X pins σ H s) (hf : ∀ b ∈ fs, H b = none) : HOk X.prog X.w H (PySem.W.hideAll s.heap fs) := fun a o e => by
  have q : ObjOk X.prog X.w H s.heap a o := I.hok a o e
  refine q.stay (fun c u hc e' => PySem.W.hideAll_get _ e' fun z => ?_) (fun c e' => e') fun c zs e' => e'
  have h0 := hf c z
  rcases hc with hc | hc
  · rw [hc, e] at h0; cases h0
  · rw [hc] at h0; cases h0
theorem thr {M : Model} {h' : Heap} {ea : Addr} {C : Value} {vs : List Value} {E : XK} {EE : Value → Shared → Prop} (hst : X.stack = X.env :: X.outer) (hfr : X.env.frame = some X.env.locals) (hex : X.ex = []) (I : Inv X pins σ H s)
    (hx : Heap.MadeExcOf s.heap h' ea C vs) (hE : E C none H) :
    wpAny M X.A (leaving X.env (.ref ea)) (fun _ s'' => CXE X.prog X.w X.outer X.H₀ X.s₀ E (.ref ea) s'') EE { s with heap := h' } := by
  have hA : X.A.frames = some (X.env :: X.outer) := by rw [← hst]; exact I.ok.frames
  have fstk : ∀ b ∈ frs (X.env :: X.outer), H b = none := by rw [← hst]; exact I.stkFree
  have hfun : s.heap.FunFrames X.base (X.env :: X.outer) := by rw [← hst]; exact I.stack
  have hin : ∀ env ∈ (X.env :: X.outer), ∀ b, env.frame = some b → b ∈ frs (X.env :: X.outer) := fun env he b hb => List.mem_filterMap.mpr ⟨env, he, hb⟩
  refine wpAny_leaves_madeW (base := PySem.W.hideAll s.heap (frs (X.env :: X.outer))) hA hfr (fun b o q => PySem.W.of_hideAll _ q) (PySem.W.funFrames_hide hfun hin) hx fun h2 t fly tup tn up => ?_
  have u := I.base
  rw [hex] at u
  have keepB : ∀ b o, X.s₀.heap.get? b = some o → X.H₀ b = none → b ∉ frs X.outer → (PySem.W.hideAll s.heap (frs (X.env :: X.outer))).get? b = some o := fun b o e n nf => by
    refine PySem.W.hideAll_get _ (u.keep b o e n nf (by simp)) fun z => ?_
    rcases (frs_cons hfr).mp z with z | z
    · exact I.old e z
    · exact nf z
  have slots : ∀ b o, s.heap.get? b = some o → b ∈ frs (X.env :: X.outer) → ∃ sl, h2.get? b = some { o with slots := sl } := fun b o e hb => by
    obtain ⟨_, o', ho', hd⟩ := hfun.mem hb
    rw [e] at ho'
    cases ho'
    exact up b o (hx.keeps _ _ e) hd
  have thereB : ∀ b o, X.s₀.heap.get? b = some o → b ∉ frs X.outer → ∃ o', (PySem.W.hideAll s.heap (frs (X.env :: X.outer))).get? b = some o' := fun b o e nf => by
    obtain ⟨o', e1⟩ := u.there b o e (by simp)
    refine ⟨o', PySem.W.hideAll_get _ e1 fun z => ?_⟩
    rcases (frs_cons hfr).mp z with z | z
    · exact I.old e z
    · exact nf z
  refine ⟨ea, t, C, vs, _, H, rfl, I.os, I.bare, fly, tup, tn, hid_ok I fstk, keepB, thereB, ?_, hE⟩
  refine ⟨fun b o e n nf _ => fly.1 _ _ (keepB b o e n nf), fun b o e n hb _ => ?_, fun b o e n _ => u.free b o e n (by simp), fun b o e _ => ?_, u.tups, u.frzs, u.tbls⟩
  · obtain ⟨sl, e1⟩ := u.slot b o e n hb (by simp)
    obtain ⟨sl', e2⟩ := slots b _ e1 ((frs_cons hfr).mpr (.inr hb))
    exact ⟨sl', e2⟩
  · obtain ⟨o', e1⟩ := u.there b o e (by simp)
    by_cases hb : b ∈ frs (X.env :: X.outer)
    · obtain ⟨sl, e2⟩ := slots b _ e1 hb
      exact ⟨_, e2⟩
    · exact ⟨o', fly.1 _ _ (PySem.W.hideAll_get _ e1 hb)⟩
theorem pas {M : Model} {e : Value} {s' : Shared} {E : XK} {EE : Value → Shared → Prop} (hst : X.stack = X.env :: X.outer) (hfr : X.env.frame = some X.env.locals) (hex : X.ex = []) (I : Inv X pins σ H s)
    (hc : CXE X.prog X.w X.stack H s E e s') : wpAny M X.A (leaving X.env e) (fun _ s'' => CXE X.prog X.w X.outer X.H₀ X.s₀ E e s'') EE s' := by
  have hA : X.A.frames = some (X.env :: X.outer) := by rw [← hst]; exact I.ok.frames
  rw [hst] at hc
  obtain ⟨ea, t, C, vs, B, H', rfl, os, bare, fly, tup, tn, hok, kB, tB, un, hE⟩ := hc
  refine wpAny_leaves_onW hA hfr fly fun h2 fly2 up => ?_
  have u := I.base
  rw [hex] at u
  have n2 : ∀ b o, X.s₀.heap.get? b = some o → b ∉ frs X.outer → b ∉ frs (X.env :: X.outer) := fun b o e nf z => by
    rcases (frs_cons hfr).mp z with z | z
    · exact I.old e z
    · exact nf z
  have keepB : ∀ b o, X.s₀.heap.get? b = some o → X.H₀ b = none → b ∉ frs X.outer → B.get? b = some o := fun b o e n nf =>
    kB b o (u.keep b o e n nf (by simp)) (u.free b o e n (by simp)) (n2 b o e nf)
  have thereB : ∀ b o, X.s₀.heap.get? b = some o → b ∉ frs X.outer → ∃ o', B.get? b = some o' := fun b o e nf => by
    obtain ⟨o', e1⟩ := u.there b o e (by simp)
    exact tB b o' e1 (n2 b o e nf)
  have slots : ∀ b o, s'.heap.get? b = some o → b ∈ frs X.outer → ∃ sl, h2.get? b = some { o with slots := sl } := fun b o e hb => by
    obtain ⟨_, o', ho', hd⟩ := fly.2.2.1.mem (show b ∈ (X.env :: X.outer).filterMap (·.frame) from (frs_cons hfr).mpr (.inr hb))
    rw [e] at ho'
    cases ho'
    exact up b o e hd
  refine ⟨ea, t, C, vs, B, H', rfl, by rw [os]; exact I.os, bare, fly2, tup.of_slots up, tn, hok, keepB, thereB, ?_, hE⟩
  refine ⟨fun b o e n nf _ => fly2.1 _ _ (keepB b o e n nf), fun b o e n hb _ => ?_, fun b o e n _ => ?_, fun b o e _ => ?_, fun b zs e => un.tups b zs (u.tups b zs e), fun b o v e => un.frzs b o v (u.frzs b o v e), fun b ps e => ?_⟩
  · obtain ⟨sl, e1⟩ := u.slot b o e n hb (by simp)
    have n1 := u.free b o e n (by simp)
    obtain ⟨sl2, e2⟩ := un.slot b _ e1 n1 ((frs_cons hfr).mpr (.inr hb)) (by simp)
    obtain ⟨sl3, e3⟩ := slots b _ e2 hb
    exact ⟨sl3, e3⟩
  · have n1 := u.free b o e n (by simp)
    obtain ⟨o', e1⟩ := u.there b o e (by simp)
    exact un.free b o' e1 n1 (by simp)
  · obtain ⟨o', e1⟩ := u.there b o e (by simp)
    obtain ⟨o2, e2⟩ := un.there b o' e1 (by simp)
    by_cases hb : b ∈ frs X.outer
    · obtain ⟨sl, e3⟩ := slots b _ e2 hb
      exact ⟨_, e3⟩
    · obtain ⟨o3, e3⟩ := thereB b o e hb
      exact ⟨o3, fly2.1 _ _ e3⟩
  · obtain ⟨m1, e1⟩ := u.tbls b ps e
    obtain ⟨m2, e2⟩ := un.tbls b _ e1
    exact ⟨m1 ++ m2, by rw [e2, Array.append_assoc]⟩
end
abbrev bmV : List Value := [.type "ValueError", .type "Exception", .type "BaseException", .type "object"]
abbrev ExcK (K : PySem.W.Frag) (C : Addr) : Prop := PySem.W.excIn K C bmV "ValueError.__new__" = true
theorem own_at {K : PySem.W.Frag} {h : Heap} {mg : Str → Option Value} {x : Str} {C : Addr} (X : K.In h) (e : mg x = some (.ref C)) (q : ExcK K C) : OwnCls x C bmV "ValueError.__new__" mg h := by
  refine ⟨e, ?_⟩
  unfold ExcK PySem.W.excIn at q
  split at q
  · rename_i dd cd sl ho
    split at q
    · rename_i C' bm k0 k1 k2 k3 n k5 hm hs
      simp only [Bool.and_eq_true, beq_iff_eq, Bool.not_eq_true'] at q
      obtain ⟨⟨⟨⟨⟨rfl, rfl⟩, hdel⟩, ht⟩, hok⟩, hni⟩ := q
      obtain ⟨nm, bs, mro, ns, qn, hd, sn, sub, ab, col, del⟩ := cd
      dsimp only at hm hdel hok hni
      subst hm hdel
      have hsl : sl = #[k0, k1, k2, k3, some (.builtin "ValueError.__new__"), k5] := by
        obtain ⟨l⟩ := sl
        simp only at hs
        rw [hs]
      subst hsl
      exact ⟨bm, ns, nm, qn, bs, hd, sn, sub, ab, col, dd, k0, k1, k2, k3, k5, _, X _ _ ho, .of_isNs (PySem.W.isNs_of_in X hok), PySem.W.nsMap_none_of_in X hok hni, PySem.W.tail_of_in X ht⟩
    · cases q
  · cases q
def Thr (X : Cx) (E : XK) : Prop := ∀ (pins : List (Addr × Obj)) (σ : St) (H : Hp) (s : Shared) (h' : Heap) (ea : Addr) (C : Value) (vs : List Value), Inv X pins σ H s → Heap.MadeExcOf s.heap h' ea C vs → E C none H → X.xe (.ref ea) { s with heap := h' }
def tRaise (C : Addr) (E : XK) (ta : TA) : TS := fun _ σ H => ta σ H fun vs H1 => vs.length ≤ sizeLine ∧ E (.ref C) none H1
section
variable {X : Cx} {x : Str} {C : Addr} {np cpos pos : Pos} {e : Expr} {es : List Expr} {ta : TA} {E : XK}
theorem ps_raise (hT : Thr X E) (hc : X.calm = true) (hg : Gl X x) (hm : X.mg x = some (.ref C)) (q : ExcK X.K C) (ha : PA X (e :: es) ta)
    (he : starEach (e :: es) X.env = (false, eval e X.env) :: starEach es X.env := by rfl) (hpl : (backTo cpos (starEach es X.env)).any (·.1) = false := by rfl) (hdb : (x == ("__debug__" : Str)) = false := by decide) :
    PS X (.Raise (some (.Call (.Name x np) (e :: es) [] cpos)) none pos) (tRaise C E ta) := by
  intro pins s σ H D I h
  have O := own_at I.ok.mod.kin hm q
  obtain ⟨tl, N, nm, qq, bs, hdct, sn, sub, ab, col, dd, k0, k1, k2, k3, k5, mN, hC, hN, hni, T⟩ := O.obj
  refine wpAny_Raise_call_subT (C := C) (nm := nm) (q := qq) (N := N) (bs := bs) (bm := tl) (hdct := hdct) (sn := sn) (sub := sub) (ab := ab) (col := col) (dd := dd) (k0 := k0) (k1 := k1) (k2 := k2) (k3 := k3) (k5 := k5)
    PySem.F.excBase_ValueError (mN := mN) (T.hasType PySem.F.excBase_ValueError.hasBase) (I.ok.hd hc) (by rw [he]; show (false || (backTo cpos (starEach es X.env)).any (·.1)) = false; rw [hpl]; rfl) hni (ld_glob I hg hm ⟨rfl, ?_⟩ hdb)
  have ha' := ha cpos pins s σ H _ I h
  rw [he] at ha' ⊢
  exact Calls.evalArgs_plain (thn ha' fun us s2 ⟨vs, H1, I1, r, z, hE⟩ => ⟨rfl, by rw [← r.length]; exact z, I1.bk _ _ hC, hN.keeps I1.bk, T.keeps I1.bk, fun h' ea hx => hT pins σ H1 s2 h' ea _ us I1 hx hE⟩)
end
section
variable {P : Program} {w : World} {K : PySem.W.Frag} {mg : Str → Option Value} {base : Heap}
theorem Fun.okE {x qual : Str} {st : Stmt} {f : Addr} {fd : FuncData} {N ps : List Str} {k : Nat} {sp : Sp} (F : Fun K x qual st f fd) (S : FnScope N ps (defScope st)) (len : ∀ vs H Q E, sp vs H Q E → vs.length = ps.length)
    (hbody : ∀ (cdv : Value) (A : Around) (outer : List Env) (s : Shared) (H : Hp) (vs : List V) (Q : VK) (E : XK), Room k (A.deeper (envOfC qual (defScope st) s.heap.objs.size f cdv)) → sp vs H Q E →
      ∃ t, PSs (cxOf (CXE P w) P w K mg base N qual (defScope st) f cdv A outer s H E) (defBody st) t ∧ t { nx := fun _ H' => Q .non H', rt := Q } (start N vs) H) : FnOk P w K mg base (CXE P w) (k + 1) f fd ps sp := by
  obtain ⟨oc, od, kV, doc, pm, an, cdv, ct, osl, rfl, lk, hcd⟩ := F.ex
  refine fn_of lk hcd S len fun A outer s H vs Q E hr hsp => ?_
  obtain ⟨t, h, q⟩ := hbody cdv A outer s H vs Q E hr hsp
  exact ⟨t, h, q⟩
variable {N : List Str} {qual : Str} {scope : Scope} {f : Addr} {cd : Value} {A : Around} {outer : List Env} {s : Shared} {H : Hp} {E : XK}
theorem passE : Passes (CXE P w) (cxOf (CXE P w) P w K mg base N qual scope f cd A outer s H E) E := fun _ _ _ _ _ _ I hc => pas rfl rfl rfl I hc
theorem thrE : Thr (cxOf (CXE P w) P w K mg base N qual scope f cd A outer s H E) E := fun _ _ _ _ _ _ _ _ I hx hE => thr rfl rfl rfl I hx hE
end
structure DefE (P : Program) (w : World) (K : PySem.W.Frag) (mg : Str → Option Value) (base : Heap) (x : Str) (k : Nat) (ps : List Str) (sp : Sp) : Prop where
  ex : ∃ (f : Addr) (fd : FuncData), FnOk P w K mg base (CXE P w) k f fd ps sp ∧ Binds K fd ps [] ∧ PySem.W.keepIn K (.ref f) = true ∧ mg x = some (.ref f)
theorem defE_mk {P : Program} {w : World} {K : PySem.W.Frag} {mg : Str → Option Value} {base : Heap} {x qual : Str} {st : Stmt} {f : Addr} {fd : FuncData} {k : Nat} {ps : List Str} {sp : Sp} (F : Fun K x qual st f fd)
    (ok : FnOk P w K mg base (CXE P w) k f fd ps sp) (b : Binds K fd ps []) (m : mg x = some (.ref f)) : DefE P w K mg base x k ps sp := ⟨⟨f, fd, ok, b, F.kp, m⟩⟩
section
variable {X : Cx} {x : Str} {j k : Nat} {ps : List Str} {sp : Sp} {p pos : Pos} {e : Expr} {es : List Expr} {t : TA} {E : XK}
end
end L2
namespace L2
open PySem PySem.Spec PyProof.Rows
abbrev Cx.inTry (X : Cx) (E : Value → Shared → Prop) (pn : List (Addr × Obj)) : Cx := { X with xe := E, pn := pn }
abbrev Cx.inExc (X : Cx) (e : Value) : Cx := { X with A := X.A.mark (some e), calm := false, xe := fun _ _ => False }
section
variable {X : Cx} {pins pins' : List (Addr × Obj)} {σ : St} {H H1 H' : Hp} {s s1 s' : Shared} {E : Value → Shared → Prop}
theorem Inv.inTry (I : Inv X pins σ H s) (E : Value → Shared → Prop) : Inv (X.inTry E (X.pn ++ pins)) [] σ H s :=
  ⟨⟨I.ok.mod, I.ok.kind, I.ok.glob, I.ok.blt, I.ok.above, I.ok.inj, I.ok.has, I.ok.cab, I.ok.hd, I.ok.frames, I.ok.stk, I.ok.exf, I.ok.bs, I.ok.bsz, I.ok.noex, I.ok.exfs, I.ok.funs, I.ok.frf⟩, I.os, I.bare, I.base, I.loc, I.cell, I.free, I.freeC,
    fun p hp => I.pin p (by simpa using hp), I.hok, I.len⟩
theorem Inv.outTry (I : Inv (X.inTry E (X.pn ++ pins)) pins' σ H s) : Inv X pins σ H s :=
  ⟨⟨I.ok.mod, I.ok.kind, I.ok.glob, I.ok.blt, I.ok.above, I.ok.inj, I.ok.has, I.ok.cab, I.ok.hd, I.ok.frames, I.ok.stk, I.ok.exf, I.ok.bs, I.ok.bsz, I.ok.noex, I.ok.exfs, I.ok.funs, I.ok.frf⟩, I.os, I.bare, I.base, I.loc, I.cell, I.free, I.freeC,
    fun p hp => I.pin p (List.mem_append_left _ hp), I.hok, I.len⟩
theorem Inv.inExc (I : Inv X pins σ H s) (e : Value) : Inv (X.inExc e) pins σ H s :=
  ⟨⟨I.ok.mod, I.ok.kind, I.ok.glob, I.ok.blt, I.ok.above, I.ok.inj, I.ok.has, I.ok.cab, fun z => (by cases z), I.ok.frames, I.ok.stk, I.ok.exf, I.ok.bs, I.ok.bsz, I.ok.noex, I.ok.exfs, I.ok.funs, I.ok.frf⟩, I.os, I.bare, I.base, I.loc, I.cell, I.free, I.freeC,
    I.pin, I.hok, I.len⟩
theorem Inv.outExc {hd : X.calm = true → X.A.handled = none} {fr : X.A.frames = some X.stack} {e : Value} (I : Inv (X.inExc e) pins σ H s) : Inv X pins σ H s :=
  ⟨⟨I.ok.mod, I.ok.kind, I.ok.glob, I.ok.blt, I.ok.above, I.ok.inj, I.ok.has, I.ok.cab, hd, fr, I.ok.stk, I.ok.exf, I.ok.bs, I.ok.bsz, I.ok.noex, I.ok.exfs, I.ok.funs, I.ok.frf⟩, I.os, I.bare, I.base, I.loc, I.cell, I.free, I.freeC,
    I.pin, I.hok, I.len⟩
theorem land {ea t : Addr} {C : Value} {B h5 : Heap} (I : Inv X pins σ H1 s1) (os : s'.os = s1.os) (bare : AllBare s'.gens) (fly : Heap.FlyingW B X.stack ea C (.ref t) s'.heap) (stay : B.StaysIn h5) (up : s'.heap.UpToSlots h5)
    (hok : HOk X.prog X.w H' B) (kB : ∀ b o, s1.heap.get? b = some o → H1 b = none → b ∉ frs X.stack → B.get? b = some o) (tB : ∀ b o, s1.heap.get? b = some o → b ∉ frs X.stack → ∃ o', B.get? b = some o')
    (un : Un (frs X.stack) [] H1 H' s1.heap s'.heap) : Inv X pins σ H' { s' with heap := h5 } := by
  have slots : ∀ b o, s'.heap.get? b = some o → b ∈ frs X.stack → ∃ sl, h5.get? b = some { o with slots := sl } := fun b o e hb => by
    obtain ⟨_, o', ho', hd⟩ := fly.2.2.1.mem hb
    rw [e] at ho'
    cases ho'
    exact up b o e hd
  have un5 : Un (frs X.stack) [] H1 H' s1.heap h5 := by
    refine ⟨fun b o e n nf _ => stay _ _ (kB b o e n nf), fun b o e n hb _ => ?_, un.free, fun b o e _ => ?_, un.tups, un.frzs, un.tbls⟩
    · obtain ⟨sl, e1⟩ := un.slot b o e n hb (by simp)
      obtain ⟨sl2, e2⟩ := slots b _ e1 hb
      exact ⟨sl2, e2⟩
    · by_cases hb : b ∈ frs X.stack
      · obtain ⟨o', e1⟩ := un.there b o e (by simp)
        obtain ⟨sl, e2⟩ := slots b _ e1 hb
        exact ⟨_, e2⟩
      · obtain ⟨o', e1⟩ := tB b o e hb
        exact ⟨o', stay _ _ e1⟩
  exact I.call' (s' := { s' with heap := h5 }) (ch := []) os un5 (hok.kept stay) bare fun b hb => by cases hb
theorem typ_exc {M : Model} {h : Heap} {e : Addr} {o : Obj} {c : Value} (h1 : h.get? e = some o) (h2 : o.cls = c) : PySem.W.Looks M h (typeOf (.ref e)) c := by
  intro A Q E s k q
  unfold typeOf
  exact wpAny_bind (wpAny_loadPart (k _ _ h1) (wpAny_pure (by rw [h2]; exact q)))
def PassX (X : Cx) (EE : St → XK) : Prop := ∀ (pins : List (Addr × Obj)) (σ : St) (H : Hp) (s : Shared) (e : Value) (s' : Shared), Inv X pins σ H s → CXE X.prog X.w X.stack H s (EE σ) e s' → X.xe e s'
def tCallX (sp : Sp) (EE : St → XK) (t : TA) : TE := fun σ H Q => t σ H fun vs H1 => sp vs H1 Q (EE σ)
end
section
variable {X : Cx} {x : Str} {j k : Nat} {ps : List Str} {sp : Sp} {p pos : Pos} {e : Expr} {es : List Expr} {t : TA} {EE : St → XK}
end
section
variable {X : Cx} {body suite : List Stmt} {b₀ : Stmt} {D : Addr} {cx : Str} {np hpos pos : Pos} {tb : (St → XK) → TS} {ts : TS}
def tTry (K : PySem.W.Frag) (D : Addr) (tb : (St → XK) → TS) (ts : TS) : TS := fun En σ H => tb (fun σ1 C _ H1 => PySem.W.exmOne K C (.ref D) = some true ∧ ts En σ1 H1) En σ H
end
def clK (K : PySem.W.Frag) (x : Str) : Addr := match PySem.W.nsIn K mainGlobals x with
  | some (some (.ref C)) => C
  | _ => 0
theorem clK_of {K : PySem.W.Frag} {x : Str} {C : Addr} (h : PySem.W.nsIn K mainGlobals x = some (some (.ref C))) : clK K x = C := by
  unfold clK
  rw [h]
end L2
namespace Xc
open PySem PySem.W PySem.Spec PySem.Calls PyProof.Rows Builtin.ObjectAttr
structure ExcC (K : Frag) (C : Addr) : Prop where
  ga : findIn K (.ref C) "__getattribute__" = some (some (.builtin "BaseException.__getattribute__"))
  gh : findIn K (.ref C) "__getattr__" = some none
  ca : findIn K (.ref C) "__class__" = some (some (.builtin "object.__class__"))
  gg : specialIn K (.builtin "object.__class__") "__get__" = some (some (.builtin "getset_descriptor.__get__"))
  tk : takesIn K (.builtin "object.__class__") = some true
  mo : mroIn K C (.type "object") = some true
  mb : mroIn K C (.type "BaseException") = some true
  hd : hasDictIn K C = true
section
variable {prog : Program} {w : World} {A : Around} {E : Value → Shared → Prop} {s : Shared} {K : Frag} {x C : Addr} {ox : Obj} {odo : Option Obj}
theorem typ {M : Model} {h : Heap} (hx : h.get? x = some ox) (hc : ox.cls = .ref C) : Looks M h (typeOf (.ref x)) (.ref C) := hc ▸ (Looks.ld hx).andThen .now
theorem exc_found {M : Model} {h : Heap} (F : ExcC K C) (X : K.In h) : Looks M h (find (.ref x) (.ref C) "__class__") (.bind (.builtin "getset_descriptor.__get__") (.builtin "object.__class__")) := by
  have L1 := looks_findIn (M := M) X F.ca
  have L2 : Looks M h (getOf (some (.builtin "object.__class__"))) (some (.builtin "getset_descriptor.__get__")) := looks_specialIn X F.gg
  have L3 := looks_takesIn (M := M) X F.tk
  refine L1.andThen (L2.andThen ?_)
  exact (show Looks M h (dataDescriptor? (some (.builtin "object.__class__")) (some (.builtin "getset_descriptor.__get__"))) (some (.builtin "getset_descriptor.__get__", .builtin "object.__class__")) from L3.andThen .now).andThen (Looks.tag .now)
open Builtin Builtin.Getset_descriptor in
theorem exc_get {tp : Value} {R : Result → Shared → Prop} (X : K.In s.heap) (hx : s.heap.get? x = some ox) (hc : ox.cls = .ref C) (hm : mroIn K C (.type "object") = some true)
    (h : R (.ok (.ret (.ref C))) s) : codeAny (model prog w) A (.call (.builtin "getset_descriptor.__get__") ⟨[.builtin "object.__class__", .ref x, tp], []⟩) R s := by
  obtain ⟨hh, g, dr, t, os⟩ := s
  have L0 := typ (M := model prog w) hx hc
  have L1 := looks_mroIn (M := model prog w) X hm
  refine codeAny_call_builtin KF.slot_gs.plain KF.entry_gs (KF.slot_gs.check _ _ _ _ _ _ _ _ KF.type_class (KF.args_gs _ _ _) ?_)
  unfold Builtin.«getset_descriptor.__get__» descrGet
  rw [dga_obj]
  refine wpAny_bind (wpAny_pure ?_)
  unfold descrGetter descrCheckInstance descrNameAndClass isInstance
  simp only [KF.owner_class]
  repeat lk
  refine ⟨Code.quiet_builtin _ (by decide +kernel), codeAny_builtin KF.entry_class ?_⟩
  unfold Builtin.«object.__class__» shownTypeOf
  repeat lk
  exact h
theorem exc_check {nameV : Value} {Q : Unit → Shared → Prop} (F : ExcC K C) (X : K.In s.heap) (hx : s.heap.get? x = some ox) (hc : ox.cls = .ref C) (hq : Q () s) :
    wpAny (model prog w) A (checkBuiltinCall "BaseException.__getattribute__" ⟨[.ref x, nameV], []⟩) Q E s := by
  have hk : builtinKind "BaseException.__getattribute__" = some .slot := by decide +kernel
  have hsplit : splitId "BaseException.__getattribute__" = some ("BaseException", "__getattribute__") := by decide +kernel
  have LI : Looks (model prog w) s.heap (isInstance (.ref x) (.type "BaseException")) true := (typ (M := model prog w) hx hc).andThen (looks_mroIn X F.mb)
  have ha := PySem.F.args_bexc_ga (.ref x) nameV
  obtain ⟨hh, g, d, t, os⟩ := s
  simp only [checkBuiltinCall, hk, hsplit]
  refine wpAny_bind (LI.at ?_)
  repeat (first | assumption | wp_step)
  all_goals exact hq
theorem exc_entry {tk : Tok} {Q : Fin → Shared → Prop} (F : ExcC K C) (X : K.In s.heap) (hx : s.heap.get? x = some ox) (hc : ox.cls = .ref C) (hq : Q (.done (.ret (.ref C))) s) :
    wpAny (model prog w) A (Builtin.«object.__getattribute__» ⟨[.ref x, .str "__class__" tk], []⟩) Q E s := by
  have L0 := typ (M := model prog w) hx hc
  have L1 := exc_found (M := model prog w) (x := x) F X
  obtain ⟨hh, g, d, t, os⟩ := s
  unfold Builtin.«object.__getattribute__»
  refine wpAny_bind (wpAny_pure ?_)
  refine wpAny_bind (wpAny_pure ?_)
  refine wpAny_bind (L0.at ?_)
  refine wpAny_bind (L1.at ?_)
  show wpAny _ _ (holding [Value.builtin "object.__class__"] (call (.builtin "getset_descriptor.__get__") [.builtin "object.__class__", .ref x, .ref C]) >>= ret) _ _ _
  exact wpAny_bind (wpAny_holding (wpAny_call (exc_get X hx hc F.mo (wpAny_pure hq))))
theorem exc_class {Q : Option Value → Shared → Prop} (F : ExcC K C) (X : K.In s.heap) (hx : s.heap.get? x = some ox) (hc : ox.cls = .ref C) (h : Q (some (.ref C)) { s with toks := s.toks + 1 }) : wpAny (model prog w) A (getAttr? (.ref x) "__class__") Q E s := by
  have L0 := typ (M := model prog w) hx hc
  have L1 := looks_findIn (M := model prog w) X F.ga
  have L2 := looks_findIn (M := model prog w) X F.gh
  have B := PySem.F.attrBase_ValueError
  obtain ⟨hh, g, d, t, os⟩ := s
  unfold getAttr? getAttrBy? getAttrBy
  refine wpAny_bind (wpAny_mkText (wpAny_bind (wpAny_attempt (wpAny_holding (wpAny_bind (L0.at (wpAny_bind (L1.at ?_))))))))
  have hx2 : (Value.builtin "BaseException.__getattribute__" == Value.builtin "object.__getattribute__") = false := by decide +kernel
  have hx1 : (onTheHeap (Value.ref C) && Value.builtin "BaseException.__getattribute__" == Value.builtin "object.__getattribute__") = false := by rw [hx2]; rfl
  show wpAny _ _ (if (onTheHeap (Value.ref C) && Value.builtin "BaseException.__getattribute__" == Value.builtin "object.__getattribute__") = true then _ else getAttrByItsOwn (.ref x) _ (.ref C) (.builtin "BaseException.__getattribute__") false false) _ _ _
  rw [hx1, if_neg (by decide)]
  unfold getAttrByItsOwn
  refine wpAny_bind ?_
  show wpAny _ _ (typeLookup (.ref C) "__getattr__") _ _ _
  refine L2.at ?_
  refine wpAny_bind (wpAny_attempt (wpAny_holding ?_))
  show wpAny _ _ (boundAndCalled (.builtin "BaseException.__getattribute__") (.ref x) _) _ _ _
  unfold boundAndCalled
  refine wpAny_bind (wpAny_of_eq (B.ga.bind (.ref x)) ?_)
  refine wpAny_call (codeAny_call_builtin B.ga.plain PySem.F.entry_bexc_ga (exc_check F (s := ⟨hh, g, d, t + 1, os⟩) X hx hc (exc_entry F (s := ⟨hh, g, d, t + 1, os⟩) X hx hc ?_)))
  show wpAny _ _ (handedOut (.ref C)) _ _ _
  exact handed_on rfl (wpAny_pure h)
theorem kitx_exc (F : ExcC K C) : KitX K (.ref x) (.ref C) (fun h => ∃ ox, h.get? x = some ox ∧ ox.cls = .ref C) where
  ty := fun _ _ _ ⟨_, hx, hc⟩ => typ hx hc
  it := fun _ _ X _ => by
    obtain ⟨cdD, hcD, _⟩ := any_some F.hd
    unfold clsIn at hcD
    split at hcD
    · rename_i c' d' cd' sl' ho
      intro A' Q' E' s' k q
      unfold isType loadHead
      exact wpAny_bind (wpAny_loadPart (k _ _ (X _ _ ho)) (wpAny_pure q))
    · cases hcD
  ne := fun h tp dd its n sl X htp => by
    obtain ⟨cdD, hcD, _⟩ := any_some F.hd
    refine Bool.eq_false_iff.mpr fun q => ?_
    have e : C = tp := Value.ref.inj (beq_iff_eq.mp q)
    subst e
    unfold clsIn at hcD
    split at hcD
    · rename_i c' d' cd' sl' ho
      have z := (X _ _ ho).symm.trans htp
      cases z
    · cases hcD
  ca := fun X ⟨_, hx, hc⟩ k => exc_class F X hx hc k
end
end Xc
namespace L2
open PySem PySem.Spec PyProof.Rows
def ExcO (a C : Addr) : HO := .ext fun h => ∃ ox : Obj, h.get? a = some ox ∧ ox.cls = .ref C
section
variable {X : Cx} {pins : List (Addr × Obj)} {σ : St} {H H1 H' : Hp} {s s1 s' : Shared}
theorem objOk_there {P : Program} {w : World} {H : Hp} {h : Heap} {a : Addr} {o : HO} (x : ObjOk P w H h a o) : ∃ ob, h.get? a = some ob := by
  cases o with
  | lst xs => obtain ⟨_, _, _, _, e⟩ := x; exact ⟨_, e⟩
  | tup xs => obtain ⟨_, _, _, p⟩ := x; obtain ⟨o, e, _⟩ := p; exact ⟨o, e⟩
  | dK kvs => obtain ⟨_, _, _, _, o, _, _, e, _⟩ := x; exact ⟨_, e⟩
  | dT kvs => obtain ⟨_, _, _, _, o, _, _, e, _⟩ := x; exact ⟨_, e⟩
  | set S n => obtain ⟨o, _, _, _, e, _⟩ := x; exact ⟨_, e⟩
  | ins C dx fs => obtain ⟨_, _, _, e, _⟩ := x; exact ⟨_, e⟩
  | own y => obtain ⟨_, e⟩ := x; exact ⟨_, e⟩
  | xd fs => obtain ⟨_, ⟨_, _, _, e, _⟩, _⟩ := x; exact ⟨_, e⟩
  | rng lo hi => obtain ⟨_, _, _, e⟩ := x; exact ⟨_, e⟩
  | frz ob u => obtain ⟨e, _⟩ := x; exact ⟨_, e⟩
  | tbl ps => exact ⟨_, show h.get? a = some _ from x⟩
  | met f y => exact ⟨_, show h.get? a = some _ from x⟩
  | ext φ => obtain ⟨_, ⟨_, e⟩, _⟩ := x; exact ⟨_, e⟩
theorem landX {ea t Ca : Addr} {B h5 : Heap} (I : Inv X pins σ H1 s1) (os : s'.os = s1.os) (bare : AllBare s'.gens) (fly : Heap.FlyingW B X.stack ea (.ref Ca) (.ref t) s'.heap) (fly5 : Heap.FlyingW B X.stack ea (.ref Ca) (.ref t) h5) (up : s'.heap.UpToSlots h5)
    (hok : HOk X.prog X.w H' B) (kB : ∀ b o, s1.heap.get? b = some o → H1 b = none → b ∉ frs X.stack → B.get? b = some o) (tB : ∀ b o, s1.heap.get? b = some o → b ∉ frs X.stack → ∃ o', B.get? b = some o')
    (un : Un (frs X.stack) [] H1 H' s1.heap s'.heap) : H' ea = none ∧ Inv X pins σ (upd H' ea (ExcO ea Ca)) { s' with heap := h5 } := by
  have stay := fly5.1
  have hn : H' ea = none := by
    cases q : H' ea with
    | none => rfl
    | some o =>
      have h1 := (hok ea o q).lt
      obtain ⟨ob, hob⟩ : ∃ ob, B.get? ea = some ob := by
        have := hok ea o q
        exact objOk_there this
      rw [fly.2.1] at hob
      cases hob
  have new : ∀ b o, s1.heap.get? b = some o → b ≠ ea := fun b o e z => by
    subst z
    by_cases hb : b ∈ frs X.stack
    · obtain ⟨_, o', ho', hd⟩ := fly.2.2.1.mem hb
      obtain ⟨oe, vs, h1, _, h2, _⟩ := fly.first
      rw [h1] at ho'
      cases ho'
      exact hd _ h2
    · obtain ⟨o', e1⟩ := tB b o e hb
      rw [fly.2.1] at e1
      cases e1
  have slots : ∀ b o, s'.heap.get? b = some o → b ∈ frs X.stack → ∃ sl, h5.get? b = some { o with slots := sl } := fun b o e hb => by
    obtain ⟨_, o', ho', hd⟩ := fly.2.2.1.mem hb
    rw [e] at ho'
    cases ho'
    exact up b o e hd
  have un5 : Un (frs X.stack) [] H1 (upd H' ea (ExcO ea Ca)) s1.heap h5 := by
    refine ⟨fun b o e n nf _ => stay _ _ (kB b o e n nf), fun b o e n hb _ => ?_, fun b o e n hx => by rw [upd_ne (new b o e)]; exact un.free b o e n hx, fun b o e _ => ?_,
      fun b zs e => by have q := un.tups b zs e; rw [upd_ne (ne_of_none q hn)]; exact q, fun b o v e => by have q := un.frzs b o v e; rw [upd_ne (ne_of_none q hn)]; exact q, fun b ps e => ?_⟩
    · obtain ⟨sl, e1⟩ := un.slot b o e n hb (by simp)
      obtain ⟨sl2, e2⟩ := slots b _ e1 hb
      exact ⟨sl2, e2⟩
    · by_cases hb : b ∈ frs X.stack
      · obtain ⟨o', e1⟩ := un.there b o e (by simp)
        obtain ⟨sl, e2⟩ := slots b _ e1 hb
        exact ⟨_, e2⟩
      · obtain ⟨o', e1⟩ := tB b o e hb
        exact ⟨o', stay _ _ e1⟩
    · obtain ⟨more, q⟩ := un.tbls b ps e
      exact ⟨more, by rw [upd_ne (ne_of_none q hn)]; exact q⟩
  have hok5 : HOk X.prog X.w (upd H' ea (ExcO ea Ca)) h5 := fun a o e => by
    by_cases ha : a = ea
    · subst ha
      rw [upd_same] at e
      cases e
      obtain ⟨oe, vs, h1, h2, _⟩ := fly5.first
      exact ⟨⟨oe, h1, h2⟩, ⟨oe, h1⟩, fun h1 h2 ⟨ox, e1, e2⟩ k => ⟨ox, k ox e1, e2⟩⟩
    · rw [upd_ne ha] at e
      have q : ObjOk X.prog X.w H' B a o := hok a o e
      refine q.stay (fun c u hc e' => stay _ _ e') (fun c e' => ?_) fun c zs e' => ?_
      · rw [upd_ne (ne_of_none e' hn)]; exact e'
      · rw [upd_ne (ne_of_none e' hn)]; exact e'
  exact ⟨hn, I.call' (s' := { s' with heap := h5 }) (ch := []) os un5 hok5 bare fun b hb => by cases hb⟩
theorem del_ok {M : Model} {A : Around} {E : Value → Shared → Prop} {i : Nat} {x : Str} {pos : Pos} {Q : Unit → Shared → Prop} {v : V} (I : Inv X pins σ H s) (hN : X.N.Nodup) (hi : X.N[i]? = some x) (hk : X.env.scope.names.lookup x = some .local) (hv : σ[i]? = some (some v))
    (h : ∀ s', Inv X pins (σ.set i none) H s' → Q () s') : wpAny M A (unbindBehindTheSuite X.env x pos) Q E s := by
  obtain ⟨m, hn, hl⟩ := id I.loc
  have hcls : (X.env.scope.kind == .class || (X.env.scope.kind == .module && X.env.locals != X.env.globals)) = false := by rw [I.ok.kind]; rfl
  have hiσ : i < σ.length := by rw [I.len]; exact (List.getElem?_eq_some_iff.mp hi).1
  have cne := I.cne
  obtain ⟨u, _, lk⟩ := hl i x v hi hv (.inl hk)
  have hmx : m x = some u := by
    rcases lk with ⟨_, e⟩ | ⟨z, _⟩
    · exact e
    · have hk' : X.env.kindOf x = some .local := hk
      rw [hk'] at z
      rcases z with z | z <;> cases z
  have tracked : ∀ {a : Addr} {h' : Heap}, (∃ o, s.heap.get? a = some o ∧ H a = none) → Heap.SameBut a s.heap h' → HOk X.prog X.w H h' := fun {a h'} ha hs b ob e => by
    obtain ⟨_, _, hfree⟩ := ha
    refine (I.hok b ob e).stay (fun c w' hc q => (hs.2 c ?_).trans q) (fun _ q => q) fun _ _ q => q
    rintro rfl
    rcases hc with rfl | hc
    · rw [hfree] at e; cases e
    · rw [hfree] at hc; cases hc
  unfold unbindBehindTheSuite
  refine wpAny_onRaise (wpAny_unbindName_local hk hn hmx hcls fun h' u' hn' hs => ?_)
  obtain ⟨oL, _, _, hoL, _⟩ := id hn
  refine h _ ⟨I.ok, I.os, I.bare, ⟨fun b o e n hb hx => ?_, fun b o e n hb hx => ?_, I.base.free, fun b o e hx => ?_, I.base.tups, I.base.frzs, I.base.tbls⟩, ⟨_, hn', fun j y v' e1 e2 e3 => ?_⟩, fun y c e => ?_, I.free, I.freeC, fun p hp => ?_, tracked ⟨oL, hoL, I.free⟩ hs, by simpa using I.len⟩
  · exact (hs.2 b (Nat.ne_of_lt (Nat.lt_of_lt_of_le (Heap.lt_size e) I.ok.above))).trans (I.base.keep b o e n hb hx)
  · obtain ⟨sl, e1⟩ := I.base.slot b o e n hb hx
    exact ⟨sl, (hs.2 b (Nat.ne_of_lt (Nat.lt_of_lt_of_le (Heap.lt_size e) I.ok.above))).trans e1⟩
  · obtain ⟨o', e1⟩ := I.base.there b o e hx
    exact ⟨o', (hs.2 b (Nat.ne_of_lt (Nat.lt_of_lt_of_le (Heap.lt_size e) I.ok.above))).trans e1⟩
  · by_cases hj : j = i
    · subst hj
      rw [List.getElem?_set_self hiσ] at e2
      cases e2
    · rw [List.getElem?_set_ne (Ne.symm hj)] at e2
      obtain ⟨u2, r', q⟩ := hl j y v' e1 e2 e3
      refine ⟨u2, r', ?_⟩
      rcases q with ⟨k, e⟩ | ⟨k, c, e, z⟩
      · refine .inl ⟨k, ?_⟩
        have : y ≠ x := fun e => hj (nodup_ix hN e1 (e ▸ hi))
        simp [this, e]
      · exact .inr ⟨k, c, e, z.sameBut hs (cne y c e)⟩
  · obtain ⟨w', z⟩ := I.cell y c e
    exact ⟨w', z.sameBut hs (cne y c e)⟩
  · obtain ⟨e, n, ne, nf, d⟩ := I.pin p hp
    exact ⟨(hs.2 p.1 ne).trans e, n, ne, nf, d⟩
theorem call_isiX {K : PySem.W.Frag} (hK : X.K = K) : CallR X (.builtin "isinstance") (fun xs H Q => ∃ a y, xs = [.ref a, y] ∧ isCls y = true ∧ ∃ C, H a = some (ExcO a C) ∧ Xc.ExcC K C ∧ ∃ b, PySem.W.kitOne K (.ref C) (clsV y) = some b ∧ Q (.bl b) H) := by
  subst hK
  intro pins s σ H xs us Q I r h
  obtain ⟨a, y, rfl, hy, C, ho, F, b, e, q⟩ := h
  obtain ⟨u, w', rfl, rx, ry⟩ := vals2 r
  have ec : w' = clsV y := by
    cases y <;> first
      | (simp [isCls] at hy; done)
      | exact ry
  subst ec
  cases (show u = Value.ref a from rx)
  obtain ⟨⟨ox, h1, h2⟩, _⟩ := (show ObjOk X.prog X.w H s.heap a (ExcO a C) from I.hok a _ ho)
  exact PySem.W.kia_one (Xc.kitx_exc F) I.kIn ⟨ox, h1, h2⟩ e (fun z => nomatch z) fun tk => ⟨.bl b, H, I.tok tk, rfl, q⟩
end
section
variable {X : Cx} {body suite : List Stmt} {b₀ : Stmt} {D : Addr} {cx n : Str} {i : Nat} {np hpos pos : Pos} {tb : (St → XK) → TS} {ts : TS}
def Ends.gone (En : Ends) (i : Nat) : Ends := ⟨fun σ H => En.nx (σ.set i none) H, En.rt, fun σ H => En.bk (σ.set i none) H, fun σ H => En.ct (σ.set i none) H⟩
def tTryAs (K : PySem.W.Frag) (D : Addr) (i : Nat) (tb : (St → XK) → TS) (ts : TS) : TS := fun En σ H =>
  tb (fun σ1 C _ H1 => PySem.W.exmOne K C (.ref D) = some true ∧ ∃ Ca, C = .ref Ca ∧ ∀ ea, H1 ea = none → ts (En.gone i) (σ1.set i (some (.ref ea))) (upd H1 ea (ExcO ea Ca))) En σ H
theorem ps_tryAs (hst : X.stack = X.env :: X.outer) (hfr : X.env.frame = some X.env.locals) (hg : Gl X cx) (hm : X.mg cx = some (.ref D)) (hN : X.N.Nodup) (hi : X.N[i]? = some n) (hk : X.env.scope.names.lookup n = some .local)
    (hb : ∀ E pn EE, PassX (X.inTry E pn) EE → PSs (X.inTry E pn) body (tb EE)) (hs : ∀ e, PSs (X.inExc e) (b₀ :: suite) ts) (hdb : (cx == ("__debug__" : Str)) = false := by decide) :
    PS X (.Try body [.ExceptHandler (some (.Name cx np)) (some n) (b₀ :: suite) hpos] [] [] pos) (tTryAs X.K D i tb ts) := by
  intro pins s σ H En I h
  refine wpAny_Try_except (wpAny_mono (hb (fun e s₁ => wpAny (model X.prog X.w) X.A (noteFrame e X.env) (fun _ s₂ => wpAny (model X.prog X.w) X.A (setFlight e none) (fun _ s₃ =>
    wpAny (model X.prog X.w) X.A (handleBy e X.env [.ExceptHandler (some (.Name cx np)) (some n) (b₀ :: suite) hpos]) (SP X pins En) X.xe s₃) X.xe s₂) X.xe s₁) (X.pn ++ pins) _ ?_ [] s σ H En (I.inTry _) h) (fun f s1 hq => ?_) fun e s1 hq => hq)
  · intro pins' σ1 H1 s1 e s' I1 hc
    have J := I1.outTry
    obtain ⟨ea, t, C, vs, B, H', rfl, os, bare, fly, tup, tn, hok, kB, tB, un, hmt, Ca, rfl, hts⟩ := hc
    have fly' : Heap.FlyingW B (X.env :: X.outer) ea (.ref Ca) (.ref t) s'.heap := by rw [← hst]; exact fly
    refine wpAny_looks_onW (by rw [← hst]; exact I.ok.frames) hfr fly' fun h4 held4 up4 => ?_
    refine wpAny_landsW held4 fun h5 fly5 up5 => ?_
    have up := up4.trans up5
    have J5 : Inv X pins σ1 H' { s' with heap := h5 } := land J os bare fly fly5.1 up hok kB tB un
    obtain ⟨ob, hob, hobc⟩ := fly5.there
    refine wpAny_handleBy_cons (codeAny_handlers_test (ld_glob (J5.inExc (.ref ea)) hg hm ?_ hdb)) (by intro q; cases q)
    refine (PySem.W.exm_one J5.kIn (typ_exc hob hobc) hmt).at ?_
    refine codeAny_handlers_suite_as ?_
    refine lands_againW fly5 fun h6 fly6 up6 => ?_
    obtain ⟨hn, J6⟩ := landX J os bare fly (by rw [hst]; exact fly6) (up.trans up6) hok kB tB un
    refine store_ok (v := .ref ea) J6 hN hi (.inl hk) rfl (fun s6 J7 => ?_) (.inr hk)
    refine wpAny_mono (hs (.ref ea) pins s6 _ _ (En.gone i) (J7.inExc _) (hts ea hn)) (fun f s7 h7 => ?_) fun _ _ z => z.elim
    show wpAny _ X.A (do bindName X.env n .none; unbindBehindTheSuite X.env n hpos) (fun _ s₃ => SP X pins En f s₃) X.xe s7
    have fin : ∀ (σ7 : St) (H7 : Hp) (R : Shared → Prop), Inv (X.inExc (.ref ea)) pins σ7 H7 s7 → (∀ s8, Inv X pins (σ7.set i none) H7 s8 → R s8) → wpAny (model X.prog X.w) X.A (do bindName X.env n .none; unbindBehindTheSuite X.env n hpos) (fun _ s8 => R s8) X.xe s7 := fun σ7 H7 R I7 k => by
      have I8 := I7.outExc (hd := I.ok.hd) (fr := I.ok.frames)
      refine wpAny_bind (wpAny_bindName (store_ok (v := .non) I8 hN hi (.inl hk) rfl (fun s8 I9 => ?_) (.inr hk)))
      have hil : i < σ7.length := by rw [I8.len]; exact (List.getElem?_eq_some_iff.mp hi).1
      refine del_ok I9 hN hi hk (v := .non) (by rw [List.getElem?_set_self hil]) fun s9 I10 => k s9 ?_
      rw [List.set_set] at I10
      exact I10
    cases f with
    | next => obtain ⟨σ7, H7, I7, q7⟩ := h7; exact fin σ7 H7 _ I7 fun s8 I8 => ⟨_, H7, I8, q7⟩
    | brk => obtain ⟨σ7, H7, I7, q7⟩ := h7; exact fin σ7 H7 _ I7 fun s8 I8 => ⟨_, H7, I8, q7⟩
    | cont => obtain ⟨σ7, H7, I7, q7⟩ := h7; exact fin σ7 H7 _ I7 fun s8 I8 => ⟨_, H7, I8, q7⟩
    | ret u => obtain ⟨v, σ7, H7, I7, r7, q7⟩ := h7; exact fin σ7 H7 _ I7 fun s8 I8 => ⟨v, _, H7, I8, r7, q7⟩
  · cases f with
    | next => obtain ⟨σ7, H7, I7, q7⟩ := hq; exact wpAny_execs_nil ⟨σ7, H7, I7.outTry, q7⟩
    | brk => obtain ⟨σ7, H7, I7, q7⟩ := hq; exact ⟨σ7, H7, I7.outTry, q7⟩
    | cont => obtain ⟨σ7, H7, I7, q7⟩ := hq; exact ⟨σ7, H7, I7.outTry, q7⟩
    | ret u => obtain ⟨v, σ7, H7, I7, r7, q7⟩ := hq; exact ⟨v, σ7, H7, I7.outTry, r7, q7⟩
end
theorem DatVs.bls {K : PySem.W.Frag} {H : Hp} : ∀ bs : List Bool, DatVs K H (bs.map V.bl) (bs.map PyData.bool)
  | [] => .nil
  | b :: r => .cons (.bl b) (DatVs.bls r)
theorem canLay_bls : ∀ bs : List Bool, PyData.canLayAll0 (bs.map PyData.bool) = true
  | [] => by simp [PyData.canLayAll0]
  | b :: r => by simp [PyData.canLayAll0, PyData.canLay0, canLay_bls r]
theorem depth_bls : ∀ bs : List Bool, PyData.depthAll (bs.map PyData.bool) = 0
  | [] => by simp [PyData.depthAll]
  | b :: r => by simp [PyData.depthAll, PyData.depth, depth_bls r]
theorem eqvAll_bls : ∀ bs : List Bool, PyData.eqvAll (bs.map PyData.bool) (bs.map PyData.bool) = true
  | [] => by simp [PyData.eqvAll]
  | b :: r => by simp [PyData.eqvAll, PyData.eqv, eqvAll_bls r]
theorem eqLB {K : PySem.W.Frag} {H : Hp} {a b : Addr} {Q : VK} (bs : List Bool) (h : SqL K H a (bs.map V.bl)) (h' : SqL K H b (bs.map V.bl)) (q : Q (.bl true) H) : rEqD K false (.ref a) (.ref b) H Q := by
  have sh : SeqAt.shaped (.list (bs.map PyData.bool)) = true := by
    unfold SeqAt.shaped
    simp [PyData.canLay0, PyData.depth, canLay_bls, depth_bls]
  refine ⟨_, _, .lst h (DatVs.bls bs), .lst h' (DatVs.bls bs), sh, sh, ?_⟩
  rw [if_neg (by decide)]
  have e : PyData.eqv (.list (bs.map PyData.bool)) (.list (bs.map PyData.bool)) = true := by
    simp only [PyData.eqv]
    exact eqvAll_bls bs
  rw [e]
  exact q
end L2
namespace L2
open PySem PySem.Spec PyProof.Rows
section
variable {X : Cx}
end
end L2
namespace L2
open PySem PySem.Spec PyProof.Rows
section
variable {X : Cx} {pins : List (Addr × Obj)} {σ : St} {H : Hp} {s : Shared} {h' : Heap}
theorem Inv.turned2 {t' : Nat} {a e it : Addr} {o : HO} (I : Inv X pins σ H s) (k : ∀ b u, b ≠ e → b ≠ it → s.heap.get? b = some u → h'.get? b = some u) (ha : a = s.heap.objs.size) (new : ObjOk X.prog X.w (upd H a o) h' a o) (fe : FpOk X pins H e) (fi : FpOk X pins H it) :
    Inv X pins σ (upd H a o) { s with heap := h', toks := t' } := by
  have hnone : H a = none := I.hok.fresh (by rw [ha]; exact Nat.le_refl _)
  have lts : ∀ b u, s.heap.get? b = some u → b ≠ a := fun b u q => by rw [ha]; exact Nat.ne_of_lt (Heap.lt_size q)
  have nin : ∀ b, b ∉ [e, it] → b ≠ e ∧ b ≠ it := fun b hb => ⟨fun z => hb (by simp [z]), fun z => hb (by simp [z])⟩
  have ntr : ∀ b u, H b = some u → b ≠ e ∧ b ≠ it := fun b u q => ⟨ne_of_none q fe.1, ne_of_none q fi.1⟩
  refine I.step (g' := s.gens) (d' := s.drawn) (ch := [e, it]) (fun b hb => ?_) (fun b u _ _ hc q _ => k b u (nin b hc).1 (nin b hc).2 q) (fun b u _ _ hc q _ => ⟨u.slots, k b u (nin b hc).1 (nin b hc).2 q⟩) (fun b u _ q n => by rw [upd_ne (lts b u q)]; exact n)
    (fun b u hc q => ⟨u, k b u (nin b hc).1 (nin b hc).2 q⟩) (fun b zs q => by rw [upd_ne (ne_of_none q hnone)]; exact q) (fun b u v q => by rw [upd_ne (ne_of_none q hnone)]; exact q) (fun b ps q => ⟨#[], by rw [upd_ne (ne_of_none q hnone), q]; simp⟩) (fun m hm => ?_) (fun b u q => ?_) I.bare
  · have fb : FpOk X pins H b := by
      rcases List.mem_cons.mp hb with z | z
      · rw [z]; exact fe
      · rw [List.mem_singleton.mp z]; exact fi
    obtain ⟨f0, f1, f2, f3, f4, f5⟩ := fb
    exact ⟨f3, f1, f4, f5⟩
  · obtain ⟨u, es, ep, ho, r⟩ := hm
    exact ⟨u, es, ep, k _ u (Ne.symm fe.2.1) (Ne.symm fi.2.1) ho, r⟩
  · by_cases hb : b = a
    · subst hb
      rw [upd_same] at q
      cases q
      exact new
    · rw [upd_ne hb] at q
      have w : ObjOk X.prog X.w H s.heap b u := I.hok b u q
      have ntr' : ∀ c, (c = b ∨ ∃ u, H c = some u) → c ≠ e ∧ c ≠ it := fun c hc => by
        rcases hc with z | ⟨_, z⟩
        · rw [z]; exact ntr b u q
        · exact ntr c _ z
      refine w.stay (fun c v hc q' => k c v (ntr' c ?_).1 (ntr' c ?_).2 q') (fun c q' => ?_) fun c zs q' => ?_
      · rcases hc with z | z
        · exact .inl z
        · exact .inr ⟨_, z⟩
      · rcases hc with z | z
        · exact .inl z
        · exact .inr ⟨_, z⟩
      · rw [upd_ne (ne_of_none q' hnone)]; exact q'
      · rw [upd_ne (ne_of_none q' hnone)]; exact q'
end
def Ite (K : PySem.W.Frag) (a : Addr) : It :=
  ⟨fun i H => ∃ xs x, SqL K H a xs ∧ xs[i]? = some x, fun i H x H' => ∃ y t, (∀ xs, SqL K H a xs → xs[i]? = some y) ∧ H t = none ∧ x = .ref t ∧ H' = upd H t (.tup [.int (i : Int), y]), fun i H => ∃ xs, SqL K H a xs ∧ xs.length ≤ i⟩
theorem turn_enum {P : Program} {w : World} {K : PySem.W.Frag} {elts : List Expr} {x1} {tp : Pos} (a e it : Addr) (hne : e ≠ it) : Turn P w K (.Tuple elts x1 tp) (Ite K a) [e, it] e (fun i h => (∃ old, IsEnum h e it ((i : Nat) : Int) old) ∧ h.IsListIter it a i) where
  mem := by simp
  obj := fun i h st b hb => by
    obtain ⟨⟨old, he⟩, o, ho, c, d⟩ := st
    rcases List.mem_cons.mp hb with z | z
    · subst z
      exact ⟨_, he, fun v z => by
        have z' : Data.fields _ = Data.cell v := z
        cases z'⟩
    · rw [List.mem_singleton.mp z]
      exact ⟨o, ho, fun v z => by rw [d] at z; cases z⟩
  keep := fun i h h' st k => by
    obtain ⟨⟨old, he⟩, hi⟩ := st
    exact ⟨⟨old, k e (by simp) _ he⟩, hi.at fun o q => k it (by simp) o q⟩
  item := by
    intro X hP hw hK hc i pins s σ H E I hf st hg
    subst hP hw hK
    obtain ⟨xs, x, hq, hx⟩ := hg
    obtain ⟨its, rv, p, hz⟩ := I.list hq
    obtain ⟨u, hu, ru⟩ := rv.get hx
    obtain ⟨⟨old, he⟩, hit⟩ := st
    have fe := hf e (by simp)
    have fi := hf it (by simp)
    have hel : e < s.heap.objs.size := Heap.lt_size he
    refine wpAny_pyNext_enum_item he hit p.isList (x := u) (by simpa using hu) hne fun h1 he1 hit1 ht1 hz1 hk1 => ⟨_, rfl, ?_⟩
    refine wpAny_letOwnedTupleGo_enum he1 fun h2 he2 hs2 => ?_
    have hs2' : Heap.SameBut e h1 h2 := hs2
    have hnone : H s.heap.objs.size = none := I.hok.fresh (Nat.le_refl _)
    refine ⟨.ref s.heap.objs.size, upd H s.heap.objs.size (.tup [.int (i : Int), x]), I.turned2 (t' := s.toks + 1) (e := e) (it := it) (fun b o hb1 hb2 q => (hs2'.2 b hb1).trans (hk1 b o hb1 hb2 q)) rfl ?_ fe fi, rfl, ⟨x, _, fun ys hy => by rw [I.list_inj hy hq]; exact hx, hnone, rfl, rfl⟩, ⟨⟨_, by rw [Int.natCast_add]; exact he2⟩, hit1.extBut hs2'.extBut (Ne.symm hne)⟩, fun b hb => ?_⟩
    · exact ⟨by show 2 ≤ sizeLine; decide, [.int i s.toks, u], .cons ⟨_, rfl⟩ (.cons ru .nil), ⟨_, (hs2'.2 _ (Nat.ne_of_gt hel)).trans ht1, rfl, _, rfl⟩⟩
    · have hb0 : H b = none := (hf b hb).1
      have hbl : b < s.heap.objs.size := by
        rcases List.mem_cons.mp hb with z | z
        · rw [z]; exact hel
        · rw [List.mem_singleton.mp z]
          obtain ⟨o, ho, _⟩ := id hit
          exact Heap.lt_size ho
      rw [upd_ne (Nat.ne_of_lt hbl)]
      exact hb0
  done := by
    intro X hP hw hK hc i pins s σ H E I hf st hg
    subst hP hw hK
    obtain ⟨xs, hq, hx⟩ := hg
    obtain ⟨its, rv, p, hz⟩ := I.list hq
    obtain ⟨⟨old, he⟩, hit⟩ := st
    obtain ⟨f0, f1, f2, f3, f4, f5⟩ := hf it (by simp)
    have hl := rv.length
    exact wpAny_pyNext_enum_end (I.ok.hd hc) he hit p.isList (by simp; omega) fun h' eb => ⟨rfl, I.turned (t' := s.toks) (fun b o hb q => eb b o hb q) f0 f1 f3 f4 f5⟩
  self := fun _ _ _ _ _ ⟨⟨_, he⟩, _⟩ h => wpAny_pyIter_enum he h
section
variable {X : Cx} {e : Expr} {te : TE} {p p2 pos pos2 : Pos}
def iEnum (K : PySem.W.Frag) (tl : TE) : TI := fun σ H R => tl σ H fun x H1 => ∃ a, x = .ref a ∧ (∃ xs, SqL K H1 a xs) ∧ R (Ite K a) H1
theorem pi_enum {elts : List Expr} {x1} {tp : Pos} (hg : Gl X "enumerate") (hm : X.mg "enumerate" = none) (he : PE X e te) (hs : starEach [e] X.env = (false, eval e X.env) :: starEach [] X.env := by rfl) : PI X (.Tuple elts x1 tp) (.Call (.Name "enumerate" p) [e] [] pos) (iEnum X.K te) := by
  intro pins s σ H R I h
  refine wpAny_Call_Name_kw (ld_blt I hg hm PyProof.Rows.boot_enumerate ?_ (by decide) (by decide))
  refine PyProof.Rows.callWith_type1 (thn (pa_cons he pa_nil hs pos pins s σ H (fun vs H1 => ∃ a, vs = [.ref a] ∧ (∃ xs, SqL X.K H1 a xs) ∧ R (Ite X.K a) H1) I ?_) fun us s1 ⟨vs, H1, I1, r1, q1⟩ => ?_) hs rfl
  · show te σ H _
    have e2 : (fun x H1 => tNil σ H1 fun xs H2 => (fun vs H1 => ∃ a, vs = [V.ref a] ∧ (∃ xs, SqL X.K H1 a xs) ∧ R (Ite X.K a) H1) (x :: xs) H2) = fun x H1 => ∃ a, x = V.ref a ∧ (∃ xs, SqL X.K H1 a xs) ∧ R (Ite X.K a) H1 := by
      funext x H1
      simp only [tNil, List.cons.injEq, and_true]
    have := h
    unfold iEnum at this
    rw [← e2] at this
    exact this
  · obtain ⟨a, rfl, ⟨xs, hq⟩, hR⟩ := q1
    obtain ⟨u, rfl, ru⟩ := vals1 r1
    cases ru
    obtain ⟨its, rv, pl, hz⟩ := I1.list hq
    refine call_enumerate_list pl.isList fun h' he' hit hz' hk => ?_
    refine wpAny_pyIter_enum he' ?_
    refine ⟨s1.heap.objs.size + 1, [s1.heap.objs.size + 1, s1.heap.objs.size], _, _, H1, rfl, I1.kept (t' := s1.toks) hk, turn_enum a _ _ (Nat.succ_ne_self _), ⟨⟨_, he'⟩, hit⟩, fun b hb => ?_, hR⟩
    rcases List.mem_cons.mp hb with z | z
    · rw [z]; exact I1.fpOk (Nat.le_succ _) (I1.hok.fresh (Nat.le_succ _))
    · rw [List.mem_singleton.mp z]; exact I1.fpOk (Nat.le_refl _) (I1.hok.fresh (Nat.le_refl _))
end
theorem forE {K : PySem.W.Frag} {a : Addr} {g : TG} {tb : TS} {D : Ends} {σ : St} {H : Hp} (ns : List Int) (Pv : Nat → St → Hp → Prop) (h0 : Pv 0 σ H) (hl : ∀ i σ H, Pv i σ H → SqL K H a (ns.map V.int))
    (hs : ∀ i (x : Int) σ H t H', ns[i]? = some x → Pv i σ H → Same H H' → H' t = some (.tup [.int (i : Int), .int x]) → g (.ref t) σ H' fun σ2 H2 => tb { D with nx := Pv (i + 1), ct := Pv (i + 1), bk := D.nx } σ2 H2) (hd : ∀ σ H, Pv ns.length σ H → D.nx σ H) :
    ForIt (Ite K a) g tb D σ H := by
  refine ⟨fun i m σ H => m = ns.length - i ∧ i ≤ ns.length ∧ Pv i σ H, ⟨ns.length, by simp, Nat.zero_le _, h0⟩, ?_⟩
  rintro i m σ H ⟨rfl, hi, p⟩
  have q := hl i σ H p
  by_cases hlt : i < ns.length
  · have hx : ns[i]? = some ns[i] := List.getElem?_eq_getElem hlt
    have hx' : (ns.map V.int)[i]? = some (.int ns[i]) := by rw [List.getElem?_map, hx]; rfl
    refine .inr ⟨⟨_, _, q, hx'⟩, Pv (i + 1), fun σ' H' p' => ⟨ns.length - (i + 1), by omega, rfl, hlt, p'⟩, fun x H' y => ?_⟩
    obtain ⟨y, t, hy, ht, rfl, rfl⟩ := y
    have hy := hy _ q
    rw [hx'] at hy
    cases hy
    exact hs i _ σ H t _ hx p (same_new ht _) upd_same
  · have e : i = ns.length := by omega
    subst e
    exact .inl ⟨⟨_, q, by simp⟩, hd σ H p⟩
section
variable {X : Cx} {e lo hi st : Expr} {te : TE} {tl th tk : TO} {pos p2 : Pos}
def tSlK (K : PySem.W.Frag) (te : TE) (tl th tk : TO) : TE := fun σ H Q => te σ H fun x H1 => tl σ H1 fun l H2 => th σ H2 fun u H3 => tk σ H3 fun k H4 =>
  ∃ (a : Addr) (ns : List Int), x = .ref a ∧ k ≠ some 0 ∧ SqL K H4 a (ns.map V.int) ∧ ∀ ms : List Int, ms.length ≤ ns.length → (∀ m, m ∈ ms → m ∈ ns) → ∀ p, H4 p = none → Q (.ref p) (upd H4 p (.lst (ms.map V.int)))
end
section
variable {X : Cx}
def rGetL (K : PySem.W.Frag) : R2 := fun x y H Q => ∃ p xs i v, x = .ref p ∧ y = .int i ∧ 0 ≤ i ∧ SqL K H p xs ∧ xs[i.toNat]? = some v ∧ Q v H
theorem get_list : PGet X (rGetL X.K) := by
  intro pins s σ H o i ov iv Q I ro ri h
  obtain ⟨p, xs, k, v, rfl, rfl, h0, hq, hv, q⟩ := h
  cases ro
  obtain ⟨t, rfl⟩ := ri
  obtain ⟨its, r, pl, hz⟩ := I.list hq
  obtain ⟨u, eu, ru⟩ := r.get hv
  have hn := line63
  have hl := (List.getElem?_eq_some_iff.mp hv).1
  exact wpAny_getItem_list pl.isList h0 (by omega) (x := u) (by simpa using eu) ⟨v, H, I, ru, q⟩
theorem ix_listK {K : PySem.W.Frag} (hK : X.K = K) : IxR X (rIxL K) := by subst hK; exact ix_list
theorem vals_bls : ∀ {bs : List Bool} {us : List Value}, Vals (bs.map V.bl) us → us = bs.map Value.bool
  | [], _, .nil => rfl
  | b :: bs, _, .cons r t => by
    have r' : _ = Value.bool b := r
    rw [r', vals_bls t]
    rfl
theorem bt_all : bootBuiltins "all" = some (.builtin "all") := by decide +kernel
theorem bt_abs : bootBuiltins "abs" = some (.builtin "abs") := by decide +kernel
theorem call_allB (hc : X.calm = true) : CallR X (.builtin "all") (fun xs H Q => ∃ (p : Addr) (bs : List Bool), xs = [.ref p] ∧ SqL X.K H p (bs.map V.bl) ∧ Q (.bl (bs.all id)) H) := by
  intro pins s σ H xs us Q I r h
  obtain ⟨p, bs, rfl, hq, q⟩ := h
  obtain ⟨u, rfl, rx⟩ := vals1 r
  cases rx
  obtain ⟨its, rv, pl, hz⟩ := I.list hq
  have ei : its = bs.map Value.bool := vals_bls rv
  obtain ⟨o, ho, _⟩ := id pl.isList
  have hne : p ≠ s.heap.objs.size := Nat.ne_of_lt (Heap.lt_size ho)
  refine call_all_walk (wpAny_pyIter_list pl.isList ?_)
  refine ⟨s.heap.objs.size, _, _, _, _, _, fun i => bs.getD i false, rfl, Walks.list (A := X.A.in1) (I.ok.hd hc) s.heap.objs.size p hne its.toArray, ⟨⟨_, Heap.get?_push_size _ rfl, rfl, rfl⟩, pl.isList.at fun o e => Heap.get?_push_of_some _ e⟩, ?_, ?_⟩
  · intro i v s' Q' E' hP hQ
    have hv : its[i]? = some v := by simpa using hP
    rw [ei, List.getElem?_map] at hv
    cases z : bs[i]? with
    | none => rw [z] at hv; cases hv
    | some b =>
      rw [z] at hv
      cases hv
      refine wpAny_truthy_bool ?_
      have : bs.getD i false = b := by rw [List.getD_eq_getElem?_getD, z]; rfl
      rw [← this]
      exact hQ
  · intro h' tk hk
    have f := I.fpOk (H' := H) (Nat.le_refl _) (I.hok.fresh (Nat.le_refl _))
    obtain ⟨f0, f1, f2, f3, f4, f5⟩ := f
    have I2 : Inv X pins σ H { s with heap := h', toks := tk } := I.turned (t' := tk) (it := s.heap.objs.size) (fun b o hb e => hk b o (by simpa using hb) (Heap.get?_push_of_some _ e)) f0 f1 f3 f4 f5
    have ea : (List.range its.toArray.size).all (fun i => bs.getD i false) = bs.all id := by
      rw [ei, List.size_toArray, List.length_map]
      have e1 : bs = (List.range bs.length).map (fun i => bs.getD i false) := by
        refine List.ext_getElem (by simp) fun j h1 h2 => ?_
        rw [List.getElem_map, List.getElem_range, List.getD_eq_getElem?_getD, List.getElem?_eq_getElem h1]
        rfl
      conv => rhs; rw [e1]
      rw [List.all_map]
      rfl
    exact ⟨.bl (bs.all id), H, I2, by rw [ea]; rfl, q⟩
theorem cut_init {α : Type} (f : α → V) (xs : List α) : cutV (xs.map f) none (some (-1)) = xs.dropLast.map f := by
  have e : HT.sIx (xs.map f).length (xs.map f).length (some (-1)) = xs.length - 1 := by
    rw [List.length_map]
    simp only [HT.sIx]
    split <;> omega
  unfold cutV
  rw [HT.sIx_none, e, List.drop_zero, Nat.sub_zero, List.dropLast_eq_take, List.map_take]
end
section
variable {X : Cx} {a b : Expr} {ta : TA} {p p2 pos pos2 : Pos}
def nums (i : Int) (n : Nat) : List Int := (List.range n).map fun k : Nat => i + (k : Int)
def tListRng (ta : TA) : TE := fun σ H Q => ta σ H fun vs H1 => ∃ i j : Int, vs = [.int i, .int j] ∧ (-1000000 ≤ i ∧ i < 1000000 ∧ -1000000 ≤ j ∧ j < 1000000) ∧ ∀ l, H1 l = none → Q (.ref l) (upd H1 l (.lst ((nums i (j - i).toNat).map V.int)))
end
end L2
namespace L2
open PySem PySem.Spec PyProof.Rows
namespace So
open PySem.W
section
variable {n : Nat} {key : Nat → Int} {cmp : Nat → Nat → (Bool → Shared → Prop) → Shared → Prop} {s : Shared}
end
end So
end L2
namespace L2
open PySem PySem.Spec PyProof.Rows
section
variable {P : Program} {w : World} {K : PySem.W.Frag} {mg : Str → Option Value} {base : Heap} {x qual : Str} {st : Stmt} {f : Addr} {fd : FuncData} {ps : List Str} {sp : Nat → Sp}
end
theorem compL {K : PySem.W.Frag} {a : Addr} {caps : List Nat} {tt : TT} {te : TE} {σ : St} {H : Hp} {Q : VK} (xs : List V) (Pv : Nat → List V → Hp → Prop) (hn : xs.length ≤ sizeLine) (h0 : Pv 0 [] H) (hl : ∀ i ys H, Pv i ys H → SqL K H a xs)
    (hs : ∀ i (x : V) ys H, xs[i]? = some x → Pv i ys H → tt (some x :: capV caps σ) H fun b H4 => if b = true then te (some x :: capV caps σ) H4 fun v H5 => Pv (i + 1) (ys ++ [v]) H5 else Pv (i + 1) ys H4)
    (hd : ∀ ys H, Pv xs.length ys H → ∀ p, H p = none → Q (.ref p) (upd H p (.lst ys))) : CompIt (Itl K a) caps tt te σ H Q := by
  refine ⟨xs.length, fun i ys H => i ≤ xs.length ∧ Pv i ys H, hn, ⟨Nat.zero_le _, h0⟩, ?_⟩
  rintro i ys H2 ⟨hi, p⟩
  have hS := hl i ys H2 p
  by_cases hlt : i < xs.length
  · have hv : xs[i]? = some xs[i] := List.getElem?_eq_getElem hlt
    refine .inr ⟨⟨_, _, hS, hv⟩, hlt, ?_⟩
    rintro y H3 ⟨rfl, hy⟩
    have hxy : y = xs[i] := (Option.some.inj (hv.symm.trans (hy _ hS))).symm
    subst hxy
    have key := hs i _ ys H3 hv p
    have e2 : (fun (b : Bool) (H4 : Hp) => if b = true then te (some xs[i] :: capV caps σ) H4 fun v H5 => Pv (i + 1) (ys ++ [v]) H5 else Pv (i + 1) ys H4) = fun b H4 => if b = true then te (some xs[i] :: capV caps σ) H4 fun v H5 => i + 1 ≤ xs.length ∧ Pv (i + 1) (ys ++ [v]) H5 else i + 1 ≤ xs.length ∧ Pv (i + 1) ys H4 := by
      funext b H4
      have z : i + 1 ≤ xs.length := hlt
      simp only [z, true_and]
    rw [e2] at key
    exact key
  · have e : i = xs.length := by omega
    subst e
    exact .inl ⟨⟨_, hS, Nat.le_refl _⟩, hd ys H2 p⟩
section
variable {X : Cx}
theorem bt_sorted : bootBuiltins "sorted" = some (.builtin "sorted") := by decide +kernel
end
namespace So
open PySem.W
section
variable {pr : Program} {wo : World} {Ar : Around} {Er : Value → Shared → Prop} {st : Shared}
end
end So
section
variable {X : Cx}
end
end L2
namespace L2
open PySem PySem.Spec PyProof.Rows
def tComp2 (caps : List Nat) (wi : TI) (g : TG) (tt : TT) (te : TE) : TE := fun σ H Q => wi σ H fun J H1 => ∃ (n : Nat) (W : Nat → List V → Hp → Prop), n ≤ sizeLine ∧ W 0 [] H1 ∧ ∀ i ys H2, W i ys H2 →
  (J.stop i H2 ∧ ∀ p, H2 p = none → Q (.ref p) (upd H2 p (.lst ys))) ∨
  (J.go i H2 ∧ i < n ∧ ∀ x H3, J.yld i H2 x H3 → ∀ o1 o2 : Option V, g x (o1 :: o2 :: capV caps σ) H3 fun σ4 H4 => (∃ v1 v2 : V, σ4 = some v1 :: some v2 :: capV caps σ) ∧ tt σ4 H4 fun b H5 => if b = true then te σ4 H5 fun v H6 => W (i + 1) (ys ++ [v]) H6 else W (i + 1) ys H5)
section
variable {X : Cx} {scope : Scope} {cl : List (Str × Addr)} {caps : List Nat} {xs : List Str} {C : Addr} {s : Shared} {H : Hp} {fp : List Addr} {pins : List (Addr × Obj)} {σ : St}
theorem comp_start2 (I : Inv X pins σ H s) (hcl : ClOk X.env.cells cl) (hk : scope.kind = .function) (hfp : ∀ b ∈ fp, FpOk X pins H b) (hlt : ∀ b ∈ fp, b < s.heap.objs.size)
    (hhas : ((relabel scope X.env).names.all fun y => !(y.2 == .cell || y.2 == .free) || (cl.lookup y.1).isSome) = true) (hC : s.heap.objs.size ≤ C)
    (hcap : CapsOk X (relabel scope X.env) cl caps xs) (hlen : caps.length = xs.length) {x y : Str} {h₁ : Heap} {t : Nat} {m : Str → Option Value} (hn : h₁.Ns C m) (kp : ∀ b o, s.heap.get? b = some o → h₁.get? b = some o) :
    Inv (compCx X (x :: y :: xs) scope cl C s H fp) [] (none :: none :: capV caps σ) H { s with heap := h₁, toks := t } where
  ok := comp_ok I hcl hk hfp hlt hhas hC
  os := rfl
  bare := I.bare
  base := Un.kept kp
  loc := by
    refine ⟨m, hn, fun i z v h1 h2 _ => ?_⟩
    cases i with
    | zero => simp at h2
    | succ i =>
    cases i with
    | zero => simp at h2
    | succ i =>
      obtain ⟨j, e1, e2, e3, e4, c, e5⟩ := cap_get (X := X) (scope := scope) hcap (i := i) (by simpa [compCx] using h1) (by simpa using h2)
      obtain ⟨m₀, _, hl⟩ := I.loc
      obtain ⟨u, r, lk⟩ := hl j z v e1 e2 (.inr (.inl e3))
      refine ⟨u, r, .inr ⟨.inl e4, c, e5, ?_⟩⟩
      rcases lk with ⟨z1, _⟩ | ⟨_, c', q1, q2⟩
      · have z' : X.env.scope.names.lookup z = some .local := z1
        rw [e3] at z'
        cases z'
      · rw [hcl.get e5] at q1
        cases q1
        obtain ⟨o, ho, hd⟩ := q2
        exact ⟨o, kp _ _ ho, hd⟩
  cell := fun z c e => by
    obtain ⟨v, o, ho, hd⟩ := I.cell z c (hcl.get e)
    exact ⟨v, o, kp _ _ ho, hd⟩
  free := I.hok.fresh hC
  freeC := fun z c e => I.freeC z c (hcl.get e)
  pin := fun p hp => by
    have hp' : p ∈ ([] : List (Addr × Obj)) := hp
    cases hp'
  hok := I.hok.kept kp
  len := by simp [compCx, capV, hlen]
end
section
variable {X : Cx}
end
end L2
namespace L2
open PySem PySem.Spec PyProof.Rows
section
variable {K : PySem.W.Frag} {H : Hp} {l m : Addr} {as cs : List Addr} {fs gs : List (Int × Int)} {Q : VK}
end
def CompIt2 (J : It) (caps : List Nat) (g : TG) (tt : TT) (te : TE) (σ : St) (H : Hp) (Q : VK) : Prop := ∃ (n : Nat) (W : Nat → List V → Hp → Prop), n ≤ sizeLine ∧ W 0 [] H ∧ ∀ i ys H2, W i ys H2 →
  (J.stop i H2 ∧ ∀ p, H2 p = none → Q (.ref p) (upd H2 p (.lst ys))) ∨
  (J.go i H2 ∧ i < n ∧ ∀ x H3, J.yld i H2 x H3 → ∀ o1 o2 : Option V, g x (o1 :: o2 :: capV caps σ) H3 fun σ4 H4 => (∃ v1 v2 : V, σ4 = some v1 :: some v2 :: capV caps σ) ∧ tt σ4 H4 fun b H5 => if b = true then te σ4 H5 fun v H6 => W (i + 1) (ys ++ [v]) H6 else W (i + 1) ys H5)
theorem w_comp2 {caps : List Nat} {wi : TI} {g : TG} {tt : TT} {te : TE} {σ : St} {H : Hp} {Q : VK} : tComp2 caps wi g tt te σ H Q = wi σ H fun J H1 => CompIt2 J caps g tt te σ H1 Q := rfl
end L2
namespace L2
open PySem PySem.Spec PyProof.Rows
section
variable {X : Cx}
end
end L2
namespace L2
open PySem PySem.Spec PyProof.Rows
namespace Dx
section
variable {pr : Program} {wo : World} {Ar : Around} {Er : Value → Shared → Prop} {st : Shared} {d it : Addr} {od : Obj} {es : Array DictEntry} {ep i : Nat}
end
end Dx
def Itd (o : Obj) (a : Addr) (kvs : List (List Key × V)) : It :=
  ⟨fun i H => H a = some (.frz o (.dT kvs)) ∧ i < kvs.length, fun i H x H' => H' = H ∧ ∃ b k v, x = .ref b ∧ kvs[i]? = some (k, v) ∧ H b = some (.tup (k.map kV)), fun i H => H a = some (.frz o (.dT kvs)) ∧ kvs.length ≤ i⟩
def iDict (td : TE) : TI := fun σ H R => td σ H fun x H1 => ∃ a kvs, x = .ref a ∧ H1 a = some (.dT kvs) ∧ ∀ o, R (Itd o a kvs) (upd H1 a (.frz o (.dT kvs)))
section
variable {X : Cx} {tg : Expr}
end
namespace Dx
end Dx
section
variable {X : Cx}
end
end L2
namespace L2
open PySem PySem.Spec PyProof.Rows
section
variable {X : Cx} {pins : List (Addr × Obj)} {σ : St} {H : Hp} {s : Shared} {h' : Heap}
theorem Inv.turnedS {t' : Nat} {ch : List Addr} (I : Inv X pins σ H s) (k : ∀ b u, b ∉ ch → s.heap.get? b = some u → h'.get? b = some u) (f : ∀ b, b ∈ ch → FpOk X pins H b) : Inv X pins σ H { s with heap := h', toks := t' } := by
  have nit : ∀ b u, H b = some u → b ∉ ch := fun b u e z => ne_of_none e (f b z).1 rfl
  refine I.step (g' := s.gens) (d' := s.drawn) (ch := ch) (fun b hb => ?_) (fun b o _ _ hc e _ => k b o hc e) (fun b o _ _ hc e _ => ⟨o.slots, k b o hc e⟩) (fun _ _ _ _ n => n)
    (fun b o hc e => ⟨o, k b o hc e⟩) (fun _ _ e => e) (fun _ _ _ e => e) (fun b ps e => ⟨#[], by rw [e]; simp⟩) (fun m hm => ?_) (fun b u e => ?_) I.bare
  · obtain ⟨f0, f1, f2, f3, f4, f5⟩ := f b hb
    exact ⟨f3, f1, f4, f5⟩
  · obtain ⟨o, es, ep, ho, r⟩ := hm
    exact ⟨o, es, ep, k _ o (fun z => (f _ z).2.1 rfl) ho, r⟩
  · refine (I.hok b u e).stay (fun c v hc q => k c v ?_ q) (fun _ q => q) fun _ _ q => q
    rcases hc with z | z
    · rw [z]; exact nit b u e
    · exact nit c _ z
theorem Inv.turnedN {t' : Nat} {a : Addr} {o : HO} {ch : List Addr} (I : Inv X pins σ H s) (k : ∀ b u, b ∉ ch → s.heap.get? b = some u → h'.get? b = some u) (ha : a = s.heap.objs.size) (new : ObjOk X.prog X.w (upd H a o) h' a o) (f : ∀ b, b ∈ ch → FpOk X pins H b) :
    Inv X pins σ (upd H a o) { s with heap := h', toks := t' } := by
  have hnone : H a = none := I.hok.fresh (by rw [ha]; exact Nat.le_refl _)
  have lts : ∀ b u, s.heap.get? b = some u → b ≠ a := fun b u q => by rw [ha]; exact Nat.ne_of_lt (Heap.lt_size q)
  have ntr : ∀ b u, H b = some u → b ∉ ch := fun b u q z => ne_of_none q (f b z).1 rfl
  refine I.step (g' := s.gens) (d' := s.drawn) (ch := ch) (fun b hb => ?_) (fun b u _ _ hc q _ => k b u hc q) (fun b u _ _ hc q _ => ⟨u.slots, k b u hc q⟩) (fun b u _ q n => by rw [upd_ne (lts b u q)]; exact n)
    (fun b u hc q => ⟨u, k b u hc q⟩) (fun b zs q => by rw [upd_ne (ne_of_none q hnone)]; exact q) (fun b u v q => by rw [upd_ne (ne_of_none q hnone)]; exact q) (fun b ps q => ⟨#[], by rw [upd_ne (ne_of_none q hnone), q]; simp⟩) (fun m hm => ?_) (fun b u q => ?_) I.bare
  · obtain ⟨f0, f1, f2, f3, f4, f5⟩ := f b hb
    exact ⟨f3, f1, f4, f5⟩
  · obtain ⟨u, es, ep, ho, r⟩ := hm
    exact ⟨u, es, ep, k _ u (fun z => (f _ z).2.1 rfl) ho, r⟩
  · by_cases hb : b = a
    · subst hb
      rw [upd_same] at q
      cases q
      exact new
    · rw [upd_ne hb] at q
      have w : ObjOk X.prog X.w H s.heap b u := I.hok b u q
      have ntr' : ∀ c, (c = b ∨ ∃ u, H c = some u) → c ∉ ch := fun c hc => by
        rcases hc with z | ⟨_, z⟩
        · rw [z]; exact ntr b u q
        · exact ntr c _ z
      refine w.stay (fun c v hc q' => k c v (ntr' c ?_) q') (fun c q' => ?_) fun c zs q' => ?_
      · rcases hc with z | z
        · exact .inl z
        · exact .inr ⟨_, z⟩
      · rw [upd_ne (ne_of_none q' hnone)]; exact q'
      · rw [upd_ne (ne_of_none q' hnone)]; exact q'
end
def Itz (K : PySem.W.Frag) (a b : Addr) : It :=
  ⟨fun i H => ∃ xs ys x y, SqL K H a xs ∧ SqL K H b ys ∧ xs[i]? = some x ∧ ys[i]? = some y, fun i H x H' => ∃ y z t, (∀ xs, SqL K H a xs → xs[i]? = some y) ∧ (∀ xs, SqL K H b xs → xs[i]? = some z) ∧ H t = none ∧ x = .ref t ∧ H' = upd H t (.tup [y, z]), fun i H => ∃ xs ys, SqL K H a xs ∧ SqL K H b ys ∧ (xs.length ≤ i ∨ ys.length ≤ i)⟩
theorem ane {x y : Nat} (h : x ≠ y) : ¬ (x : Addr) = (y : Addr) := h
theorem ne_list {h : Heap} {l c : Addr} {xs : Array Value} (hl : h.IsList l xs) (hc : ∃ o, h.get? c = some o ∧ o.cls ≠ .type "list") : l ≠ c := by
  obtain ⟨o, ho, n⟩ := hc
  obtain ⟨u, hu, cu, _⟩ := hl
  intro z
  rw [z, ho] at hu
  cases hu
  exact n cu
section
variable {X : Cx} {e e2 : Expr} {te te2 : TE} {p pos : Pos}
def iZip (K : PySem.W.Frag) (tl tl2 : TE) : TI := fun σ H R => tl σ H fun x H1 => tl2 σ H1 fun y H2 => ∃ a b, x = .ref a ∧ y = .ref b ∧ (∃ xs, SqL K H2 a xs) ∧ (∃ ys, SqL K H2 b ys) ∧ R (Itz K a b) H2
end
end L2
namespace L2
open PySem PySem.Spec PyProof.Rows
section
variable {X : Cx} {e : Expr} {te : TE} {p p2 pos pos2 : Pos}
end
end L2
namespace L2
open PySem PySem.Spec PyProof.Rows
section
variable {X : Cx} {body suite suite2 : List Stmt} {b₀ b₁ : Stmt} {D D2 : Addr} {cx cx2 : Str} {np np2 hpos hpos2 pos : Pos} {tb : (St → XK) → TS} {ts ts2 : TS}
end
section
variable {X : Cx}
theorem call_maxL (hc : X.calm = true) : CallR X (.builtin "max") (fun xs H Q => ∃ (p : Addr) (ns : List Int), xs = [.ref p] ∧ SqL X.K H p (ns.map V.int) ∧ 0 < ns.length ∧ ∀ M : Int, M ∈ ns → (∀ a, a ∈ ns → a ≤ M) → Q (.int M) H) := by
  intro pins s σ H xs us Q I r h
  obtain ⟨p, ns, rfl, hq, hn, q⟩ := h
  obtain ⟨u, rfl, rx⟩ := vals1 r
  cases rx
  obtain ⟨its, rv, pl, hz⟩ := I.list hq
  have hi := intsAre_of rv
  obtain ⟨zs, hzs⟩ := hi.allInts.items
  have hnn : zs.toList.map (·.1) = ns := by
    rw [← nums_intItems, ← hzs]
    exact hi.numsOf
  have hsz : 0 < zs.size := by
    have := congrArg List.length hnn
    simp at this
    omega
  refine max_intList (I.ok.hd hc) (by rw [← hzs]; exact pl.isList) hsz fun v h' tk hv hk => ?_
  obtain ⟨t, rfl⟩ := intItems_at hv
  obtain ⟨h1, h2⟩ := argBest_gt (numAt zs) (zs.size - 1)
  refine ⟨.int _, H, I.kept (t' := tk) hk, ⟨t, rfl⟩, q _ ?_ fun a ha => ?_⟩
  · rw [← hnn, numAt_eq]
    exact getD_mem (by rw [List.length_map, Array.length_toList]; omega)
  · rw [← hnn] at ha
    obtain ⟨j, hj, rfl⟩ := mem_getD ha
    rw [List.length_map, Array.length_toList] at hj
    rw [← numAt_eq]
    exact h2 j (by omega)
end
end L2
namespace L2
open PySem PySem.Spec PyProof.Rows
def Its (z : Str) : It := ⟨fun i _ => i < z.cps.size, fun i H x H' => H' = H ∧ ∃ c, z.cps[i]? = some c ∧ x = .str ⟨#[c]⟩, fun i _ => z.cps.size ≤ i⟩
theorem turn_str {P : Program} {w : World} {K : PySem.W.Frag} {tg : Expr} (z : Str) (t : Tok) (it : Addr) (T : String) (hT : T = "str_ascii_iterator" ∨ T = "str_iterator") : Turn P w K tg (Its z) [it] it (fun i h => h.IsStrIter it T z t i) where
  mem := by simp
  obj := fun i h st b hb => by
    have e : b = it := by simpa using hb
    subst e
    obtain ⟨o, e, c, d⟩ := st
    exact ⟨o, e, fun v z => by rw [d] at z; cases z⟩
  keep := fun i h h' st k => by
    obtain ⟨o, e, r⟩ := st
    exact ⟨o, k it (by simp) o e, r⟩
  item := by
    intro X hP hw hK hc i pins s σ H E I hf st hg
    subst hP hw hK
    obtain ⟨f0, f1, f2, f3, f4, f5⟩ := hf it (by simp)
    have hg' : i < z.cps.size := hg
    have hi : z.cps[i]? = some z.cps[i] := by simp [hg']
    have fin : ∀ h' : Heap, h'.IsStrIter it T z t (i + 1) → Heap.SameBut it s.heap h' → ∃ u, some (Value.str ⟨#[z.cps[i]]⟩ s.toks) = some u ∧
        wpAny (model X.prog X.w) X.A (letOwnedTupleGo tg (.ref it) u) (fun _ s2 => ∃ x H', Inv X pins σ H' s2 ∧ RelV x u ∧ (Its z).yld i H x H' ∧ s2.heap.IsStrIter it T z t (i + 1) ∧ ∀ b ∈ [it], H' b = none) E { s with heap := h', toks := s.toks + 1 } := fun h' st' sb => by
      have I1 : Inv X pins σ H { s with heap := h', toks := s.toks + 1 } := I.turned (t' := s.toks + 1) (fun b o hb e => (sb.2 b hb).trans e) f0 f1 f3 f4 f5
      obtain ⟨o, e, c, d⟩ := id st'
      exact ⟨_, rfl, go_of (s := { s with heap := h', toks := s.toks + 1 }) e c d (by rcases hT with rfl | rfl <;> decide) ⟨.str ⟨#[z.cps[i]]⟩, H, I1, ⟨_, rfl⟩, ⟨rfl, _, hi, rfl⟩, st', fun b hb => (hf b hb).1⟩⟩
    rcases hT with rfl | rfl
    · exact wpAny_pyNext_ascii_item st hi fun h' st' sb => fin h' st' sb
    · exact wpAny_pyNext_wide_item st hi fun h' st' sb => fin h' st' sb
  done := by
    intro X hP hw hK hc i pins s σ H E I hf st hg
    subst hP hw hK
    obtain ⟨f0, f1, f2, f3, f4, f5⟩ := hf it (by simp)
    have hg' : z.cps.size ≤ i := hg
    have hx : z.cps[i]? = none := by simp [hg']
    rcases hT with rfl | rfl
    · exact wpAny_pyNext_ascii_end (I.ok.hd hc) st hx fun h' eb => ⟨rfl, I.turned (t' := s.toks) (fun b o hb e => eb b o hb e) f0 f1 f3 f4 f5⟩
    · exact wpAny_pyNext_wide_end (I.ok.hd hc) st hx fun h' eb => ⟨rfl, I.turned (t' := s.toks) (fun b o hb e => eb b o hb e) f0 f1 f3 f4 f5⟩
  self := fun _ _ _ _ _ st h => by
    rcases hT with rfl | rfl
    · exact wpAny_pyIter_striter_ascii st h
    · exact wpAny_pyIter_striter_wide st h
def iStr (tl : TE) : TI := fun σ H R => tl σ H fun x H1 => ∃ z, x = .str z ∧ R (Its z) H1
theorem pi_str {X : Cx} {tg l : Expr} {tl : TE} (hl : PE X l tl) : PI X tg l (iStr tl) := by
  intro pins s σ H R I h
  refine thn (hl pins s σ H _ I h) fun v s1 ⟨x, H1, I1, r1, q1⟩ => ?_
  obtain ⟨z, e, q⟩ := q1
  subst e
  obtain ⟨t, rfl⟩ := r1
  have fp : ∀ b ∈ [s1.heap.objs.size], FpOk X pins H1 b := fun b hb => by
    have e : b = s1.heap.objs.size := by simpa using hb
    subst e
    exact I1.fpOk (Nat.le_refl _) (I1.hok.fresh (Nat.le_refl _))
  cases ha : z.cps.all (· < 128)
  · refine wpAny_pyIter_wide ha ?_
    exact ⟨s1.heap.objs.size, [s1.heap.objs.size], _, _, H1, rfl, I1.kept (t' := s1.toks) fun b o e => Heap.get?_push_of_some _ e, turn_str z t _ "str_iterator" (.inr rfl), ⟨_, Heap.get?_push_size _ rfl, rfl, rfl⟩, fp, q⟩
  · refine wpAny_pyIter_ascii ha ?_
    exact ⟨s1.heap.objs.size, [s1.heap.objs.size], _, _, H1, rfl, I1.kept (t' := s1.toks) fun b o e => Heap.get?_push_of_some _ e, turn_str z t _ "str_ascii_iterator" (.inl rfl), ⟨_, Heap.get?_push_size _ rfl, rfl, rfl⟩, fp, q⟩
section
variable {g : TG} {tb : TS} {D : Ends} {σ : St} {H : Hp} {caps : List Nat} {tt : TT} {te : TE} {Q : VK}
theorem compS (z : Str) (Pv : Nat → List V → Hp → Prop) (hn : z.cps.toList.length ≤ sizeLine) (h0 : Pv 0 [] H)
    (hs : ∀ i c ys H, z.cps.toList[i]? = some c → Pv i ys H → tt (some (.str ⟨#[c]⟩) :: capV caps σ) H fun b H4 => if b = true then te (some (.str ⟨#[c]⟩) :: capV caps σ) H4 fun v H5 => Pv (i + 1) (ys ++ [v]) H5 else Pv (i + 1) ys H4)
    (hd : ∀ ys H, Pv z.cps.toList.length ys H → ∀ p, H p = none → Q (.ref p) (upd H p (.lst ys))) : CompIt (Its z) caps tt te σ H Q := by
  have hsz : z.cps.toList.length = z.cps.size := by simp
  refine ⟨z.cps.size, fun i ys H => i ≤ z.cps.size ∧ Pv i ys H, by omega, ⟨Nat.zero_le _, h0⟩, ?_⟩
  rintro i ys H2 ⟨hi, p⟩
  by_cases hlt : i < z.cps.size
  · refine .inr ⟨hlt, hlt, ?_⟩
    rintro x H3 ⟨rfl, c, hc, rfl⟩
    have key := hs i c ys H3 (by simpa using hc) p
    have e2 : (fun (b : Bool) (H4 : Hp) => if b = true then te (some (.str ⟨#[c]⟩) :: capV caps σ) H4 fun v H5 => Pv (i + 1) (ys ++ [v]) H5 else Pv (i + 1) ys H4) = fun b H4 => if b = true then te (some (.str ⟨#[c]⟩) :: capV caps σ) H4 fun v H5 => i + 1 ≤ z.cps.size ∧ Pv (i + 1) (ys ++ [v]) H5 else i + 1 ≤ z.cps.size ∧ Pv (i + 1) ys H4 := by
      funext b H4
      have w : i + 1 ≤ z.cps.size := hlt
      simp only [w, true_and]
    rw [e2] at key
    exact key
  · have e : i = z.cps.size := by omega
    subst e
    exact .inl ⟨Nat.le_refl _, hd ys H2 (by rw [hsz]; exact p)⟩
end
section
variable {X : Cx}
def rStarts : V → List V → Hp → VK → Prop := fun x vs H Q => ∃ z y, x = .str z ∧ vs = [.str y] ∧ Q (.bl (Txt.startswith z y)) H
theorem mt_starts : MtM X "str.startswith" rStarts := by
  intro pins s σ H x xs v us Q I rx rs h
  obtain ⟨z, y, rfl, rfl, q⟩ := h
  obtain ⟨t, rfl⟩ := rx
  obtain ⟨u, rfl, t', rfl⟩ := Vals.one rs
  exact SC.startswith ⟨.bl _, H, I, rfl, q⟩
theorem vals_strs : ∀ (n : Nat) (l : List Str), Vals (l.map V.str) (strsFrom n l)
  | _, [] => .nil
  | n, x :: r => .cons ⟨_, rfl⟩ (vals_strs (n + 1) r)
def rSplit : V → List V → Hp → VK → Prop := fun x vs H Q => ∃ z y, x = .str z ∧ vs = [.str y] ∧ 0 < y.length ∧ z.length + 2 ≤ sizeLine ∧ ∀ l, H l = none → Q (.ref l) (upd H l (.lst ((Txt.split z y).map V.str)))
theorem mt_split : MtM X "str.split" rSplit := by
  intro pins s σ H x xs v us Q I rx rs h
  obtain ⟨z, y, rfl, rfl, hy, hz, q⟩ := h
  obtain ⟨t, rfl⟩ := rx
  obtain ⟨u, rfl, t', rfl⟩ := Vals.one rs
  have hy' : (y.length == 0) = false := by simpa using Nat.ne_of_gt hy
  have fin : ∀ (its : List Value) (tk : Nat), Vals ((Txt.split z y).map V.str) its → ((Txt.split z y).map V.str).length ≤ sizeLine → EP X pins σ Q (.ref s.heap.objs.size) { s with toks := tk, heap := s.heap.push { cls := .type "list", data := .seq its.toArray } } := fun its tk r hl =>
    ⟨.ref s.heap.objs.size, _, I.laid (t' := tk) (fun b o e => Heap.get?_push_of_some _ e) (Nat.le_refl _) (show ObjOk X.prog X.w _ _ _ (.lst _) from ⟨hl, its, 0, r, Heap.get?_push_size _ rfl⟩), rfl, q _ (I.hok.fresh (Nat.le_refl _))⟩
  have hpn : (Builtin.Str.partsBetween z (Builtin.Str.occurrences z y 0 z.length (z.length + 1)) y.length).length ≤ sizeLine := by
    have hh : (Builtin.Str.occurrences z y 0 z.length (z.length + 1)).length ≤ z.length + 1 := StrLaws.occ_length_le_len z y 0 z.length (z.length + 1)
    generalize (Builtin.Str.occurrences z y 0 z.length (z.length + 1)) = oc at hh
    generalize z.length = n at hh hz
    unfold Builtin.Str.partsBetween
    simp only [List.length_map, List.length_zip, List.length_cons, List.length_append, List.length_nil]
    refine Nat.le_trans (Nat.min_le_left _ _) ?_
    omega
  cases h1 : (decide (z.length < y.length) || decide (Builtin.Str.strKind z < Builtin.Str.strKind y))
  · cases hf : (Builtin.Str.occurrences z y 0 z.length (z.length + 1)).isEmpty
    · have e : Txt.split z y = Builtin.Str.partsBetween z (Builtin.Str.occurrences z y 0 z.length (z.length + 1)) y.length := (if_neg (ne_true_of_eq_false h1)).trans (if_neg (ne_true_of_eq_false hf))
      rw [e] at fin
      exact call_meets F.slot_str_split (typeIs_str _ _ _) F.entry_str_split (F.args_str_split_2 _ _) (meets_str_split_sep z y t t' h1 hy' hf (by omega) hpn) (fin _ _ (vals_strs _ _) (by rw [List.length_map]; exact hpn))
    · have e : Txt.split z y = [z] := (if_neg (ne_true_of_eq_false h1)).trans (if_pos hf)
      rw [e] at fin
      exact call_meets F.slot_str_split (typeIs_str _ _ _) F.entry_str_split (F.args_str_split_2 _ _) (meets_str_split_not_found z y t t' h1 hy' hf) (fin _ _ (.cons ⟨_, rfl⟩ .nil) (by show 1 ≤ sizeLine; decide))
  · have e : Txt.split z y = [z] := if_pos h1
    rw [e] at fin
    exact call_meets F.slot_str_split (typeIs_str _ _ _) F.entry_str_split (F.args_str_split_2 _ _) (meets_str_split_cannot_occur z y t t' h1) (fin _ _ (.cons ⟨_, rfl⟩ .nil) (by show 1 ≤ sizeLine; decide))
theorem strs_of : ∀ {zs : List Str} {us : List Value}, Vals (zs.map V.str) us → ∃ l : List (Str × Tok), us = strValues l ∧ l.map (·.1) = zs
  | [], _, .nil => ⟨[], rfl, rfl⟩
  | z :: zs, _, .cons ⟨t, e⟩ r => by
    obtain ⟨l, e1, e2⟩ := strs_of r
    exact ⟨(z, t) :: l, by rw [e, e1]; rfl, by rw [List.map_cons, e2]⟩
def rJoin (K : PySem.W.Frag) : V → List V → Hp → VK → Prop := fun x vs H Q => ∃ z a zs, x = .str z ∧ vs = [.ref a] ∧ SqL K H a (zs.map V.str) ∧ JoinOk z zs = true ∧ Q (.str (Txt.join z zs)) H
theorem mt_join : MtM X "str.join" (rJoin X.K) := by
  intro pins s σ H x xs v us Q I rx rs h
  obtain ⟨z, a, zs, rfl, rfl, hq, hj, q⟩ := h
  obtain ⟨t, rfl⟩ := rx
  obtain ⟨u, rfl, ru⟩ := Vals.one rs
  cases ru
  obtain ⟨its, r, p, _⟩ := I.list hq
  obtain ⟨l, rfl, el⟩ := strs_of r
  exact SC.join p.isList el hj fun t' k => ⟨.str _, H, I.tok _, ⟨_, rfl⟩, q⟩
def rSlS : V → Option Int → Option Int → Hp → VK → Prop := fun x lo hi H Q => ∃ z, x = .str z ∧ z.length ≤ sizeLine ∧ Q (.str (Txt.slice z lo hi)) H
theorem sl_str : SlR X rSlS := by
  intro pins s σ H x v vl vu lo hi sl Q I rx hs pl pu h
  obtain ⟨z, rfl, hz, q⟩ := h
  obtain ⟨t, rfl⟩ := rx
  refine ⟨"str", _, F.slot_str_getitem.lookup, typeIs_str _ _ _, ?_⟩
  have fin : ∀ (lo hi : Option Int), (∀ {Q : VK}, Q (.str (Txt.slice z lo hi)) H → (Txt.slice z lo hi).length ≤ sizeLine ∧ ∀ t' k, EP X pins σ Q (.str (Txt.slice z lo hi) t') { s with toks := k }) := fun lo hi {Q} q =>
    ⟨Nat.le_trans (Txt.slice_le z _ _) hz, fun t' k => ⟨.str _, H, I.tok _, ⟨_, rfl⟩, q⟩⟩
  cases pl with
  | none =>
    cases pu with
    | none => exact wpAny_getItem_str_slice (l := none) (u := none) (st := none) hs rfl (post_val_or_str (fin none none q))
    | int j u => exact wpAny_getItem_str_slice (l := none) (u := some (j, u)) (st := none) hs rfl (post_val_or_str (fin none (some j) q))
  | int i u' =>
    cases pu with
    | none => exact wpAny_getItem_str_slice (l := some (i, u')) (u := none) (st := none) hs rfl (post_val_or_str (fin (some i) none q))
    | int j u => exact wpAny_getItem_str_slice (l := some (i, u')) (u := some (j, u)) (st := none) hs rfl (post_val_or_str (fin (some i) (some j) q))
def rIntS : List V → Hp → VK → Prop := fun xs H Q => ∃ z n, xs = [.str z] ∧ PySem.intText? z = some n ∧ z.length ≤ 640 ∧ Q (.int n) H
theorem call_intS : CallR X (.type "int") rIntS := by
  intro pins s σ H xs us Q I r h
  obtain ⟨z, n, rfl, hn, hl, q⟩ := h
  obtain ⟨u, rfl, t, rfl⟩ := vals1 r
  exact PySem.W.KIN.call_text hn hl ⟨.int n, H, I.tok _, ⟨_, rfl⟩, q⟩
end
end L2
namespace L2
open PySem PySem.Spec PyProof.Rows
section
variable {M : Model} {A : Around} {EX : Value → Shared → Prop} {s : Shared} {env : Env}
end
theorem set_flight {M : Model} {A : Around} {EX : Value → Shared → Prop} {s : Shared} {base : Heap} {l : List Env} {e L L' : Addr} {cls a0 : Value} {Q : Unit → Shared → Prop} (R : Heap.HeldW base l e cls a0 L' s.heap)
    (h : ∀ h', Heap.HeldW base l e cls a0 L h' → (∀ b o, s.heap.get? b = some o → (∀ vs, o.data ≠ .fields vs) → h'.get? b = some o) → Q () { s with heap := h' }) : wpAny M A (setFlight (.ref e) (some L)) Q EX s := by
  obtain ⟨r1, r2, r3, oe, vs, T, oT, ts, t1, t2, t3, t4, t5, t6, t7, t8, t9⟩ := R
  have h3 : 3 < ts.size := (Array.getElem?_eq_some_iff.mp t9).1
  have ne : ∀ b o, s.heap.get? b = some o → (∀ ws, o.data ≠ .fields ws) → b ≠ T := fun b o q nf z => by
    rw [z, t7] at q
    cases q
    exact nf ts t8
  unfold setFlight
  refine wpAny_bind (wpAny_field t1 t3 t4 ?_)
  rw [if_pos (show (Value.ref T != Value.none) = true by simp)]
  refine wpAny_setField t7 t8 h3 ?_
  generalize hu : s.heap.update T (Obj.mapFields (·.setIfInBounds 3 ((some L).elim Value.none fun f => rawInt f))) = h'
  have oth : ∀ b, b ≠ T → h'.get? b = s.heap.get? b := fun b hb => by rw [← hu]; exact Heap.get?_update_other _ _ (Ne.symm hb)
  refine h h' ⟨fun b o q => (oth b fun z => by rw [z, t5] at q; cases q).trans (r1 b o q), r2, r3.of_keeps fun b o q nf => ⟨o, (oth b (ne b o q nf)).trans q, rfl⟩, ?_⟩ fun b o q nf => (oth b (ne b o q nf)).trans q
  refine ⟨oe, vs, T, Obj.mapFields (·.setIfInBounds 3 ((some L).elim Value.none fun f => rawInt f)) oT, ts.setIfInBounds 3 ((some L).elim Value.none fun f => rawInt f), (oth e (Ne.symm t6)).trans t1, t2, t3, t4, t5, t6, ?_, Obj.data_mapFields t8 _, ?_⟩
  · rw [← hu]
    exact Heap.get?_update_self _ t7 (Obj.isFreed_of_fields (Obj.data_mapFields t8 _))
  · simp [h3]
section
variable {X : Cx} {pins : List (Addr × Obj)} {σ : St} {H : Hp} {s : Shared}
theorem fun_keep {h h' base : Heap} : ∀ {l : List Env}, h.FunFrames base l → (∀ b ∈ frs l, h'.get? b = h.get? b) → h'.FunFrames base l
  | [], _, _ => trivial
  | env :: l, ⟨hk, ⟨L, o, hf, hn, ho, hd⟩, hr⟩, k => ⟨hk, ⟨L, o, hf, hn, (k L (List.mem_filterMap.mpr ⟨env, .head _, hf⟩)).trans ho, hd⟩, fun_keep hr fun b hb => k b (by
      obtain ⟨v, hv, hb⟩ := List.mem_filterMap.mp hb
      exact List.mem_filterMap.mpr ⟨v, .tail _ hv, hb⟩)⟩
theorem pasC {M : Model} {e : Value} {s' : Shared} {E : XK} {EE EE' : Value → Shared → Prop} {C : Addr} {m : Str → Option Value} {ce : Env} (hst : X.stack = X.env :: X.outer) (hfr : X.env.frame = some X.env.locals) (hex : X.ex = []) (I : Inv X pins σ H s)
    (hc : CXE X.prog X.w X.stack H s E e s') (hC : Loose X pins H C) (hn : s.heap.Ns C m) (hCf : C ∉ frs X.stack) (hcl : ce.locals = C) (hcf : ce.frame = X.env.frame) :
    wpAny M X.A (noteFrame e X.env) (fun _ s2 => ∃ m, s2.heap.Ns ce.locals m ∧ ∀ h', Heap.SameBut ce.locals s2.heap h' →
      wpAny M X.A (PySem.passOn "comprehension.variables-let-go" e ce : Sem Value) (fun _ _ => False) (fun e s3 => wpAny M X.A (leaving X.env e) (fun _ s4 => CXE X.prog X.w X.outer X.H₀ X.s₀ E e s4) EE s3) { s2 with heap := h' }) EE' s' := by
  have hA : X.A.frames = some (X.env :: X.outer) := by rw [← hst]; exact I.ok.frames
  subst hcl
  rw [hst] at hc hCf
  obtain ⟨ea, t, cl, vs, B, H', rfl, os, bare, fly, tup, tn, hok, kB, tB, un, hE⟩ := hc
  obtain ⟨oC, es, ep, ho, hd, rC⟩ := id hn
  have bC : B.get? ce.locals = some oC := kB _ _ ho hC.1 hCf
  refine wpAny_looks_onW hA hfr fly fun h4 held4 up4 => ?_
  refine ⟨m, ⟨oC, es, ep, held4.1 _ _ bC, hd, rC⟩, fun h' sb => ?_⟩
  have hB : ∀ b o, (PySem.W.hideAll B [ce.locals]).get? b = some o → B.get? b = some o ∧ b ≠ ce.locals := fun b o q => ⟨PySem.W.of_hideAll _ q, fun z => by rw [z, PySem.W.hideAll_none _ (List.mem_singleton.mpr rfl)] at q; cases q⟩
  have hS : (PySem.W.hideAll B [ce.locals]).StaysIn B := fun b o q => (hB b o q).1
  have toB : ∀ b o, B.get? b = some o → b ≠ ce.locals → (PySem.W.hideAll B [ce.locals]).get? b = some o := fun b o q n => PySem.W.hideAll_get _ q fun z => n (List.mem_singleton.mp z)
  have held5 : Heap.HeldW (PySem.W.hideAll B [ce.locals]) (X.env :: X.outer) ea cl (.ref t) X.env.locals h' := by
    obtain ⟨f1, f2, f3, oe, ws, T, oT, ts, t1, t2, t3, t4, t5, t6, t7, t8, t9⟩ := PySem.W.heldW_base hS held4
    have nf : ∀ b o ws, h4.get? b = some o → o.data = .fields ws → b ≠ ce.locals := fun b o ws q d z => by
      rw [z, held4.1 _ _ bC] at q
      cases q
      rw [hd] at d
      cases d
    refine ⟨fun b o q => (sb.2 b (hB b o q).2).trans (f1 b o q), f2, fun_keep f3 fun b hb => sb.2 b fun z => hCf (by rw [← z]; exact hb), oe, ws, T, oT, ts, (sb.2 _ (nf _ _ _ t1 t3)).trans t1, t2, t3, t4, t5, t6, (sb.2 _ (nf _ _ _ t7 t8)).trans t7, t8, t9⟩
  have sl7 : ∀ {h6 h7 : Heap}, (∀ b o, h'.get? b = some o → (∀ ws, o.data ≠ .fields ws) → h6.get? b = some o) → h6.UpToSlots h7 → ∀ b o, s'.heap.get? b = some o → (∀ ws, o.data ≠ .fields ws) → b ≠ ce.locals → ∃ sl, h7.get? b = some { o with slots := sl } := fun u6 u7 b o q nd nc => by
    obtain ⟨sl, e4⟩ := up4 b o q nd
    have e5 := (sb.2 b nc).trans e4
    have e6 := u6 b _ e5 nd
    obtain ⟨sl2, e7⟩ := u7 b _ e6 nd
    exact ⟨sl2, e7⟩
  obtain ⟨oe, ws, T, oT, ts, t1, t2, t3, t4, _⟩ := id held5.2.2.2
  unfold PySem.passOn
  refine wpAny_bind (wpAny_field t1 t3 t4 ?_)
  rw [if_neg (show ¬ ((Value.ref T == Value.none) = true) by simp)]
  refine wpAny_bind ?_
  rw [hcf, hfr]
  refine set_flight held5 fun h6 held6 up6 => wpAny_throw ?_
  unfold leaving
  refine wpAny_bind (wpAny_noteFrame_againW hfr held6.2.2.2 ?_)
  refine wpAny_landsW held6 fun h7 fly7 up7 => ?_
  obtain ⟨k1, k2, ⟨_, _, k3⟩, k4⟩ := fly7
  have u := I.base
  rw [hex] at u
  have old : ∀ b o, X.s₀.heap.get? b = some o → b ≠ ce.locals := fun b o q z => by
    have h1 : @LT.lt Nat instLTNat b X.s₀.heap.objs.size := Heap.lt_size q
    have h2 : @LE.le Nat _ X.s₀.heap.objs.size ce.locals := hC.2.2.1
    have z' : @Eq Nat b ce.locals := z
    omega
  have n2 : ∀ b o, X.s₀.heap.get? b = some o → b ∉ frs X.outer → b ∉ frs (X.env :: X.outer) := fun b o e nf z => by
    rcases (frs_cons hfr).mp z with z | z
    · exact I.old e z
    · exact nf z
  have keepB : ∀ b o, X.s₀.heap.get? b = some o → X.H₀ b = none → b ∉ frs X.outer → (PySem.W.hideAll B [ce.locals]).get? b = some o := fun b o e n nf =>
    toB b o (kB b o (u.keep b o e n nf (by simp)) (u.free b o e n (by simp)) (n2 b o e nf)) (old b o e)
  have thereB : ∀ b o, X.s₀.heap.get? b = some o → b ∉ frs X.outer → ∃ o', (PySem.W.hideAll B [ce.locals]).get? b = some o' := fun b o e nf => by
    obtain ⟨o', e1⟩ := u.there b o e (by simp)
    obtain ⟨o2, e2⟩ := tB b o' e1 (n2 b o e nf)
    exact ⟨o2, toB b o2 e2 (old b o e)⟩
  have hC' : H' ce.locals = none := un.free _ _ ho hC.1 (by simp)
  have hok' : HOk X.prog X.w H' (PySem.W.hideAll B [ce.locals]) := fun a o e => by
    have q : ObjOk X.prog X.w H' B a o := hok a o e
    refine q.stay (fun c u hc e' => toB c u e' fun z => ?_) (fun c e' => e') fun c zs e' => e'
    rw [← z] at hC'
    rcases hc with hc | hc
    · rw [hc, e] at hC'; cases hC'
    · rw [hc] at hC'; cases hC'
  have tup7 : h7.TupAt t vs := by
    obtain ⟨o, n, q, c, d⟩ := tup
    have nd : ∀ ws, o.data ≠ .fields ws := fun ws z => by rw [d] at z; cases z
    have nc : t ≠ ce.locals := fun z => by rw [z, bC] at tn; cases tn
    obtain ⟨sl, e⟩ := sl7 up6 up7 t o q nd nc
    exact ⟨_, n, e, c, d⟩
  have fslots : ∀ b o, s'.heap.get? b = some o → b ∈ frs X.outer → ∃ sl, h7.get? b = some { o with slots := sl } := fun b o e hb => by
    have hb' : b ∈ frs (X.env :: X.outer) := (frs_cons hfr).mpr (.inr hb)
    obtain ⟨_, o', ho', hd'⟩ := fly.2.2.1.mem (show b ∈ (X.env :: X.outer).filterMap (·.frame) from hb')
    rw [e] at ho'
    cases ho'
    exact sl7 up6 up7 b o e hd' fun z => hCf (by rw [← z]; exact hb')
  refine ⟨ea, t, cl, vs, _, H', rfl, by rw [os]; exact I.os, bare, ⟨k1, k2, k3, k4⟩, tup7, PySem.W.fresh_of_stays hS tn, hok', keepB, thereB, ?_, hE⟩
  refine ⟨fun b o e n nf _ => k1 _ _ (keepB b o e n nf), fun b o e n hb _ => ?_, fun b o e n _ => ?_, fun b o e _ => ?_, fun b zs e => un.tups b zs (u.tups b zs e), fun b o v e => un.frzs b o v (u.frzs b o v e), fun b ps e => ?_⟩
  · obtain ⟨sl, e1⟩ := u.slot b o e n hb (by simp)
    have n1 := u.free b o e n (by simp)
    obtain ⟨sl2, e2⟩ := un.slot b _ e1 n1 ((frs_cons hfr).mpr (.inr hb)) (by simp)
    obtain ⟨sl3, e3⟩ := fslots b _ e2 hb
    exact ⟨sl3, e3⟩
  · have n1 := u.free b o e n (by simp)
    obtain ⟨o', e1⟩ := u.there b o e (by simp)
    exact un.free b o' e1 n1 (by simp)
  · obtain ⟨o', e1⟩ := u.there b o e (by simp)
    obtain ⟨o2, e2⟩ := un.there b o' e1 (by simp)
    by_cases hb : b ∈ frs X.outer
    · obtain ⟨sl, e3⟩ := fslots b _ e2 hb
      exact ⟨_, e3⟩
    · obtain ⟨o3, e3⟩ := thereB b o e hb
      exact ⟨o3, k1 _ _ e3⟩
  · obtain ⟨m1, e1⟩ := u.tbls b ps e
    obtain ⟨m2, e2⟩ := un.tbls b _ e1
    exact ⟨m1 ++ m2, by rw [e2, Array.append_assoc]⟩
end
section
variable {prog : Program} {w : World} {A : Around} {R : Result → Shared → Prop} {s : Shared}
theorem comp_loopE {elt target iter : Expr} {ifs : List Expr} {scope : Scope} {pos : Pos} {it acc : Value} {env : Env} (I : Nat → Shared → Prop)
    (turn : ∀ n s, I n s → wpAny (model prog w) A (pyNext it) (fun r s₁ => match r with
      | none => R (.ok .next) s₁
      | some v => wpAny (model prog w) A (letOwnedTupleGo target it v) (fun _ s₁ => wpAny (model prog w) A (assign target env v) (fun _ s₂ =>
          wpAny (model prog w) A (forIn ifs true fun c r => if r = true then do let ok ← isTrue c env (eval c env); pure (ForInStep.yield ok) else pure (ForInStep.yield r)) (fun ok s₃ =>
            if ok = true then wpAny (model prog w) A (eval elt env) (fun x s₄ =>
              wpAny (model prog w) A (call (.builtin "list.append") [acc, x]) (fun _ s₅ => ∃ m, m < n ∧ I m s₅) (fun _ _ => False) s₄) (notedBy (model prog w) A env fun x s' => R (.error x) s') s₃
            else ∃ m, m < n ∧ I m s₃) (fun _ _ => False) s₂) (fun _ _ => False) s₁) (fun _ _ => False) s₁) (fun _ _ => False) s)
    (n : Nat) (h : I n s) :
    codeAny (model prog w) A (.compLoop (.ListComp elt [⟨target, iter, ifs, 0⟩] scope pos) 0 it acc env) R s := by
  refine codeAny_loop rfl I (fun n s hI => ?_) n h
  show wpAny _ A ((compTurn (.ListComp elt [⟨target, iter, ifs, 0⟩] scope pos) 0 it acc env).onRaise (fun x => do noteFrame x env; theTreesLotGoes x)) _ _ s
  refine wpAny_noted ?_
  rw [compTurn_list]
  refine wpAny_bind (wpAny_standAt (wpAny_bind (wpAny_mono (turn n s hI) (fun r s₁ h₁ => ?_) fun _ _ h' => h'.elim)))
  cases r with
  | none => exact wpAny_pure h₁
  | some v =>
    refine wpAny_bind (wpAny_mono h₁ (fun _ s₁ h₁ => ?_) fun _ _ h' => h'.elim)
    refine wpAny_bind (wpAny_mono h₁ (fun _ s₂ h₂ => wpAny_bind (wpAny_mono h₂ (fun ok s₃ h₃ => ?_) fun _ _ h' => h'.elim)) fun _ _ h' => h'.elim)
    cases ok with
    | false => exact wpAny_pure ⟨rfl, h₃⟩
    | true =>
      exact wpAny_bind (wpAny_bind (wpAny_mono h₃ (fun x s₄ h₄ => wpAny_bind (wpAny_mono h₄ (fun _ s₅ h₅ => wpAny_pure (wpAny_pure ⟨rfl, h₅⟩)) fun _ _ h' => h'.elim)) fun _ _ h' => h'))
end
section
variable {X : Cx}
end
end L2
namespace Tx
open PySem PySem.NumText
def neg (l : List Nat) : Bool := match l with
  | 45 :: _ => true
  | _ => false
def figs (l : List Nat) : List Nat := match l with
  | 45 :: r => r
  | _ => l
theorem figs_of_neg {l : List Nat} (h : neg l = true) : l = 45 :: figs l := by
  unfold neg at h
  split at h
  · rfl
  · cases h
theorem figs_of_not {l : List Nat} (h : neg l = false) : figs l = l := by
  unfold neg at h
  unfold figs
  split at h
  · cases h
  · rfl
structure Wr (l : List Nat) : Prop where
  one : 1 ≤ (figs l).length
  most : (figs l).length ≤ 60
  all : ∀ c ∈ figs l, 48 ≤ c ∧ c ≤ 57
  head : ∀ r, figs l = 48 :: r → r = [] ∧ neg l = false
noncomputable instance (l : List Nat) : Decidable (Wr l) := Classical.propDecidable _
def valOf (l : List Nat) : Int := if neg l then -((digitsVal (figs l) : Nat) : Int) else ((digitsVal (figs l) : Nat) : Int)
theorem Wr.len {z : Str} (w : Wr z.cps.toList) : z.length ≤ 61 := by
  have h1 : z.length = z.cps.toList.length := by simp [Str.length]
  have h2 := w.most
  cases h : neg z.cps.toList with
  | true => rw [h1, figs_of_neg h]; simp only [List.length_cons]; omega
  | false => rw [h1, ← figs_of_not h]; omega
theorem Wr.reads {z : Str} (w : Wr z.cps.toList) : intText? z = some (valOf z.cps.toList) := by
  have hl := w.len
  have ne : figs z.cps.toList ≠ [] := fun e => by
    have := w.one
    rw [e] at this
    simp at this
  unfold valOf
  cases h : neg z.cps.toList with
  | true => exact intText_neg (figs_of_neg h) w.all ne (by omega)
  | false =>
    have e := figs_of_not h
    have hd := w.all
    rw [e] at hd ne ⊢
    exact intText_digits hd ne (by omega)
end Tx
namespace L2
open PySem PySem.Spec PyProof.Rows
theorem w_tys {K : PySem.W.Frag} {z : Str} {H : Hp} : tyV K "str" (.str z) H = True := eq_true rfl
end L2
namespace Tx
open PySem
theorem ext {a b : Str} (e : a.cps.toList = b.cps.toList) : a = b := by
  obtain ⟨x⟩ := a
  obtain ⟨y⟩ := b
  exact congrArg Str.mk (Array.toList_inj.mp e)
theorem len_list (z : Str) : z.length = z.cps.toList.length := by simp [Str.length]
theorem sl_from {z : Str} {i : Int} (h0 : 0 ≤ i) (h : i ≤ z.length) : (Txt.slice z (some i) none).cps.toList = z.cps.toList.drop i.toNat := by
  rw [PyProof.Rows.slice_from_eq h0 h rfl]
  show List.take _ _ = _
  rw [List.take_of_length_le]
  rw [List.length_drop, ← len_list]
  omega
theorem starts_one {z : Str} {c : Nat} : Txt.startswith z ⟨#[c]⟩ = decide (z.cps.toList.head? = some c) := by
  obtain ⟨⟨l⟩⟩ := z
  cases l with
  | nil => simp [Txt.startswith, Str.length]
  | cons a r =>
    unfold Txt.startswith Builtin.Str.subAt
    simp only [Str.length, List.size_toArray, List.length_cons, List.length_nil, Nat.zero_add, List.head?_cons, Option.some.injEq]
    rw [Bool.eq_iff_iff]
    simp
theorem minus : (Str.ofString "-") = ⟨#[45]⟩ := by decide +kernel
theorem nought : (Str.ofString "0") = ⟨#[48]⟩ := by decide +kernel
theorem neg_head {l : List Nat} : neg l = decide (l.head? = some 45) := by
  cases l with
  | nil => rfl
  | cons a r =>
    by_cases h : a = 45
    · subst h
      simp [neg]
    · simp only [List.head?_cons, Option.some.injEq, h, decide_false]
      unfold neg
      split
      · rename_i z
        cases z
        exact absurd rfl h
      · rfl
theorem starts_minus {z : Str} : Txt.startswith z (Str.ofString "-") = neg z.cps.toList := by rw [minus, starts_one, neg_head]
end Tx
namespace Tx
open PySem
def words (z : Str) : List Str := Txt.split z (Str.ofString ",")
noncomputable def poly (z : Str) : Option (List Int) := if (words z).length ≤ 13 ∧ ∀ w, w ∈ words z → Wr w.cps.toList then some ((words z).map fun w => valOf w.cps.toList) else none
theorem poly_some {z : Str} {ms : List Int} (h : poly z = some ms) : (words z).length ≤ 13 ∧ (∀ w, w ∈ words z → Wr w.cps.toList) ∧ ms = (words z).map fun w => valOf w.cps.toList := by
  unfold poly at h
  split at h
  · rename_i c
    exact ⟨c.1, c.2, (Option.some.inj h).symm⟩
  · cases h
theorem poly_of {z : Str} (h1 : (words z).length ≤ 13) (h2 : ∀ w, w ∈ words z → Wr w.cps.toList) : poly z = some ((words z).map fun w => valOf w.cps.toList) := if_pos ⟨h1, h2⟩
end Tx
namespace Tx
open PySem PySem.NumText
theorem fold_lt : ∀ (l : List Nat) (a : Nat), (∀ c ∈ l, 48 ≤ c ∧ c ≤ 57) → l.foldl (fun acc c => acc * 10 + (c - 48)) a < (a + 1) * 10 ^ l.length
  | [], a, _ => by simp
  | c :: l, a, h => by
    have hc := h c (.head _)
    have ih := fold_lt l (a * 10 + (c - 48)) fun x hx => h x (.tail _ hx)
    refine Nat.lt_of_lt_of_le ih ?_
    rw [List.length_cons, Nat.pow_succ, Nat.mul_comm (10 ^ l.length) 10, ← Nat.mul_assoc]
    exact Nat.mul_le_mul_right _ (by omega)
theorem str_len {x : Int} (h : x.natAbs < 10 ^ 60) : (Str.ofString (toString x)).length ≤ 61 := by
  rw [ofString_length]
  exact int_text_length_le10 (by decide) h
theorem texts_sum : ∀ (ms : List Int), (∀ x, x ∈ ms → x.natAbs < 10 ^ 60) → ((ms.map fun x => Str.ofString (toString x)).map (·.length)).sum ≤ 61 * ms.length
  | [], _ => Nat.le_refl _
  | x :: ms, h => by
    have ih := texts_sum ms fun y hy => h y (.tail _ hy)
    have hx := str_len (h x (.head _))
    simp only [List.map_cons, List.sum_cons, List.length_cons]
    omega
theorem comma : (Str.ofString ",").length = 1 := by decide +kernel
theorem join_len {ms : List Int} (hl : ms.length ≤ 14) (h : ∀ x, x ∈ ms → x.natAbs < 10 ^ 60) : (Txt.join (Str.ofString ",") (ms.map fun x => Str.ofString (toString x))).length ≤ 868 := by
  have h1 := texts_sum ms h
  have h2 := StrLaws.join_length_le (Str.ofString ",") (ms.map fun x => Str.ofString (toString x))
  rw [comma, List.length_map] at h2
  unfold Txt.join
  rw [StrLaws.glued_eq_join]
  omega
end Tx
namespace L2
open PySem PySem.Spec PyProof.Rows
@[irreducible] def PAj (X : Cx) (es : List Expr) (ta : TA) : Prop := PA X es ta
theorem PAj.of {X : Cx} {es : List Expr} {ta : TA} (h : PA X es ta) : PAj X es ta := by unfold PAj; exact h
end L2
namespace L2
open PySem
theorem seqX {t u : TS} {D : Ends} {σ : St} {H : Hp} (h : ∀ X : St → Hp → Prop, (∀ σ' H', u D σ' H' → X σ' H') → t { D with nx := X } σ H) : tSeq t u D σ H := h (u D) fun _ _ z => z
theorem byX {G : Prop} (h : ∀ X : Prop, (G → X) → X) : G := h G id
end L2
namespace L2
open PySem PySem.Spec PyProof.Rows
def entsOf (w : World) (l : List (Str × Tok × Value)) : Array DictEntry := (l.map fun x => ({ hash := PyData.keyHash w.params x.1, key := .str x.1 x.2.1, val := x.2.2 } : DictEntry)).toArray
structure KDict (K : PySem.W.Frag) (w : World) (a : Addr) (l : List (Str × Tok × Value)) : Prop where
  at_ : ∃ ep, K.lookup a = some { cls := .type "dict", data := .dict (entsOf w l) ep }
  no : (a == sysModules) = false
  nd : (l.map (·.1)).Nodup
def kvsOf (l : List (Str × Tok × Value)) : List (Key × Value) := l.map fun x => (Sum.inr x.1, x.2.2)
def atK (l : List (Str × Tok × Value)) (z : Str) : Option Value := (l.find? fun x => x.1 = z).map (·.2.2)
theorem kvs_at (l : List (Str × Tok × Value)) (z : Str) : valueAt (kvsOf l) (Sum.inr z : Key) = atK l z := by
  induction l with
  | nil => rfl
  | cons x l ih =>
    unfold valueAt kvsOf atK at *
    simp only [List.map_cons, List.find?_cons]
    by_cases c : x.1 = z
    · have : (Sum.inr x.1 : Key) = Sum.inr z := by rw [c]
      simp [c]
    · have : ¬ (Sum.inr x.1 : Key) = Sum.inr z := fun e => c (Sum.inr.inj e)
      simp only [decide_eq_false c, decide_eq_false this]
      exact ih
theorem kvs_pairs {P : Program} {w : World} : ∀ l : List (Str × Tok × Value), Pairs (mixKind P w) (l.map fun x => ({ hash := PyData.keyHash w.params x.1, key := .str x.1 x.2.1, val := x.2.2 } : DictEntry)) (kvsOf l)
  | [] => .nil
  | x :: l => .cons (mixKind_str P w x.1 x.2.1) rfl (kvs_pairs l)
theorem KDict.dict {P : Program} {w : World} {K : PySem.W.Frag} {a : Addr} {l : List (Str × Tok × Value)} {h : Heap} (d : KDict K w a l) (k : K.In h) : h.DictOf (mixKind P w) a (kvsOf l) := by
  obtain ⟨ep, e⟩ := d.at_
  refine ⟨_, _, ep, k _ _ e, ⟨rfl, rfl, rfl⟩, rfl, fun x hx => ?_, ?_, ?_⟩
  · unfold entsOf at hx
    rw [List.mem_toArray, List.mem_map] at hx
    obtain ⟨y, _, rfl⟩ := hx
    exact ⟨Sum.inr y.1, mixKind_str P w y.1 y.2.1, rfl⟩
  · unfold entsOf
    exact kvs_pairs l
  · have e2 : (kvsOf l).map (·.1) = (l.map (·.1)).map (Sum.inr : Str → Key) := by
      unfold kvsOf
      rw [List.map_map, List.map_map]
      rfl
    rw [e2]
    exact List.Pairwise.map _ (fun _ _ n z => n (Sum.inr.inj z)) d.nd
def tKGet (l : List (Str × Tok × Value)) (ti : TE) : TE := fun σ H Q => ti σ H fun y H1 => ∃ z b, y = .str z ∧ atK l z = some (.ref b) ∧ Q (.ref b) H1
def tKIn (l : List (Str × Tok × Value)) (ti : TE) : TE := fun σ H Q => ti σ H fun y H1 => ∃ z, y = .str z ∧ Q (.bl (atK l z).isSome) H1
def tKNot (l : List (Str × Tok × Value)) (ti : TE) : TE := fun σ H Q => ti σ H fun y H1 => ∃ z, y = .str z ∧ Q (.bl (!(atK l z).isSome)) H1
section
variable {X : Cx} {x : Str} {p pos : Pos} {i : Expr} {ti : TE} {a : Addr} {l : List (Str × Tok × Value)}
theorem pe_kget (D : KDict X.K X.w a l) (hg : Gl X x) (hm : X.mg x = some (.ref a)) (hi : PE X i ti) (hs : NoSl i) (hdb : (x == ("__debug__" : Str)) = false := by decide) : PE X (.Subscript (.Name x p) i pos) (tKGet l ti) := by
  intro pins s σ H Q I h
  refine subD_of PySem.F.slot_dict_getitem.lookup hs (ld_glob I hg hm ?_ hdb)
  refine thn (hi pins s σ H _ I h) fun iv s2 ⟨y, H2, I2, ry, z, b, ey, g, q2⟩ => ?_
  subst ey
  have dd : s2.heap.DictOf (mixKind X.prog X.w) a (kvsOf l) := D.dict I2.kIn
  exact ⟨dd.typeIs, wpAny_getItem_of (kV_is (k := Sum.inr z) ry) dd.mapOf ((kvs_at l z).trans g) ⟨.ref b, H2, I2.tok _, rfl, q2⟩⟩
theorem pc_kin (D : KDict X.K X.w a l) (hg : Gl X x) (hm : X.mg x = some (.ref a)) (hi : PE X i ti) (hdb : (x == ("__debug__" : Str)) = false := by decide) : PC X .In i (.Name x p) (tKIn l ti) := by
  intro pins s σ H Q I h
  refine thn (hi pins s σ H _ I h) fun iv s2 ⟨y, H2, I2, ry, z, ey, q2⟩ => ld_glob I2 hg hm ?_ hdb
  subst ey
  have dd : s2.heap.DictOf (mixKind X.prog X.w) a (kvsOf l) := D.dict I2.kIn
  refine wpAny_in_of (kV_is (k := Sum.inr z) ry) D.no dd.mapOf ?_
  rw [kvs_at]
  exact ⟨.bl _, H2, I2.tok _, rfl, q2⟩
theorem pc_knot (D : KDict X.K X.w a l) (hg : Gl X x) (hm : X.mg x = some (.ref a)) (hi : PE X i ti) (hdb : (x == ("__debug__" : Str)) = false := by decide) : PC X .NotIn i (.Name x p) (tKNot l ti) := by
  intro pins s σ H Q I h
  refine thn (hi pins s σ H _ I h) fun iv s2 ⟨y, H2, I2, ry, z, ey, q2⟩ => ld_glob I2 hg hm ?_ hdb
  subst ey
  have dd : s2.heap.DictOf (mixKind X.prog X.w) a (kvsOf l) := D.dict I2.kIn
  refine wpAny_notIn_of (kV_is (k := Sum.inr z) ry) D.no dd.mapOf ?_
  rw [kvs_at]
  exact ⟨.bl _, H2, I2.tok _, rfl, q2⟩
end
def tCallV (T : Addr → Sp → Prop) (E : XK) (tf : TE) (t : TA) : TE := fun σ H Q => tf σ H fun f H1 => ∃ g sp, f = .ref g ∧ T g sp ∧ t σ H1 fun vs H2 => sp vs H2 Q E
structure TabOk (P : Program) (w : World) (K : PySem.W.Frag) (mg : Str → Option Value) (base : Heap) (CX : CXT) (k : Nat) (T : Addr → Sp → Prop) : Prop where
  ok : ∀ g sp, T g sp → ∃ fd ps, FnOk P w K mg base CX k g fd ps sp ∧ Binds K fd ps [] ∧ PySem.W.keepIn K (.ref g) = true
section
variable {X : Cx} {CX : CXT} {k j : Nat} {E : XK} {T : Addr → Sp → Prop} {pos : Pos} {fe e : Expr} {es : List Expr} {tf : TE} {t : TA}
theorem pe_callV (hT : TabOk X.prog X.w X.K X.mg X.base CX j T) (hf : PE X fe tf) (hr : Room k X.A) (hx : Passes CX X E) (ha : PA X (e :: es) t) (hjk : j ≤ k := by decide)
    (hev : eval (.Call fe (e :: es) [] pos) X.env = (do callWith pos (← eval fe X.env) [] (backTo pos (starEach (e :: es) X.env)) (backToKw pos (keywordEach [] X.env))) := by rfl)
    (he : starEach (e :: es) X.env = (false, eval e X.env) :: starEach es X.env := by rfl) (hpl : (backTo pos (starEach es X.env)).any (·.1) = false := by rfl) :
    PE X (.Call fe (e :: es) [] pos) (tCallV T E tf t) := by
  intro pins s σ H Q I h
  rw [hev]
  refine wpAny_bind (thn (hf pins s σ H _ I h) fun u s1 ⟨v, H1, I1, rv, g, sp, ev, tg, q⟩ => ?_)
  subst ev
  obtain rfl : u = Value.ref g := rv
  obtain ⟨fd, ps, F, b, kp⟩ := hT.ok g sp tg
  refine PySem.W.callWith_K (h₀ := X.base) I.ok.mod.kin kp (thn (ha pos pins s1 σ H1 _ I1 q) fun us s2 ⟨vs, H2, I2, r, q2⟩ => ⟨I2.kIn, ?_⟩) he hpl
  exact run_fn F (hr.mono hjk) b .nil hx I2 r (by rw [List.append_nil]; exact q2)
end
end L2
namespace Tx
open PySem PySem.NumText
theorem cut_eq {c : Nat} : ∀ {a b X Y : List Nat}, c ∉ a → c ∉ b → a ++ c :: X = b ++ c :: Y → a = b ∧ X = Y
  | [], [], X, Y, _, _, h => ⟨rfl, (List.cons.inj h).2⟩
  | [], y :: b, X, Y, _, hb, h => absurd (by rw [← (List.cons.inj h).1]; exact .head _) hb
  | x :: a, [], X, Y, ha, _, h => absurd (by rw [(List.cons.inj h).1]; exact .head _) ha
  | x :: a, y :: b, X, Y, ha, hb, h => by
    obtain ⟨e1, e2⟩ := List.cons.inj h
    obtain ⟨e3, e4⟩ := cut_eq (fun z => ha (.tail _ z)) (fun z => hb (.tail _ z)) e2
    exact ⟨by rw [e1, e3], e4⟩
theorem app_list (a b : Str) : (a ++ b).cps.toList = a.cps.toList ++ b.cps.toList := by
  show (a.cps ++ b.cps).toList = _
  simp
theorem join_cons (c : Nat) (w v : Str) (r : List Str) : (Str.join ⟨#[c]⟩ (w :: v :: r)).cps.toList = w.cps.toList ++ c :: (Str.join ⟨#[c]⟩ (v :: r)).cps.toList := by
  show (w ++ (⟨#[c]⟩ : Str) ++ Str.join ⟨#[c]⟩ (v :: r)).cps.toList = _
  rw [app_list, app_list, List.append_assoc]
  rfl
theorem join_inj {c : Nat} : ∀ (A B : List Str), A ≠ [] → B ≠ [] → (∀ w ∈ A, c ∉ w.cps.toList) → (∀ w ∈ B, c ∉ w.cps.toList) → (Str.join ⟨#[c]⟩ A).cps.toList = (Str.join ⟨#[c]⟩ B).cps.toList → A = B
  | [], _, h, _, _, _, _ => absurd rfl h
  | _, [], _, h, _, _, _ => absurd rfl h
  | [a], [b], _, _, _, _, h => by rw [ext (a := a) (b := b) h]
  | [a], b :: v :: r, _, _, ha, _, h => by
    rw [join_cons] at h
    have h : a.cps.toList = b.cps.toList ++ c :: (Str.join ⟨#[c]⟩ (v :: r)).cps.toList := h
    exact absurd (by rw [h]; simp) (ha a (.head _))
  | a :: v :: r, [b], _, _, _, hb, h => by
    rw [join_cons] at h
    have h : a.cps.toList ++ c :: (Str.join ⟨#[c]⟩ (v :: r)).cps.toList = b.cps.toList := h
    exact absurd (by rw [← h]; simp) (hb b (.head _))
  | a :: v :: r, b :: u :: t, _, _, ha, hb, h => by
    rw [join_cons, join_cons] at h
    obtain ⟨e1, e2⟩ := cut_eq (ha a (.head _)) (hb b (.head _)) h
    rw [ext e1, join_inj (v :: r) (u :: t) (List.cons_ne_nil _ _) (List.cons_ne_nil _ _) (fun w hw => ha w (.tail _ hw)) (fun w hw => hb w (.tail _ hw)) e2]
theorem split_ne (z : Str) (y : Str) : Txt.split z y ≠ [] := by
  unfold Txt.split
  split
  · exact List.cons_ne_nil _ _
  · split
    · exact List.cons_ne_nil _ _
    · rw [StrLaws.partsBetween_eq]
      obtain ⟨p, q, e⟩ := StrLaws.partsFrom_ne z y.length 0 (Builtin.Str.occurrences z y 0 z.length (z.length + 1))
      rw [e]
      exact List.cons_ne_nil _ _
theorem split_of {c : Nat} {ws : List Str} (h0 : ws ≠ []) (h : ∀ w ∈ ws, c ∉ w.cps.toList) : Txt.split (Str.join ⟨#[c]⟩ ws) ⟨#[c]⟩ = ws := by
  refine join_inj (c := c) _ _ (split_ne _ _) h0 (StrLaws.split_free _ c) h ?_
  rw [StrLaws.join_split]
def dg (m : Nat) : List Nat := (Nat.toDigits 10 m).map Char.toNat
theorem digit_all : ∀ d : Nat, d < 10 → 48 ≤ (Nat.digitChar d).toNat ∧ (Nat.digitChar d).toNat ≤ 57 := by decide
theorem dg_all (m : Nat) : ∀ c ∈ dg m, 48 ≤ c ∧ c ≤ 57 := by
  unfold dg
  induction m using Nat.strongRecOn with
  | _ m ih =>
    by_cases h : m < 10
    · rw [Nat.toDigits_of_lt_base h]
      intro c hc
      rw [List.map_cons, List.map_nil, List.mem_singleton] at hc
      rw [hc]
      exact digit_all m h
    · have hm : m % 10 < 10 := Nat.mod_lt m (by decide)
      have t : Nat.toDigits 10 (m / 10) ++ Nat.toDigits 10 (m % 10) = Nat.toDigits 10 (10 * (m / 10) + m % 10) := Nat.toDigits_append_toDigits (by decide) (by omega) hm
      rw [Nat.div_add_mod] at t
      rw [← t, List.map_append, Nat.toDigits_of_lt_base hm]
      intro c hc
      rcases List.mem_append.mp hc with z | z
      · exact ih (m / 10) (by omega) c z
      · rw [List.map_cons, List.map_nil, List.mem_singleton] at z
        rw [z]
        exact digit_all _ hm
theorem dg_val (m : Nat) : digitsVal (dg m) = m := PySem.W.KIN.val_back m
theorem dg_len {k m : Nat} (hk : 1 ≤ k) (h : m < 10 ^ k) : (dg m).length ≤ k := by
  unfold dg
  rw [List.length_map]
  exact PyProof.Rows.digits10_le hk h
theorem dg_one (m : Nat) : 1 ≤ (dg m).length := by
  unfold dg
  rw [List.length_map]
  exact PyProof.Rows.tDigits_len_ge 10 m
theorem dg_head {m : Nat} {r : List Nat} (h : dg m = 48 :: r) : r = [] := by
  have h1 := dg_val m
  rw [h, digitsVal_zero] at h1
  have h2 : digitsVal r < 10 ^ r.length := by
    have := fold_lt r 0 fun c hc => dg_all m c (by rw [h]; exact .tail _ hc)
    rw [Nat.zero_add, Nat.one_mul] at this
    exact this
  cases r with
  | nil => rfl
  | cons c r =>
    rw [h1] at h2
    have := dg_len (k := (c :: r).length) (by simp) h2
    rw [h] at this
    simp at this
    omega
theorem not_neg {l : List Nat} (h : ∀ c ∈ l, 48 ≤ c ∧ c ≤ 57) : neg l = false := by
  unfold neg
  split
  · have := h 45 (.head _)
    omega
  · rfl
def tx (x : Int) : Str := Str.ofString (toString x)
theorem tx_nat (m : Nat) : (tx (m : Int)).cps.toList = dg m := PySem.W.KIN.signs_num m
theorem tx_neg (m : Nat) : (tx (-((m + 1 : Nat) : Int))).cps.toList = 45 :: dg (m + 1) := by
  unfold tx
  have e1 : toString (-((m + 1 : Nat) : Int)) = "-" ++ toString ((m + 1 : Nat) : Int) := rfl
  rw [e1]
  have e2 : (Str.ofString ("-" ++ toString ((m + 1 : Nat) : Int))).cps.toList = 45 :: (Str.ofString (toString ((m + 1 : Nat) : Int))).cps.toList := by
    simp [Str.ofString_eq_toList]
  rw [e2, PySem.W.KIN.signs_num]
  rfl
theorem tx_wr {x : Int} (h : x.natAbs < 10 ^ 60) : Wr (tx x).cps.toList ∧ valOf (tx x).cps.toList = x := by
  rcases (show (∃ m : Nat, x = m) ∨ ∃ m : Nat, x = -((m + 1 : Nat) : Int) from by
    rcases (show x < 0 ∨ 0 ≤ x by omega) with z | z
    · exact .inr ⟨x.natAbs - 1, by omega⟩
    · exact .inl ⟨x.toNat, by omega⟩) with ⟨m, rfl⟩ | ⟨m, rfl⟩
  · rw [tx_nat]
    have nn := not_neg (dg_all m)
    have ef := figs_of_not nn
    refine ⟨⟨by rw [ef]; exact dg_one m, by rw [ef]; exact dg_len (by decide) (by simpa using h), by rw [ef]; exact dg_all m, fun r e => ⟨dg_head (by rw [← ef]; exact e), nn⟩⟩, ?_⟩
    unfold valOf
    rw [nn, if_neg (by decide), ef, dg_val]
  · rw [tx_neg]
    have ef : figs (45 :: dg (m + 1)) = dg (m + 1) := rfl
    refine ⟨⟨by rw [ef]; exact dg_one _, by rw [ef]; exact dg_len (by decide) (by rw [Int.natAbs_neg, Int.natAbs_natCast] at h; exact h), by rw [ef]; exact dg_all _, fun r e => ?_⟩, ?_⟩
    · rw [ef] at e
      have h1 := dg_head e
      have h2 := dg_val (m + 1)
      rw [e, h1] at h2
      exact absurd h2 (by show ¬ (0 * 10 + (48 - 48) = m + 1); omega)
    · show (if true = true then -((digitsVal (figs (45 :: dg (m + 1))) : Nat) : Int) else _) = _
      rw [if_pos rfl, ef, dg_val]
theorem tx_signs (x : Int) : ∀ c ∈ (tx x).cps.toList, c = 45 ∨ (48 ≤ c ∧ c ≤ 57) := by
  rcases (show (∃ m : Nat, x = m) ∨ ∃ m : Nat, x = -((m + 1 : Nat) : Int) from by
    rcases (show x < 0 ∨ 0 ≤ x by omega) with z | z
    · exact .inr ⟨x.natAbs - 1, by omega⟩
    · exact .inl ⟨x.toNat, by omega⟩) with ⟨m, rfl⟩ | ⟨m, rfl⟩
  · rw [tx_nat]
    exact fun c hc => .inr (dg_all m c hc)
  · rw [tx_neg]
    intro c hc
    rcases List.mem_cons.mp hc with z | z
    · exact .inl z
    · exact .inr (dg_all _ c z)
def shown (f : List Int) : Str := Txt.join (Str.ofString ",") (f.map tx)
theorem comma_is : (Str.ofString ",") = ⟨#[44]⟩ := by decide +kernel
theorem space_is : (Str.ofString " ") = ⟨#[32]⟩ := by decide +kernel
theorem join_eq (y : Str) (ws : List Str) : Txt.join y ws = Str.join y ws := by
  unfold Txt.join
  exact StrLaws.glued_eq_join y ws
theorem shown_words {f : List Int} (h0 : f ≠ []) : words (shown f) = f.map tx := by
  unfold words shown
  rw [join_eq, comma_is]
  refine split_of (by simpa using h0) fun w hw z => ?_
  obtain ⟨x, _, rfl⟩ := List.mem_map.mp hw
  rcases tx_signs x 44 z with e | e <;> omega
theorem shown_poly {f : List Int} (h0 : f ≠ []) (hl : f.length ≤ 13) (h : ∀ x, x ∈ f → x.natAbs < 10 ^ 60) : poly (shown f) = some f := by
  have e := poly_of (z := shown f) (by rw [shown_words h0, List.length_map]; exact hl) (fun w hw => by
    rw [shown_words h0] at hw
    obtain ⟨x, hx, rfl⟩ := List.mem_map.mp hw
    exact (tx_wr (h x hx)).1)
  rw [e, shown_words h0, List.map_map]
  refine congrArg some ((List.map_congr_left fun x hx => ?_).trans (List.map_id f))
  exact (tx_wr (h x hx)).2
theorem join_signs {c : Nat} {P : Nat → Prop} (hc : P c) : ∀ (ws : List Str), (∀ w ∈ ws, ∀ x ∈ w.cps.toList, P x) → ∀ x ∈ (Str.join ⟨#[c]⟩ ws).cps.toList, P x
  | [], _, x, hx => by cases hx
  | [w], h, x, hx => h w (.head _) x hx
  | w :: v :: r, h, x, hx => by
    rw [join_cons] at hx
    rcases List.mem_append.mp hx with z | z
    · exact h w (.head _) x z
    · rcases List.mem_cons.mp z with z | z
      · rw [z]; exact hc
      · exact join_signs hc (v :: r) (fun u hu => h u (.tail _ hu)) x z
theorem shown_free (f : List Int) : 32 ∉ (shown f).cps.toList := fun z => by
  unfold shown at z
  rw [join_eq, comma_is] at z
  have := join_signs (c := 44) (P := fun x => x ≠ 32) (by decide) (f.map tx) (fun w hw x hx => by
    obtain ⟨y, _, rfl⟩ := List.mem_map.mp hw
    rcases tx_signs y x hx with e | e <;> omega) 32 z
  exact this rfl
theorem tx_free (x : Int) : 32 ∉ (tx x).cps.toList := fun z => by
  rcases tx_signs x 32 z with e | e <;> omega
end Tx
namespace L2
open PySem PySem.Spec PyProof.Rows
section
variable {prog : Program} {w : World} {A : Around} {E : Value → Shared → Prop} {s : Shared}
theorem nx_tup {i t : Addr} {k : Nat} {its : Array Value} {v : Value} {Q : Value → Shared → Prop} (ii : IsTupIter s.heap i t k) (tt : IsTup s.heap t its) (hv : its[k]? = some v)
    (go : ∀ g, IsTupIter g i t (k + 1) → Heap.SameBut i s.heap g → Q v { s with heap := g }) : wpAny (model prog w) A (Builtin.SmallTypes.nextOf (.ref i)) Q E s := by
  obtain ⟨u, gu, cu, du⟩ := id ii
  obtain ⟨y, gy, _, n, dy⟩ := tt
  unfold Builtin.SmallTypes.nextOf
  refine wpAny_bind (wpAny_callSpecial?_slot (name := Str.ofString "__next__") ii.typeIs slot_tupleiter_next (wpAny_call_entry slot_tupleiter_next ii.typeIs entry_tupleiter_next ?_ (args_tupleiter_next _)))
  show wpAny _ _ (field (.ref i) 0 >>= _) _ _ s
  refine wpAny_bind (wpAny_field gu du (x := .ref t) rfl ?_)
  show wpAny _ _ (if (Value.ref t == Value.none) = true then _ else _) _ _ s
  rw [if_neg (by intro z; cases z)]
  show wpAny _ _ (field (.ref i) 1 >>= _) _ _ s
  refine wpAny_bind (wpAny_field gu du (x := .int k 0) rfl (wpAny_bind (wpAny_seqItems gy dy ?_)))
  simp only [Int.toNat_natCast, hv]
  refine wpAny_bind (wpAny_setField gu du (by simp) (wpAny_pure ⟨v, rfl, wpAny_pure (go _ ⟨_, Heap.get?_update_self _ gu (Obj.isFreed_of_fields (Obj.data_mapFields du _)), (Obj.cls_mapFields ..).trans cu, ?_⟩ (Heap.SameBut.update ..))⟩))
  rw [Obj.data_mapFields du]
  simp [rawInt]
theorem nxe_tup {i t : Addr} {k : Nat} {its : Array Value} {Q : Value → Shared → Prop} (hh : A.handled = none) (ii : IsTupIter s.heap i t k) (tt : IsTup s.heap t its) (hv : its[k]? = none)
    (go : ∀ g e, Heap.ExtBut i s.heap g → (∃ o, g.get? e = some o ∧ o.cls = .type "StopIteration") → E (.ref e) { s with heap := g }) : wpAny (model prog w) A (Builtin.SmallTypes.nextOf (.ref i)) Q E s := by
  obtain ⟨u, gu, cu, du⟩ := id ii
  obtain ⟨y, gy, _, n, dy⟩ := tt
  unfold Builtin.SmallTypes.nextOf
  refine wpAny_bind (wpAny_callSpecial?_slot (name := Str.ofString "__next__") ii.typeIs slot_tupleiter_next (wpAny_call_entry slot_tupleiter_next ii.typeIs entry_tupleiter_next ?_ (args_tupleiter_next _)))
  show wpAny _ _ (field (.ref i) 0 >>= _) _ _ s
  refine wpAny_bind (wpAny_field gu du (x := .ref t) rfl ?_)
  show wpAny _ _ (if (Value.ref t == Value.none) = true then _ else _) _ _ s
  rw [if_neg (by intro z; cases z)]
  show wpAny _ _ (field (.ref i) 1 >>= _) _ _ s
  refine wpAny_bind (wpAny_field gu du (x := .int k 0) rfl (wpAny_bind (wpAny_seqItems gy dy ?_)))
  simp only [Int.toNat_natCast, hv]
  refine wpAny_bind (wpAny_rule (wpAny_bind (wpAny_setField gu du (by simp) (wpAny_bind ?_))))
  simp only [newExc, newTuple]
  refine wpAny_bind (wpAny_newObj_type (wpAny_bind (m := firstArgMember _ _) (wpAny_of_eq (a := Value.none) (by first | rfl | (simp only [firstArgMember]; rfl)) (wpAny_newObj_type ?_ (by size_fits)))) (by size_fits))
  simp only [raiseNew]
  refine wpAny_bind (wpAny_handled ?_)
  first | rw [show A.in1.handled = none from hh] | rw [hh]
  exact wpAny_bind (wpAny_pure (wpAny_throw (go _ _ (((Heap.SameBut.update ..).extBut.push _).push _) ⟨_, Heap.get?_push_size _ rfl, rfl⟩)))
theorem zipT_item {z TI TO i1 i2 l1 l2 : Addr} {k : Nat} {xs ys : Array Value} {x y a b : Value} {Q : Option Value → Shared → Prop} (D : ZipApart z TI TO i1 i2 l1 l2)
    (zz : IsZip s.heap z TI TO .none) (pI : IsPair s.heap TI (.ref i1) (.ref i2)) (pO : IsPair s.heap TO a b)
    (j1 : IsTupIter s.heap i1 l1 k) (j2 : s.heap.IsListIter i2 l2 k) (m1 : IsTup s.heap l1 xs) (m2 : s.heap.IsList l2 ys) (hx : xs[k]? = some x) (hy : ys[k]? = some y)
    (go : ∀ g, IsZip g z TI TO (rawInt s.heap.objs.size) → IsPair g TO x y → IsTupIter g i1 l1 (k + 1) → g.IsListIter i2 l2 (k + 1) → IsPair g s.heap.objs.size x y →
      (∀ c o, c ≠ z → c ≠ TO → c ≠ i1 → c ≠ i2 → s.heap.get? c = some o → g.get? c = some o) → Q (some (.ref s.heap.objs.size)) { s with heap := g }) :
    wpAny (model prog w) A (pyNext (.ref z)) Q E s := by
  have ty : s.TypeIs (.ref z) "zip" := ⟨_, zz, rfl⟩
  unfold pyNext
  refine wpAny_bind (wpAny_attempt (wpAny_callSpecial?_slot (name := Str.ofString "__next__") ty F.slot_zip_next (wpAny_call_entry F.slot_zip_next ty F.entry_zip_next ?_ (F.args_zip_next_1 _))))
  show wpAny _ _ (field (.ref z) 2 >>= _) _ _ _
  refine wpAny_bind (wpAny_field zz rfl (x := .bool false) rfl ?_)
  show wpAny _ _ (field (.ref z) 3 >>= _) _ _ _
  refine wpAny_bind (wpAny_field zz rfl (x := .ref TI) rfl (wpAny_bind (wpAny_seqItems pI rfl ?_)))
  show wpAny _ _ (Builtin.SmallTypes.ownedTupleIsFree (.ref z) >>= _) _ _ _
  refine wpAny_bind ?_
  unfold Builtin.SmallTypes.ownedTupleIsFree
  refine wpAny_bind (wpAny_field zz rfl (x := .none) rfl (wpAny_pure ?_))
  simp only [if_true]
  refine wpAny_bind (wpAny_rule (wpAny_bind (wpAny_field zz rfl (x := .ref TO) rfl (wpAny_bind (wpAny_setField_rec zz (by simp) fun g1 z1 s1 => ?_)))))
  have z1 : IsZip g1 z TI TO .ellipsis := z1
  refine wpAny_bind ?_
  simp only [List.zipIdx_cons, List.zipIdx_nil, List.forIn_cons, List.forIn_nil]
  refine wpAny_bind (wpAny_bind (wpAny_onRaise ?_))
  show wpAny _ _ (Builtin.SmallTypes.nextOf (.ref i1) >>= _) _ _ _
  refine wpAny_bind (nx_tup (j1.extBut s1.extBut D.i1z) (m1.extBut s1.extBut D.l1z) hx fun g2 n2 s2 => wpAny_pure ?_)
  have o2 : IsPair g2 TO a b := s2.extBut _ _ D.TOi1 (s1.extBut _ _ D.TOz pO)
  refine wpAny_bind (wpAny_seqItems o2 rfl (wpAny_bind (wpAny_updateSeq_pair o2 fun g3 o3 s3 => wpAny_bind (wpAny_letGo (wpAny_pure ?_)))))
  have o3 : IsPair g3 TO x b := o3
  refine wpAny_bind (wpAny_bind (wpAny_onRaise ?_))
  show wpAny _ _ (Builtin.SmallTypes.nextOf (.ref i2) >>= _) _ _ _
  refine wpAny_bind (wpAny_nextOf_list_item (((j2.extBut s1.extBut D.i2z).extBut s2.extBut D.i12.symm).extBut s3.extBut D.TOi2.symm) (((m2.extBut s1.extBut D.l2z).extBut s2.extBut D.l2i1).extBut s3.extBut D.l2TO) hy fun g4 n4 s4 => wpAny_pure ?_)
  have o4 : IsPair g4 TO x b := s4.extBut _ _ D.TOi2 o3
  refine wpAny_bind (wpAny_seqItems o4 rfl (wpAny_bind (wpAny_updateSeq_pair o4 fun g5 o5 s5 => wpAny_bind (wpAny_letGo (wpAny_pure (wpAny_pure ?_))))))
  have o5 : IsPair g5 TO x y := o5
  refine wpAny_bind (wpAny_seqItems o5 rfl (wpAny_bind (wpAny_newTuple ?_)))
  have z5 : IsZip g5 z TI TO .ellipsis := s5.extBut _ _ D.TOz.symm (s4.extBut _ _ D.i2z.symm (s3.extBut _ _ D.TOz.symm (s2.extBut _ _ D.i1z.symm z1)))
  have len5 : g5.objs.size = s.heap.objs.size := by rw [s5.1, s4.1, s3.1, s2.1, s1.1]
  have old5 : ∀ c o, c ≠ z → c ≠ TO → c ≠ i1 → c ≠ i2 → s.heap.get? c = some o → g5.get? c = some o := fun c o q1 q2 q3 q4 e => s5.extBut _ _ q2 (s4.extBut _ _ q4 (s3.extBut _ _ q2 (s2.extBut _ _ q3 (s1.extBut _ _ q1 e))))
  have a5 : IsTupIter g5 i1 l1 (k + 1) := ((n2.extBut s3.extBut D.TOi1.symm).extBut s4.extBut D.i12).extBut s5.extBut D.TOi1.symm
  have b5 : g5.IsListIter i2 l2 (k + 1) := n4.extBut s5.extBut D.TOi2.symm
  have lz : z < g5.objs.size := Heap.lt_size z5
  show wpAny _ _ (Builtin.SmallTypes.ownedTupleHandOut (.ref z) (.ref g5.objs.size) >>= _) _ _ _
  refine wpAny_bind ?_
  unfold Builtin.SmallTypes.ownedTupleHandOut
  have z6 : IsZip (g5.push { cls := .type "tuple", data := .seq #[x, y] }) z TI TO .ellipsis := Heap.get?_push_of_some _ z5
  refine wpAny_bind (wpAny_setField_rec z6 (by simp) fun g7 z7 s7 => ?_)
  have z7 : IsZip g7 z TI TO (rawInt g5.objs.size) := z7
  refine wpAny_setField_rec z7 (by simp) fun g8 z8 s8 => ?_
  have z8 : IsZip g8 z TI TO (rawInt g5.objs.size) := z8
  have up : ∀ c o, c ≠ z → g5.get? c = some o → g8.get? c = some o := fun c o q e => s8.extBut _ _ q (s7.extBut _ _ q (Heap.get?_push_of_some _ e))
  have t8 : IsPair g8 g5.objs.size x y := s8.extBut _ _ (Nat.ne_of_gt lz) (s7.extBut _ _ (Nat.ne_of_gt lz) (Heap.get?_push_size _ rfl))
  rw [len5] at z8 t8
  refine wpAny_pure ⟨_, rfl, wpAny_pure ?_⟩
  rw [len5]
  refine go g8 z8 (up _ _ D.TOz o5) ?_ (b5.at fun o e => up _ o D.i2z e) t8 fun c o q1 q2 q3 q4 e => up c o q1 (old5 c o q1 q2 q3 q4 e)
  obtain ⟨o, e, r⟩ := a5
  exact ⟨o, up _ o D.i1z e, r⟩
theorem zipT_end {z TI TO i1 i2 l1 l2 : Addr} {k : Nat} {xs ys : Array Value} {a b : Value} {Q : Option Value → Shared → Prop} (hh : A.handled = none) (D : ZipApart z TI TO i1 i2 l1 l2)
    (zz : IsZip s.heap z TI TO .none) (pI : IsPair s.heap TI (.ref i1) (.ref i2)) (pO : IsPair s.heap TO a b)
    (j1 : IsTupIter s.heap i1 l1 k) (j2 : s.heap.IsListIter i2 l2 k) (m1 : IsTup s.heap l1 xs) (m2 : s.heap.IsList l2 ys) (hx : xs[k]? = none ∨ ys[k]? = none)
    (go : ∀ g, (∀ c o, c ≠ z → c ≠ TO → c ≠ i1 → c ≠ i2 → s.heap.get? c = some o → g.get? c = some o) → Q none { s with heap := g }) : wpAny (model prog w) A (pyNext (.ref z)) Q E s := by
  have ty : s.TypeIs (.ref z) "zip" := ⟨_, zz, rfl⟩
  have stop : ∀ g e, (∀ c o, c ≠ z → c ≠ TO → c ≠ i1 → c ≠ i2 → s.heap.get? c = some o → g.get? c = some o) → (∃ o, g.get? e = some o ∧ o.cls = .type "StopIteration") →
      wpAny (model prog w) A (do if ← isInstance (.ref e) (.type "StopIteration") then pure none else throw (.ref e)) Q E { s with heap := g } := fun g e kk ⟨o, ho, hc⟩ =>
    wpAny_bind (wpAny_isInstance (T := "StopIteration") (b := true) ⟨o, ho, hc⟩ isSubtype_stop (wpAny_pure (go g kk)))
  unfold pyNext
  refine wpAny_bind (wpAny_attempt (wpAny_callSpecial?_slot (name := Str.ofString "__next__") ty F.slot_zip_next (wpAny_call_entry F.slot_zip_next ty F.entry_zip_next ?_ (F.args_zip_next_1 _))))
  show wpAny _ _ (field (.ref z) 2 >>= _) _ _ _
  refine wpAny_bind (wpAny_field zz rfl (x := .bool false) rfl ?_)
  show wpAny _ _ (field (.ref z) 3 >>= _) _ _ _
  refine wpAny_bind (wpAny_field zz rfl (x := .ref TI) rfl (wpAny_bind (wpAny_seqItems pI rfl ?_)))
  show wpAny _ _ (Builtin.SmallTypes.ownedTupleIsFree (.ref z) >>= _) _ _ _
  refine wpAny_bind ?_
  unfold Builtin.SmallTypes.ownedTupleIsFree
  refine wpAny_bind (wpAny_field zz rfl (x := .none) rfl (wpAny_pure ?_))
  simp only [if_true]
  refine wpAny_bind (wpAny_rule (wpAny_bind (wpAny_field zz rfl (x := .ref TO) rfl (wpAny_bind (wpAny_setField_rec zz (by simp) fun g1 z1 s1 => ?_)))))
  have z1 : IsZip g1 z TI TO .ellipsis := z1
  refine wpAny_bind ?_
  simp only [List.zipIdx_cons, List.zipIdx_nil, List.forIn_cons, List.forIn_nil]
  refine wpAny_bind (wpAny_bind (wpAny_onRaise ?_))
  show wpAny _ _ (Builtin.SmallTypes.nextOf (.ref i1) >>= _) _ _ _
  cases e1 : xs[k]? with
  | none =>
    refine wpAny_bind (nxe_tup hh (j1.extBut s1.extBut D.i1z) (m1.extBut s1.extBut D.l1z) e1 fun g2 e s2 he => ?_)
    obtain ⟨oe, hoe, hce⟩ := he
    have z2 : IsZip g2 z TI TO .ellipsis := s2 _ _ D.i1z.symm z1
    have ne : e ≠ z := fun q => by subst q; rw [z2] at hoe; cases hoe; simp at hce
    exact wpAny_setField_rec z2 (by simp) fun g3 _ s3 => stop g3 e (fun c o q1 _ q3 _ q => s3.extBut _ _ q1 (s2 _ _ q3 (s1.extBut _ _ q1 q))) ⟨oe, s3.extBut _ _ ne hoe, hce⟩
  | some x =>
    have e2 : ys[k]? = none := by
      rcases hx with q | q
      · rw [e1] at q; cases q
      · exact q
    refine wpAny_bind (nx_tup (j1.extBut s1.extBut D.i1z) (m1.extBut s1.extBut D.l1z) e1 fun g2 n2 s2 => wpAny_pure ?_)
    have o2 : IsPair g2 TO a b := s2.extBut _ _ D.TOi1 (s1.extBut _ _ D.TOz pO)
    refine wpAny_bind (wpAny_seqItems o2 rfl (wpAny_bind (wpAny_updateSeq_pair o2 fun g3 o3 s3 => wpAny_bind (wpAny_letGo (wpAny_pure ?_)))))
    refine wpAny_bind (wpAny_bind (wpAny_onRaise ?_))
    show wpAny _ _ (Builtin.SmallTypes.nextOf (.ref i2) >>= _) _ _ _
    refine wpAny_bind (wpAny_nextOf_list_end hh (((j2.extBut s1.extBut D.i2z).extBut s2.extBut D.i12.symm).extBut s3.extBut D.TOi2.symm) (((m2.extBut s1.extBut D.l2z).extBut s2.extBut D.l2i1).extBut s3.extBut D.l2TO) e2 fun g4 e s4 he => ?_)
    obtain ⟨oe, hoe, hce⟩ := he
    have z4 : IsZip g4 z TI TO .ellipsis := s4 _ _ D.i2z.symm (s3.extBut _ _ D.TOz.symm (s2.extBut _ _ D.i1z.symm z1))
    have ne : e ≠ z := fun q => by subst q; rw [z4] at hoe; cases hoe; simp at hce
    exact wpAny_setField_rec z4 (by simp) fun g5 _ s5 => stop g5 e (fun c o q1 q2 q3 q4 q => s5.extBut _ _ q1 (s4 _ _ q4 (s3.extBut _ _ q2 (s2.extBut _ _ q3 (s1.extBut _ _ q1 q))))) ⟨oe, s5.extBut _ _ ne hoe, hce⟩
end
end L2
namespace L2
open PySem PySem.Spec PyProof.Rows
abbrev zT1 (h : Heap) (a : Addr) : Heap := h.push { cls := .type "tuple_iterator", data := .fields #[.ref a, .int 0 0] }
abbrev zT2 (h : Heap) (a b : Addr) : Heap := (zT1 h a).push { cls := .type "list_iterator", data := .fields #[.ref b, .int 0 0] }
abbrev zT3 (h : Heap) (a b : Addr) : Heap := (zT2 h a b).push { cls := .type "tuple", data := .seq #[.ref h.objs.size, .ref (zT1 h a).objs.size] }
abbrev zT4 (h : Heap) (a b : Addr) : Heap := (zT3 h a b).push { cls := .type "tuple", data := .seq #[.none, .none] }
abbrev zT5 (h : Heap) (a b : Addr) : Heap := (zT4 h a b).push { cls := .type "zip", data := .fields #[.none, .bool false, .bool false, .ref (zT2 h a b).objs.size, .ref (zT3 h a b).objs.size] }
theorem zT_meets (a b : Addr) (xs ys : Array Value) : Meets (Builtin.«zip.__new__» ⟨[.type "zip", .ref a, .ref b], []⟩) (fun _ R s => IsTup s.heap a xs ∧ s.heap.IsList b ys ∧ R (.ok (.ret (.ref (zT4 s.heap a b).objs.size))) { s with heap := zT5 s.heap a b }) :=
  .of_wp fun prog w A R s q => by
    obtain ⟨hp, g, d, tk, os⟩ := s
    obtain ⟨q1, q2, q⟩ := q
    have hsub := sub_zip
    have M1 : IsTup (Shared.heap ⟨hp, g, d, tk, os⟩) a xs := q1
    have M2 : Heap.IsList (Shared.heap ⟨hp.push { cls := .type "tuple_iterator", data := .fields #[.ref a, .int 0 0] }, g, d, tk, os⟩) b ys := Heap.IsList.push q2 _
    wp_walk using iter_tuple M1, wpAny_pyIter_list M2
    exact ⟨_, rfl, q⟩
section
variable {prog : Program} {w : World} {A : Around} {E : Value → Shared → Prop} {s : Shared}
theorem zT_call {a b : Addr} {xs ys : Array Value} {Q : Value → Shared → Prop} (q1 : IsTup s.heap a xs) (q2 : s.heap.IsList b ys)
    (go : ∀ g, IsZip g (s.heap.objs.size + 4) (s.heap.objs.size + 2) (s.heap.objs.size + 3) .none → IsPair g (s.heap.objs.size + 2) (.ref s.heap.objs.size) (.ref (s.heap.objs.size + 1)) → IsPair g (s.heap.objs.size + 3) .none .none →
      IsTupIter g s.heap.objs.size a 0 → g.IsListIter (s.heap.objs.size + 1) b 0 → (∀ c o, s.heap.get? c = some o → g.get? c = some o) → Q (.ref (s.heap.objs.size + 4)) { s with heap := g }) :
    wpAny (model prog w) A (call (.type "zip") [.ref a, .ref b]) Q E s := by
  refine callType_new F.called_zip (by decide) (F.typeCall_zip_2 _ _) (F.newCall_zip_2 _ _) (fun obj => F.args_object_init_3 obj _ _) F.entry_zip_new (zT_meets a b xs ys) ⟨q1, q2, ?_⟩
  have n1 : (zT1 s.heap a).objs.size = s.heap.objs.size + 1 := Heap.size_push ..
  have n2 : (zT2 s.heap a b).objs.size = s.heap.objs.size + 2 := by rw [Heap.size_push, n1]
  have n3 : (zT3 s.heap a b).objs.size = s.heap.objs.size + 3 := by rw [Heap.size_push, n2]
  have n4 : (zT4 s.heap a b).objs.size = s.heap.objs.size + 4 := by rw [Heap.size_push, n3]
  have e5 : (zT5 s.heap a b).get? (zT4 s.heap a b).objs.size = some _ := Heap.get?_push_size _ rfl
  have e4 : (zT5 s.heap a b).get? (zT3 s.heap a b).objs.size = some _ := Heap.get?_push_of_some _ (Heap.get?_push_size _ rfl)
  have e3 : (zT5 s.heap a b).get? (zT2 s.heap a b).objs.size = some _ := Heap.get?_push_of_some _ (Heap.get?_push_of_some _ (Heap.get?_push_size _ rfl))
  have e2 : (zT5 s.heap a b).get? (zT1 s.heap a).objs.size = some _ := Heap.get?_push_of_some _ (Heap.get?_push_of_some _ (Heap.get?_push_of_some _ (Heap.get?_push_size _ rfl)))
  have e1 : (zT5 s.heap a b).get? s.heap.objs.size = some _ := Heap.get?_push_of_some _ (Heap.get?_push_of_some _ (Heap.get?_push_of_some _ (Heap.get?_push_of_some _ (Heap.get?_push_size _ rfl))))
  show _ ∧ _
  rw [n2, n3, n4] at e5
  rw [n1, n2] at e3
  rw [n3] at e4
  rw [n1] at e2
  rw [n4]
  exact ⟨⟨_, e5, rfl⟩, go _ e5 e3 e4 ⟨_, e1, rfl, rfl⟩ ⟨_, e2, rfl, rfl⟩ fun c o q => Heap.get?_push_of_some _ (Heap.get?_push_of_some _ (Heap.get?_push_of_some _ (Heap.get?_push_of_some _ (Heap.get?_push_of_some _ q))))⟩
end
def Itzt (K : PySem.W.Frag) (a b : Addr) : It :=
  ⟨fun i H => ∃ xs ys x y, SqT K H a xs ∧ SqL K H b ys ∧ xs[i]? = some x ∧ ys[i]? = some y, fun i H x H' => ∃ y z t, (∀ xs, SqT K H a xs → xs[i]? = some y) ∧ (∀ xs, SqL K H b xs → xs[i]? = some z) ∧ H t = none ∧ x = .ref t ∧ H' = upd H t (.tup [y, z]), fun i H => ∃ xs ys, SqT K H a xs ∧ SqL K H b ys ∧ (xs.length ≤ i ∨ ys.length ≤ i)⟩
theorem ne_tupI {h : Heap} {l c : Addr} {xs : Array Value} (hl : IsTup h l xs) (hc : ∃ o, h.get? c = some o ∧ o.cls ≠ .type "tuple") : l ≠ c := by
  obtain ⟨o, ho, n⟩ := hc
  obtain ⟨u, hu, cu, _⟩ := hl
  intro z
  rw [z, ho] at hu
  cases hu
  exact n cu
theorem turn_zipT {P : Program} {w : World} {K : PySem.W.Frag} {elts : List Expr} {x1} {tp : Pos} (a b : Addr) (n : Nat) : Turn P w K (.Tuple elts x1 tp) (Itzt K a b) [n + 4, n + 2, n + 3, n, n + 1] (n + 4) (fun i h => IsZip h (n + 4) (n + 2) (n + 3) .none ∧ IsPair h (n + 2) (.ref n) (.ref (n + 1)) ∧ (∃ u v, IsPair h (n + 3) u v) ∧ IsTupIter h n a i ∧ h.IsListIter (n + 1) b i ∧ a ≠ n + 3) where
  mem := by simp
  obj := fun i h st c hc => by
    obtain ⟨h1, h2, ⟨u, v, h3⟩, ⟨o4, q4, c4, d4⟩, ⟨o5, q5, c5, d5⟩, _⟩ := st
    simp only [List.mem_cons, List.not_mem_nil, or_false] at hc
    rcases hc with z | z | z | z | z
    · subst z
      exact ⟨_, h1, fun v z => by
        have z' : Data.fields _ = Data.cell v := z
        cases z'⟩
    · subst z
      exact ⟨_, h2, fun v z => by
        have z' : Data.seq _ = Data.cell v := z
        cases z'⟩
    · subst z
      exact ⟨_, h3, fun v z => by
        have z' : Data.seq _ = Data.cell v := z
        cases z'⟩
    · subst z
      exact ⟨o4, q4, fun v z => by rw [d4] at z; cases z⟩
    · subst z
      exact ⟨o5, q5, fun v z => by rw [d5] at z; cases z⟩
  keep := fun i h h' st k => by
    obtain ⟨h1, h2, ⟨u, v, h3⟩, ⟨o4, q4, r4⟩, h5, nn⟩ := st
    exact ⟨k _ (by simp) _ h1, k _ (by simp) _ h2, ⟨u, v, k _ (by simp) _ h3⟩, ⟨o4, k n (by simp) o4 q4, r4⟩, h5.at fun o q => k (n + 1) (by simp) o q, nn⟩
  item := by
    intro X hP hw hK hc i pins s σ H E I hf st hg
    subst hP hw hK
    obtain ⟨xs, ys, x, y, hq1, hq2, hx, hy⟩ := hg
    obtain ⟨its, rv, pl, hz⟩ := I.tuple hq1
    obtain ⟨u, hu, ru⟩ := rv.get hx
    obtain ⟨its2, rv2, pl2, hz2⟩ := I.list hq2
    obtain ⟨u2, hu2, ru2⟩ := rv2.get hy
    obtain ⟨h1, h2, ⟨v1, v2, h3⟩, h4, h5, nn⟩ := st
    have c1 : ∃ o, s.heap.get? (n + 4) = some o ∧ o.cls ≠ .type "list" := ⟨_, h1, by show Value.type "zip" ≠ Value.type "list"; decide⟩
    have c3 : ∃ o, s.heap.get? (n + 3) = some o ∧ o.cls ≠ .type "list" := ⟨_, h3, by show Value.type "tuple" ≠ Value.type "list"; decide⟩
    have c4 : ∃ o, s.heap.get? n = some o ∧ o.cls ≠ .type "list" := by obtain ⟨o, q, c, _⟩ := h4; exact ⟨o, q, by rw [c]; decide⟩
    have c5 : ∃ o, s.heap.get? (n + 1) = some o ∧ o.cls ≠ .type "list" := by obtain ⟨o, q, c, _⟩ := h5; exact ⟨o, q, by rw [c]; decide⟩
    have d1 : ∃ o, s.heap.get? (n + 4) = some o ∧ o.cls ≠ .type "tuple" := ⟨_, h1, by show Value.type "zip" ≠ Value.type "tuple"; decide⟩
    have d4 : ∃ o, s.heap.get? n = some o ∧ o.cls ≠ .type "tuple" := by obtain ⟨o, q, c, _⟩ := h4; exact ⟨o, q, by rw [c]; decide⟩
    have d5 : ∃ o, s.heap.get? (n + 1) = some o ∧ o.cls ≠ .type "tuple" := by obtain ⟨o, q, c, _⟩ := h5; exact ⟨o, q, by rw [c]; decide⟩
    have D : ZipApart (n + 4) (n + 2) (n + 3) n (n + 1) a b := ⟨ane (by omega), ane (by omega), ane (by omega), ane (by omega), ane (by omega), ane (by omega), ane (by omega), ane (by omega), ane (by omega), ane (by omega), ne_tupI pl d1, nn, ne_tupI pl d4, ne_tupI pl d5, ne_list pl2.isList c1, ne_list pl2.isList c3, ne_list pl2.isList c4, ne_list pl2.isList c5⟩
    have hel : n + 4 < s.heap.objs.size := Heap.lt_size h1
    refine zipT_item D h1 h2 h3 h4 h5 pl pl2.isList (x := u) (y := u2) (by simpa using hu) (by simpa using hu2) fun g1 a1 a2 a3 a4 a5 a7 => ⟨_, rfl, ?_⟩
    refine wpAny_letOwnedTupleGo_zip a1 fun g2 b1 hs2 => ?_
    have hs2' : Heap.SameBut (n + 4) g1 g2 := hs2
    have hnone : H s.heap.objs.size = none := I.hok.fresh (Nat.le_refl _)
    have kk : ∀ c o, c ∉ [n + 4, n + 2, n + 3, n, n + 1] → s.heap.get? c = some o → g2.get? c = some o := fun c o hc q => by
      simp only [List.mem_cons, List.not_mem_nil, or_false, not_or] at hc
      exact (hs2'.2 c hc.1).trans (a7 c o hc.1 hc.2.2.1 hc.2.2.2.1 hc.2.2.2.2 q)
    refine ⟨.ref s.heap.objs.size, upd H s.heap.objs.size (.tup [x, y]), I.turnedN (t' := s.toks) kk rfl ?_ hf, rfl, ⟨x, y, _, fun zs hz => by rw [I.tuple_inj hz hq1]; exact hx, fun zs hz => by rw [I.list_inj hz hq2]; exact hy, hnone, rfl, rfl⟩, ⟨b1, ?_, ⟨_, _, (hs2'.2 _ (ane (by omega))).trans a2⟩, a3.extBut hs2'.extBut (ane (by omega)), a4.extBut hs2'.extBut (ane (by omega)), nn⟩, fun c hc => ?_⟩
    · exact ⟨by show 2 ≤ sizeLine; decide, [u, u2], .cons ru (.cons ru2 .nil), ⟨_, (hs2'.2 _ (ane (by omega))).trans a5, rfl, _, rfl⟩⟩
    · exact (hs2'.2 _ (ane (by omega))).trans (a7 _ _ (ane (by omega)) (ane (by omega)) (ane (by omega)) (ane (by omega)) h2)
    · have hb0 : H c = none := (hf c hc).1
      have hbl : c < s.heap.objs.size := by
        simp only [List.mem_cons, List.not_mem_nil, or_false] at hc
        have hel' : (n : Nat) + 4 < s.heap.objs.size := hel
        rcases hc with z | z | z | z | z <;> rw [z] <;> show (_ : Nat) < s.heap.objs.size <;> omega
      rw [upd_ne (Nat.ne_of_lt hbl)]
      exact hb0
  done := by
    intro X hP hw hK hc i pins s σ H E I hf st hg
    subst hP hw hK
    obtain ⟨xs, ys, hq1, hq2, hx⟩ := hg
    obtain ⟨its, rv, pl, hz⟩ := I.tuple hq1
    obtain ⟨its2, rv2, pl2, hz2⟩ := I.list hq2
    obtain ⟨h1, h2, ⟨v1, v2, h3⟩, h4, h5, nn⟩ := st
    have l1 := rv.length
    have l2 := rv2.length
    have c1 : ∃ o, s.heap.get? (n + 4) = some o ∧ o.cls ≠ .type "list" := ⟨_, h1, by show Value.type "zip" ≠ Value.type "list"; decide⟩
    have c3 : ∃ o, s.heap.get? (n + 3) = some o ∧ o.cls ≠ .type "list" := ⟨_, h3, by show Value.type "tuple" ≠ Value.type "list"; decide⟩
    have c4 : ∃ o, s.heap.get? n = some o ∧ o.cls ≠ .type "list" := by obtain ⟨o, q, c, _⟩ := h4; exact ⟨o, q, by rw [c]; decide⟩
    have c5 : ∃ o, s.heap.get? (n + 1) = some o ∧ o.cls ≠ .type "list" := by obtain ⟨o, q, c, _⟩ := h5; exact ⟨o, q, by rw [c]; decide⟩
    have d1 : ∃ o, s.heap.get? (n + 4) = some o ∧ o.cls ≠ .type "tuple" := ⟨_, h1, by show Value.type "zip" ≠ Value.type "tuple"; decide⟩
    have d4 : ∃ o, s.heap.get? n = some o ∧ o.cls ≠ .type "tuple" := by obtain ⟨o, q, c, _⟩ := h4; exact ⟨o, q, by rw [c]; decide⟩
    have d5 : ∃ o, s.heap.get? (n + 1) = some o ∧ o.cls ≠ .type "tuple" := by obtain ⟨o, q, c, _⟩ := h5; exact ⟨o, q, by rw [c]; decide⟩
    have D : ZipApart (n + 4) (n + 2) (n + 3) n (n + 1) a b := ⟨ane (by omega), ane (by omega), ane (by omega), ane (by omega), ane (by omega), ane (by omega), ane (by omega), ane (by omega), ane (by omega), ane (by omega), ne_tupI pl d1, nn, ne_tupI pl d4, ne_tupI pl d5, ne_list pl2.isList c1, ne_list pl2.isList c3, ne_list pl2.isList c4, ne_list pl2.isList c5⟩
    refine zipT_end (I.ok.hd hc) D h1 h2 h3 h4 h5 pl pl2.isList ?_ fun g1 a7 => ⟨rfl, I.turnedS (t' := s.toks) (ch := [n + 4, n + 2, n + 3, n, n + 1]) (fun c o hc q => ?_) hf⟩
    · rcases hx with z | z
      · exact .inl (by simp; omega)
      · exact .inr (by simp; omega)
    · simp only [List.mem_cons, List.not_mem_nil, or_false, not_or] at hc
      exact a7 c o hc.1 hc.2.2.1 hc.2.2.2.1 hc.2.2.2.2 q
  self := fun _ _ _ _ _ ⟨hz, _⟩ h => wpAny_pyIter_zip hz h
section
variable {X : Cx} {e e2 : Expr} {te te2 : TE} {p pos : Pos}
def iZipT (K : PySem.W.Frag) (tl tl2 : TE) : TI := fun σ H R => tl σ H fun x H1 => tl2 σ H1 fun y H2 => ∃ a b, x = .ref a ∧ y = .ref b ∧ (∃ xs, SqT K H2 a xs) ∧ (∃ ys, SqL K H2 b ys) ∧ R (Itzt K a b) H2
theorem pi_zipT {elts : List Expr} {x1} {tp : Pos} (hg : Gl X "zip") (hm : X.mg "zip" = none) (he : PE X e te) (he2 : PE X e2 te2) (hs : starEach [e, e2] X.env = (false, eval e X.env) :: starEach [e2] X.env := by rfl) (hs2 : starEach [e2] X.env = (false, eval e2 X.env) :: starEach [] X.env := by rfl) : PI X (.Tuple elts x1 tp) (.Call (.Name "zip" p) [e, e2] [] pos) (iZipT X.K te te2) := by
  intro pins s σ H R I h
  refine wpAny_Call_Name_kw (ld_blt I hg hm PyProof.Rows.boot_zip ?_ (by decide) (by decide))
  refine PyProof.Rows.callWith_type1 (thn (pa_cons he (pa_cons he2 pa_nil hs2) hs pos pins s σ H (fun vs H2 => ∃ a b, vs = [.ref a, .ref b] ∧ (∃ xs, SqT X.K H2 a xs) ∧ (∃ ys, SqL X.K H2 b ys) ∧ R (Itzt X.K a b) H2) I ?_) fun us s1 ⟨vs, H1, I1, r1, q1⟩ => ?_) hs (by rw [hs2]; rfl)
  · show te σ H fun x H1 => te2 σ H1 fun y H2 => _
    have e3 : (fun x H1 => te2 σ H1 fun y H2 => tNil σ H2 fun xs H3 => (fun vs H2 => ∃ a b, vs = [V.ref a, V.ref b] ∧ (∃ xs, SqT X.K H2 a xs) ∧ (∃ ys, SqL X.K H2 b ys) ∧ R (Itzt X.K a b) H2) (x :: y :: xs) H3) = fun x H1 => te2 σ H1 fun y H2 => ∃ a b, x = V.ref a ∧ y = V.ref b ∧ (∃ xs, SqT X.K H2 a xs) ∧ (∃ ys, SqL X.K H2 b ys) ∧ R (Itzt X.K a b) H2 := by
      funext x H1
      congr 1
      funext y H2
      simp only [tNil, List.cons.injEq, and_true, and_assoc]
    have := h
    unfold iZipT at this
    rw [← e3] at this
    exact this
  · obtain ⟨a, b, rfl, ⟨xs, hq⟩, ⟨ys, hq2⟩, hR⟩ := q1
    obtain ⟨u, u2, rfl, ru, ru2⟩ := vals2 r1
    cases ru
    cases ru2
    obtain ⟨its, rv, pl, hz⟩ := I1.tuple hq
    obtain ⟨its2, rv2, pl2, hz2⟩ := I1.list hq2
    refine zT_call pl pl2.isList fun h' a1 a2 a3 a4 a5 hk => ?_
    refine wpAny_pyIter_zip a1 ?_
    have la : a < s1.heap.objs.size := pl.lt
    refine ⟨s1.heap.objs.size + 4, [s1.heap.objs.size + 4, s1.heap.objs.size + 2, s1.heap.objs.size + 3, s1.heap.objs.size, s1.heap.objs.size + 1], _, _, H1, rfl, I1.kept (t' := s1.toks) hk, turn_zipT a b _, ⟨a1, a2, ⟨_, _, a3⟩, a4, a5, fun z => by
      have la' : @LT.lt Nat instLTNat a s1.heap.objs.size := la
      have z' : @Eq Nat a (s1.heap.objs.size + 3) := z
      omega⟩, fun c hc => ?_, hR⟩
    have : s1.heap.objs.size ≤ c := by
      simp only [List.mem_cons, List.not_mem_nil, or_false] at hc
      rcases hc with z | z | z | z | z <;> rw [z] <;> show s1.heap.objs.size ≤ (_ : Nat) <;> omega
    exact I1.fpOk this (I1.hok.fresh this)
end
end L2
namespace L2
open PySem PySem.Spec PyProof.Rows
def KTup (K : PySem.W.Frag) (a : Addr) (xs : List V) : Prop := ∃ (o : Obj) (its : Array Value) (n : Nat), K.lookup a = some o ∧ o.cls = .type "tuple" ∧ o.data = .seq its n ∧ its.size ≤ sizeLine ∧ Vals xs its.toList
theorem KTup.sq {K : PySem.W.Frag} {a : Addr} {xs : List V} (h : KTup K a xs) (H : Hp) : SqT K H a xs := .inr h
structure Met (P : Program) (w : World) (K : PySem.W.Frag) (mg : Str → Option Value) (base : Heap) (CX : CXT) (C : Addr) (m : Str) (k : Nat) (ps : List Str) (sp : Sp) : Prop where
  ex : ∃ (f : Addr) (fd : FuncData), FnOk P w K mg base CX k f fd ps sp ∧ Binds K fd ps [] ∧ Meth K C m f
structure MkD (P : Program) (w : World) (K : PySem.W.Frag) (mg : Str → Option Value) (base : Heap) (C : Addr) (k : Nat) (ps : List Str) (sp : Sp) : Prop where
  ex : ∃ (f : Addr) (fd : FuncData), FnOk P w K mg base CX0 k f fd ps sp ∧ Binds K fd ps [] ∧ Mk K C f
def tMethX (C : Addr) (m : Str) (sp : Sp) (EE : St → XK) (ta : TE) (t : TA) : TE := fun σ H Q => ta σ H fun x H1 => ∃ a dx fs, x = .ref a ∧ H1 a = some (.ins C dx fs) ∧ fs.lookup m = none ∧ t σ H1 fun vs H2 => sp (x :: vs) H2 Q (EE σ)
section
variable {X : Cx} {CX : CXT} {C : Addr} {x m : Str} {j k : Nat} {ps : List Str} {sp : Sp} {p pos apos : Pos} {o e : Expr} {es : List Expr} {ta : TE} {t : TA} {E : XK} {EE : St → XK}
theorem pe_met {pl : Sem Bool} (hx : Passes CX X E) (c : Cls X.K C) (M : Met X.prog X.w X.K X.mg X.base CX C m j ps sp) (hr : Room k X.A) (ho : PE X o ta) (ha : PA X (e :: es) t) (hjk : j ≤ k := by decide)
    (hst : starEach (e :: es) X.env = (false, eval e X.env) :: starEach es X.env := by rfl) (hpl : (backTo pos (starEach es X.env)).any (·.1) = false := by rfl)
    (ht : eval (.Call (.Attribute o m apos) (e :: es) [] pos) X.env = (do
      let ov ← eval o X.env
      standAt apos.atName
      let (f, first) ← holding [ov] (getMethod ov m pl)
      callWith pos f first (backTo pos (starEach (e :: es) X.env)) (backToKw pos (keywordEach [] X.env))) := by rfl) :
    PE X (.Call (.Attribute o m apos) (e :: es) [] pos) (tMeth C m sp [] E ta t) := by
  obtain ⟨f, fd, F, b, hm⟩ := M.ex
  exact pe_meth ho c hm F (hr.mono hjk) b .nil hx ha hst hpl ht
theorem pe_metX {pl : Sem Bool} (hx : PassX X EE) (c : Cls X.K C) (M : Met X.prog X.w X.K X.mg X.base (CXE X.prog X.w) C m j ps sp) (hr : Room k X.A) (ho : PE X o ta) (ha : PA X (e :: es) t) (hjk : j ≤ k := by decide)
    (hst : starEach (e :: es) X.env = (false, eval e X.env) :: starEach es X.env := by rfl) (hpl : (backTo pos (starEach es X.env)).any (·.1) = false := by rfl)
    (ht : eval (.Call (.Attribute o m apos) (e :: es) [] pos) X.env = (do
      let ov ← eval o X.env
      standAt apos.atName
      let (f, first) ← holding [ov] (getMethod ov m pl)
      callWith pos f first (backTo pos (starEach (e :: es) X.env)) (backToKw pos (keywordEach [] X.env))) := by rfl) :
    PE X (.Call (.Attribute o m apos) (e :: es) [] pos) (tMethX C m sp EE ta t) := by
  obtain ⟨f, fd, F, hb, hm⟩ := M.ex
  intro pins s σ H Q I h
  refine PySem.W.methodCall_KW (pl := pl) (thn (ho pins s σ H _ I h) fun u s1 ⟨x, H1, I1, rx, a, dx, fs, ex, ea, l, q⟩ => ?_) ht
  subst ex
  obtain rfl : u = Value.ref a := rx
  refine getmeth_ok I1 ea c hm l ?_
  refine PySem.W.callWith_K (first := [.ref a]) (h₀ := X.base) I.ok.mod.kin hm.kp (thn (ha pos pins s1 σ H1 _ I1 q) fun us s2 ⟨vs, H2, I2, r, q2⟩ => ⟨I2.kIn, ?_⟩) hst hpl
  have r2 : Vals (V.ref a :: vs) (Value.ref a :: us) := .cons rfl r
  have hl : (Value.ref a :: us).length = ps.length := by rw [← r2.length]; exact F.len _ _ _ _ q2
  have hbs : BindsTo s2 fd ⟨Value.ref a :: us, []⟩ (ps.zip (Value.ref a :: us)) := by
    have := hb s2 (Value.ref a :: us) I2.kIn (by rw [List.append_nil]; exact hl)
    rwa [List.append_nil] at this
  refine wpAny_call (codeAny_mono (F.run X.A X.stack s2 H2 ⟨Value.ref a :: us, []⟩ (Value.ref a :: us) (V.ref a :: vs) Q (EE σ) (hr.mono hjk) I2.env0 hbs r2 q2) fun r s' hq => ?_)
  cases r with
  | error e => exact hx pins σ H2 s2 e s' I2 hq
  | ok fl =>
    cases fl with
    | ret u => exact I2.after hq
    | next => exact False.elim hq
    | brk => exact False.elim hq
    | cont => exact False.elim hq
theorem pe_mk (D : MkD X.prog X.w X.K X.mg X.base C j ps sp) (hr : Room k X.A) (hg : Gl X x) (hm : X.mg x = some (.ref C)) (ha : PA X (e :: es) t) (hjk : j + 1 ≤ k := by decide) (hdb : (x == ("__debug__" : Str)) = false := by decide)
    (he : starEach (e :: es) X.env = (false, eval e X.env) :: starEach es X.env := by rfl) (hpl : (backTo pos (starEach es X.env)).any (·.1) = false := by rfl) : PE X (.Call (.Name x p) (e :: es) [] pos) (tMake C sp [] E0 t) := by
  obtain ⟨f, fd, F, b, M⟩ := D.ex
  exact pe_make M F (hr.mono hjk) hg hm b .nil pass0 ha hdb he hpl
theorem tab_one {P : Program} {w : World} {K : PySem.W.Frag} {mg : Str → Option Value} {base : Heap} {CX : CXT} {y : Str} {g : Addr} {n : Nat} (hm : mg y = some (.ref g))
    (D : ∃ (f : Addr) (fd : FuncData), FnOk P w K mg base CX n f fd ps sp ∧ Binds K fd ps [] ∧ PySem.W.keepIn K (.ref f) = true ∧ mg y = some (.ref f)) : TabOk P w K mg base CX n (fun h s => h = g ∧ s = sp) := ⟨fun h s ⟨e1, e2⟩ => by
  subst e1 e2
  obtain ⟨f, fd, F, b, kp, m⟩ := D
  rw [hm] at m
  cases m
  exact ⟨fd, ps, F, b, kp⟩⟩
end
end L2
namespace L2
open PySem PySem.Spec PyProof.Rows
theorem comp2ZT {K : PySem.W.Frag} {a b : Addr} {caps : List Nat} {tt : TT} {te : TE} {σ : St} {H : Hp} {Q : VK} (xs zs : List V) (Pv : Nat → List V → Hp → Prop) (hn : xs.length ≤ sizeLine) (hnm : xs.length = zs.length) (h0 : Pv 0 [] H) (hl : ∀ i ys H, Pv i ys H → SqT K H a xs ∧ SqL K H b zs)
    (hs : ∀ i (x y : V) ys H H', xs[i]? = some x → zs[i]? = some y → Pv i ys H → Same H H' → tt (some x :: some y :: capV caps σ) H' fun t H4 => if t = true then te (some x :: some y :: capV caps σ) H4 fun v H5 => Pv (i + 1) (ys ++ [v]) H5 else Pv (i + 1) ys H4)
    (hd : ∀ ys H, Pv xs.length ys H → ∀ p, H p = none → Q (.ref p) (upd H p (.lst ys))) : CompIt2 (Itzt K a b) caps (gTup K 2 (gCons (gName 0) (gCons (gName 1) gNil))) tt te σ H Q := by
  refine ⟨xs.length, fun i ys H => i ≤ xs.length ∧ Pv i ys H, hn, ⟨Nat.zero_le _, h0⟩, ?_⟩
  rintro i ys H2 ⟨hi, p⟩
  obtain ⟨hS, hS2⟩ := hl i ys H2 p
  by_cases hlt : i < xs.length
  · have hv : xs[i]? = some xs[i] := List.getElem?_eq_getElem hlt
    have hlt2 : i < zs.length := by omega
    have hv2 : zs[i]? = some zs[i] := List.getElem?_eq_getElem hlt2
    refine .inr ⟨⟨_, _, _, _, hS, hS2, hv, hv2⟩, hlt, ?_⟩
    rintro y H3 ⟨y, z, t, hy, hz, ht, rfl, rfl⟩ o1 o2
    have hy := hy _ hS
    rw [hv] at hy
    cases hy
    have hz := hz _ hS2
    rw [hv2] at hz
    cases hz
    refine ⟨t, _, rfl, SqT.of upd_same, rfl, _, _, rfl, _, _, rfl, rfl, ⟨_, _, rfl⟩, ?_⟩
    have key := hs i _ _ ys H2 _ hv hv2 p (same_new ht (.tup [xs[i], zs[i]]))
    have e2 : (fun (t : Bool) (H4 : Hp) => if t = true then te (some xs[i] :: some zs[i] :: capV caps σ) H4 fun v H5 => Pv (i + 1) (ys ++ [v]) H5 else Pv (i + 1) ys H4) = fun t H4 => if t = true then te (some xs[i] :: some zs[i] :: capV caps σ) H4 fun v H5 => i + 1 ≤ xs.length ∧ Pv (i + 1) (ys ++ [v]) H5 else i + 1 ≤ xs.length ∧ Pv (i + 1) ys H4 := by
      funext t H4
      have z : i + 1 ≤ xs.length := hlt
      simp only [z, true_and]
    rw [e2] at key
    exact key
  · have e : i = xs.length := by omega
    subst e
    exact .inl ⟨⟨_, _, hS, hS2, .inl (Nat.le_refl _)⟩, hd ys H2 p⟩
end L2
namespace L2
open PySem PySem.Spec PyProof.Rows
section
variable {X : Cx} {tg : Expr}
theorem rangeSize_down {a b : Int} : Builtin.Range.rangeSize a b (-1) = (((a - b).toNat : Nat) : Int) := by
  unfold Builtin.Range.rangeSize
  simp only [show ¬ ((-1 : Int) > 0) by decide, if_false]
  split
  · simp
    omega
  · omega
theorem small_down {a b : Int} (ha : -(2 ^ 60) ≤ a) (ha' : a < 2 ^ 60) (hb : -(2 ^ 60) ≤ b) (hb' : b < 2 ^ 60) : Builtin.Range.small a b (-1) = true := by
  have h1 : (a - b).toNat < 2 ^ 62 := by omega
  unfold Builtin.Range.small
  rw [rangeSize_down]
  simp only [Builtin.Range.rangeFitsLong, Bool.and_eq_true, Bool.or_eq_true, decide_eq_true_eq, beq_iff_eq, show ¬ ((-1 : Int) > 0) by decide, if_false]
  omega
theorem range_itD {pins : List (Addr × Obj)} {σ : St} {H : Hp} {s : Shared} {R : It → Hp → Prop} {E : Value → Shared → Prop} {lo hi : Int} {t u v : Tok} {tk : Nat} (I : Inv X pins σ H s) (h1 : -(2 ^ 60) ≤ lo) (h2 : lo < 2 ^ 60) (h3 : -(2 ^ 60) ≤ hi) (h4 : hi < 2 ^ 60)
    (q : R (Itc lo (-1) (lo - hi).toNat) H) : wpAny (model X.prog X.w) X.A (pyIter (.ref s.heap.objs.size)) (PIE X pins σ tg R) E { s with heap := s.heap.push { cls := .type "range", data := .fields #[.int lo t, .int hi u, .int (-1) v] }, toks := tk } := by
  refine wpAny_pyIter_range (IsRange.new ..) (small_down h1 h2 h3 h4) ?_
  have I1 : Inv X pins σ H { s with heap := s.heap.push { cls := .type "range", data := .fields #[.int lo t, .int hi u, .int (-1) v] }, toks := tk } := I.kept fun b o e => Heap.get?_push_of_some _ e
  refine ⟨(s.heap.push { cls := .type "range", data := .fields #[.int lo t, .int hi u, .int (-1) v] }).objs.size, [(s.heap.push { cls := .type "range", data := .fields #[.int lo t, .int hi u, .int (-1) v] }).objs.size], _, _, H, rfl,
    I1.kept (t' := tk) fun b o e => Heap.get?_push_of_some _ e, turn_rangeC _ lo (-1) (lo - hi).toNat, ?_, fun b hb => ?_, q⟩
  · have e1 : lo + ((0 : Nat) : Int) * (-1) = lo := by simp
    have e2 : (((lo - hi).toNat : Nat) : Int) - ((0 : Nat) : Int) = Builtin.Range.rangeSize lo hi (-1) := by rw [rangeSize_down]; simp
    show IsRangeIter _ _ (lo + ((0 : Nat) : Int) * (-1)) ((((lo - hi).toNat : Nat) : Int) - ((0 : Nat) : Int)) (-1)
    rw [e1, e2]
    exact Heap.get?_push_size _ rfl
  · have e : b = (s.heap.push { cls := .type "range", data := .fields #[.int lo t, .int hi u, .int (-1) v] }).objs.size := by simpa using hb
    subst e
    exact I1.fpOk (Nat.le_refl _) (I1.hok.fresh (Nat.le_refl _))
def iRngD (ta : TA) : TI := fun σ H R => ta σ H fun vs H1 => ∃ i j : Int, vs = [.int i, .int j, .int (-1)] ∧ (-(2 ^ 60) ≤ i ∧ i < 2 ^ 60 ∧ -(2 ^ 60) ≤ j ∧ j < 2 ^ 60) ∧ R (Itc i (-1) (i - j).toNat) H1
theorem pi_rangeD {a : Expr} {es : List Expr} {ta : TA} {p pos : Pos} (hg : Gl X "range") (hm : X.mg "range" = none) (ha : PA X (a :: es) ta) (he : starEach (a :: es) X.env = (false, eval a X.env) :: starEach es X.env := by rfl) (hpl : (backTo pos (starEach es X.env)).any (·.1) = false := by rfl) :
    PI X tg (.Call (.Name "range" p) (a :: es) [] pos) (iRngD ta) := by
  intro pins s σ H R I h
  refine Call_ (ld_blt I hg hm boot_range (PyProof.Rows.callWith_type1 (thn (ha pos pins s σ H _ I h) fun us s1 ⟨vs, H1, I1, r1, q1⟩ => ?_) he hpl))
  obtain ⟨i, j, e, ⟨q1, q2, q3, q4⟩, q⟩ := q1
  subst e
  cases r1 with
  | cons r rr =>
    cases rr with
    | cons r' rr =>
      cases rr with
      | cons r'' rr =>
        cases rr
        obtain ⟨t, rfl⟩ := r
        obtain ⟨t', rfl⟩ := r'
        obtain ⟨t'', rfl⟩ := r''
        exact call_range_3 (by omega) (range_itD I1 q1 q2 q3 q4 q) (.inl (PyProof.noPylong_small (by omega)))
end
theorem tab_or {P : Program} {w : World} {K : PySem.W.Frag} {mg : Str → Option Value} {base : Heap} {CX : CXT} {n m : Nat} {S T : Addr → Sp → Prop} (h : TabOk P w K mg base CX n S) (h' : TabOk P w K mg base CX m T) : TabOk P w K mg base CX (max n m) (fun g s => S g s ∨ T g s) := ⟨fun g s z => by
  rcases z with z | z
  · obtain ⟨fd, ps, F, b, kp⟩ := h.ok g s z
    exact ⟨fd, ps, F.mono (Nat.le_max_left ..), b, kp⟩
  · obtain ⟨fd, ps, F, b, kp⟩ := h'.ok g s z
    exact ⟨fd, ps, F.mono (Nat.le_max_right ..), b, kp⟩⟩
end L2
namespace L2
open PySem PySem.Spec PyProof.Rows
section
variable {X : Cx} {a b : Expr} {ta tb : TE} {z : Str}
def tFmt (z : Str) (ta tb : TE) : TE := fun σ H Q => ta σ H fun x H1 => ∃ i : Int, x = .int i ∧ i.natAbs.log2 < 1920 ∧ (Str.ofString (toString i) ++ z).length ≤ sizeLine ∧ tb σ H1 fun y H2 => ∃ j : Int, y = .int j ∧ j.natAbs.log2 < 1920 ∧ (Str.ofString (toString i) ++ z ++ Str.ofString (toString j)).length ≤ sizeLine ∧ Q (.str (Str.ofString (toString i) ++ z ++ Str.ofString (toString j))) H2
end
end L2
namespace Tx
open PySem PySem.Spec PyProof.Rows Builtin.Str
theorem app_len (a b : Str) : (a ++ b).length = a.length + b.length := Array.size_append
end Tx
namespace L2
open PySem PySem.Spec PyProof.Rows
section
variable {X : Cx}
end
end L2
namespace L2
open PySem PySem.Spec PyProof.Rows
section
variable {M : Model} {A : Around} {EX : Value → Shared → Prop} {s : Shared} {env : Env}
def cPostU (M : Model) (A : Around) (EX : Value → Shared → Prop) (u : Value → Sem Unit) (Q : Value → Shared → Prop) (acc : Value) (ce : Env) (r : Result) (s' : Shared) : Prop :=
  match r with
  | .ok _ => wpAny M A (u acc) (fun _ s2 => ∃ m, s2.heap.Ns ce.locals m ∧ ∀ h', Heap.SameBut ce.locals s2.heap h' → Q .none { s2 with heap := h' }) EX s'
  | .error x => ∃ m, s'.heap.Ns ce.locals m ∧ ∀ h', Heap.SameBut ce.locals s'.heap h' → wpAny M A (PySem.passOn "comprehension.variables-let-go" x ce : Sem Value) (fun _ _ => False) EX { s' with heap := h' }
theorem comp_freeU {e : Expr} {scope : Scope} {pos : Pos} {newAcc first : Sem Value} {g : Comprehension} {gs : List Comprehension} {cl : List (Str × Addr)} {u : Value → Sem Unit} {Q : Value → Shared → Prop}
    (h1 : clausesOf e = g :: gs) (h2 : ∀ x, foldedSetIterable g.iter env x = pure x) (h3 : closureFor scope env = pure cl) (h4 : scope.kind = .function) (h5 : ∀ x ∈ scope.names, x.2 = .local → scope.names.lookup x.1 = some .local)
    (h : wpAny M A first (fun x s1 => wpAny M A (pyIter x) (fun it s2 => wpAny M A newAcc (fun acc s3 => wpAny M A (newFunctionEnv scope env.globals cl [] env.qual none .none (some env)) (fun ce s4 =>
      codeAny M A (.compStart e 0 it acc { ce with scope := relabel scope env }) (cPostU M A EX u Q acc { ce with scope := relabel scope env }) s4) EX s3) EX s2) EX s1) EX s) :
    wpAny M A (comprehension e scope env pos newAcc false first (some u)) Q EX s := by
  unfold comprehension
  rw [h3, h1]
  refine wpAny_bind (thn h fun x s1 q1 => ?_)
  refine wpAny_bind (wpAny_standAt (wpAny_bind (wpAny_of_eq (h2 x) (wpAny_bind (wpAny_holding (thn q1 fun it s2 q2 => ?_))))))
  refine wpAny_standIf (wpAny_bind (thn q2 fun acc s3 q3 => wpAny_bind (wpAny_pure (wpAny_bind (thn q3 fun ce s4 q4 => ?_)))))
  dsimp only
  have loc : ∀ x ∈ (scope.names.filter fun x => (x.2 == .local || x.2 == .cell) && x.1 != (".0" : Str)).reverse, x.2 = .local → Env.kindOf { ce with scope := relabel scope env } x.1 = some .local := fun x hx hl => by
    have hm := (List.mem_filter.mp (List.mem_reverse.mp hx)).1
    exact lookup_relabel_local (h5 x hm hl)
  have loc' : ∀ x ∈ (scope.names.filter fun x => (x.2 == .local || x.2 == .cell) && x.1 != (".0" : Str)).reverse.drop 1 ++ (scope.names.filter fun x => (x.2 == .local || x.2 == .cell) && x.1 != (".0" : Str)).reverse.take 1, x.2 = .local → Env.kindOf { ce with scope := relabel scope env } x.1 = some .local := fun x hx hl => by
    rcases List.mem_append.mp hx with h1 | h1
    · exact loc x (List.mem_of_mem_drop h1) hl
    · exact loc x (List.mem_of_mem_take h1) hl
  refine wpAny_holding (wpAny_bind (wpAny_attempt (wpAny_holding (wpAny_run (codeAny_mono q4 fun r s' qr => ?_)))))
  cases r with
  | ok f =>
    refine wpAny_bind (wpAny_rule (wpAny_bind (wpAny_holding (wpAny_mono qr (fun _ s2 qr' => ?_) fun _ _ z => z))))
    obtain ⟨m, hn, hr⟩ := qr'
    exact wpAny_bind (wpAny_comp_letGo (cenv := { ce with scope := relabel scope env }) h4 _ s2 m loc' hn fun h' _ _ sb => wpAny_pure (hr h' sb))
  | error x =>
    obtain ⟨m, hn, hr⟩ := qr
    exact wpAny_bind (wpAny_holding (wpAny_comp_letGo (cenv := { ce with scope := relabel scope env }) h4 _ s' m loc hn fun h' _ _ sb => wpAny_mono (hr h' sb) (fun _ _ z => z.elim) fun _ _ z => z))
end
section
variable {X : Cx}
theorem comp_block2E {E : XK} (hst : X.stack = X.env :: X.outer) {elt iter tgt : Expr} {x y : Str} {pos : Pos} {g : TG} {ifs : List Expr} {scope : Scope} {cl : List (Str × Addr)} {caps : List Nat} {xs : List Str} {tt : TT} {te : TE}
    (hc : X.calm = true) (hcl : ClOk X.env.cells cl) (hcap : CapsOk X (relabel scope X.env) cl caps xs) (hlen : caps.length = xs.length)
    (hkind : scope.kind = .function) (hcell : ∀ y ∈ scope.names, y.2 ≠ .cell)
    (hhas : ((relabel scope X.env).names.all fun y => !(y.2 == .cell || y.2 == .free) || (cl.lookup y.1).isSome) = true)
    (hg : ∀ C s H fp, PG (compCx X (x :: y :: xs) scope cl C s H fp) tgt g)
    (ht : ∀ C s H fp, PTs (compCx X (x :: y :: xs) scope cl C s H fp) ifs tt) (he : ∀ C s H fp XE, Passes (CXE X.prog X.w) ((compCx X (x :: y :: xs) scope cl C s H fp).wish XE) E → PE ((compCx X (x :: y :: xs) scope cl C s H fp).wish XE) elt te)
    {pins : List (Addr × Obj)} {σ : St} {H1 : Hp} {s2 : Shared} {it : Addr} {fp : List Addr} {tn : Nat → Heap → Prop} {J : It} {Q : VK}
    (I2 : Inv X pins σ H1 s2) (T : Turn X.prog X.w X.K tgt J fp it tn) (st0 : tn 0 s2.heap) (hfp : ∀ b ∈ fp, FpOk X pins H1 b)
    (hq : ∃ (n : Nat) (W : Nat → List V → Hp → Prop), n ≤ sizeLine ∧ W 0 [] H1 ∧ ∀ i ys H2, W i ys H2 →
      (J.stop i H2 ∧ ∀ p, H2 p = none → Q (.ref p) (upd H2 p (.lst ys))) ∨
      (J.go i H2 ∧ i < n ∧ ∀ x H3, J.yld i H2 x H3 → ∀ o1 o2 : Option V, g x (o1 :: o2 :: capV caps σ) H3 fun σ4 H4 => (∃ v1 v2 : V, σ4 = some v1 :: some v2 :: capV caps σ) ∧ tt σ4 H4 fun b H5 => if b = true then te σ4 H5 fun v H6 => W (i + 1) (ys ++ [v]) H6 else W (i + 1) ys H5))
    {RR : Value → Env → Result → Shared → Prop}
    (hRR : ∀ s1 D C m H', Inv X pins σ H' s1 → s1.heap.Ns C m → Loose X pins H' C → Q (.ref D) H' → RR (.ref D) (compEnvC scope cl C X.env) (.ok .next) s1)
    (hRE : ∀ s1 acc C m H' e s', Inv X pins σ H' s1 → s1.heap.Ns C m → Loose X pins H' C → C ∉ frs X.stack → CXE X.prog X.w X.stack H' s1 E e s' → notedBy (model X.prog X.w) X.A X.env (fun x s'' => RR acc (compEnvC scope cl C X.env) (.error x) s'') e s') :
    wpAny (model X.prog X.w) X.A (newList []) (fun acc s₃ => wpAny (model X.prog X.w) X.A (newFunctionEnv scope X.env.globals cl [] X.env.qual none .none (some X.env)) (fun cenv s₄ =>
      codeAny (model X.prog X.w) X.A (.compStart (.ListComp elt [⟨tgt, iter, ifs, 0⟩] scope pos) 0 (.ref it) acc { cenv with scope := relabel scope X.env }) (RR acc { cenv with scope := relabel scope X.env }) s₄) X.xe s₃) X.xe s2 := by
  obtain ⟨n, W, hn, w0, hW⟩ := hq
  have hlt : ∀ b ∈ fp, b < s2.heap.objs.size := fun b hb => by
    obtain ⟨o, ho, _⟩ := T.obj 0 s2.heap st0 b hb
    exact Heap.lt_size ho
  refine wpAny_newObj_type (wpAny_newFunctionEnv hcell (by intro y hy; simp at hy) (fun h₁ hns₁ hsb₁ => ?_) hkind)
  dsimp only at hns₁ hsb₁ ⊢
  generalize hH2 : s2.heap.push { cls := .type "list", dict := none, data := .seq ([] : List Value).toArray } = G at hns₁ hsb₁ ⊢
  have hC : G.objs.size = s2.heap.objs.size + 1 := by rw [← hH2, Heap.size_push]
  have hDC : s2.heap.objs.size ≠ G.objs.size := by omega
  have old : ∀ b o, s2.heap.get? b = some o → h₁.get? b = some o := fun b o e => hsb₁.extBut b o (adr (by have h1 : @LT.lt Nat _ b s2.heap.objs.size := Heap.lt_size e; omega)) (Heap.get?_push_of_some _ (hH2 ▸ Heap.get?_push_of_some _ e))
  have hacc : h₁.get? s2.heap.objs.size = some { cls := .type "list", dict := none, data := .seq ([] : List Value).toArray } :=
    hsb₁.extBut _ _ hDC (Heap.get?_push_of_some _ (hH2 ▸ Heap.get?_push_size _ rfl))
  have I3 : Inv (compCx X (x :: y :: xs) scope cl G.objs.size s2 H1 fp) [] (none :: none :: capV caps σ) H1 { s2 with heap := h₁, toks := s2.toks + ([] : List (Str × Value)).length } :=
    comp_start2 I2 hcl hkind hfp hlt hhas (by omega) hcap hlen hns₁ old
  have st1 : tn 0 h₁ := T.keep 0 _ _ st0 fun b hb o e => old b o e
  have fpX : ∀ {pins' : List (Addr × Obj)} {H' : Hp} (b : Addr), b ∈ fp → H' b = none → (∀ p ∈ pins', p.1 ≠ b) → FpOk (compCx X (x :: y :: xs) scope cl G.objs.size s2 H1 fp) pins' H' b := fun b hb hh hp =>
    ⟨hh, fun z => by have h1 : @LT.lt Nat _ b s2.heap.objs.size := hlt b hb; have z' : @Eq Nat b G.objs.size := z; omega, fun z => by
      rcases List.mem_cons.mp (I2.stkSub b z) with q | q
      · exact (hfp b hb).2.1 q
      · exact (hfp b hb).2.2.1 q, .inl hb, fun y c e => (hfp b hb).2.2.2.2.1 y c (hcl.get e), fun p hp' => hp p hp'⟩
  let XC := compCx X (x :: y :: xs) scope cl G.objs.size s2 H1 fp
  have CnF : G.objs.size ∉ frs X.stack := fun z => by
    rcases List.mem_cons.mp (I2.stkSub _ z) with q | q
    · have h1 : @LT.lt Nat instLTNat X.env.locals s2.heap.objs.size := I2.lt
      have z' : @Eq Nat G.objs.size X.env.locals := q
      omega
    · exact I2.nofs (by omega) q
  have loose : ∀ {H' : Hp}, H' G.objs.size = none → Loose X pins H' G.objs.size := fun hHC => by
    refine ⟨hHC, fun z => ?_, by have := I2.sz; omega, fun y c e z => ?_, fun p hp z => ?_⟩
    · have h1 : @LT.lt Nat instLTNat X.env.locals s2.heap.objs.size := I2.lt
      have z' : @Eq Nat G.objs.size X.env.locals := z
      omega
    · obtain ⟨v', o', ho', _⟩ := I2.cell y c e
      have h1 := ltN ho'
      have z' : @Eq Nat c G.objs.size := z
      omega
    · have h1 := ltN (I2.pin p hp).1
      have z' : @Eq Nat p.1 G.objs.size := z
      omega
  obtain ⟨XE, hXE⟩ : ∃ XE : Value → Shared → Prop, ∀ e s', XE e s' ↔ ∃ Hn s1, Inv X pins σ Hn s1 ∧ (∃ m, s1.heap.Ns G.objs.size m) ∧ Loose X pins Hn G.objs.size ∧ G.objs.size ∉ frs X.stack ∧ CXE X.prog X.w X.stack Hn s1 E e s' := ⟨_, fun _ _ => Iff.rfl⟩
  have passes : Passes (CXE X.prog X.w) (XC.wish XE) E := fun pins' σ' H' s1 e s' J hc => by
    have J1 := J.unwish
    obtain ⟨mC, hnC, _⟩ := J1.loc
    exact (hXE _ _).mpr ⟨H', s1, I2.call' (ch := fp) J1.os J1.base J1.hok J1.bare fun b hb => ⟨(hfp b hb).2.2.2.1, (hfp b hb).2.1, (hfp b hb).2.2.2.2.1, (hfp b hb).2.2.2.2.2⟩, ⟨mC, hnC⟩, loose J1.free, CnF, hc⟩
  have loop : ∀ s3 : Shared, s3 = { s2 with heap := h₁, toks := s2.toks + ([] : List (Str × Value)).length } →
      codeAny (model X.prog X.w) X.A (.compLoop (.ListComp elt [⟨tgt, iter, ifs, 0⟩] scope pos) 0 (.ref it) (.ref s2.heap.objs.size) (compEnvC scope cl G.objs.size X.env))
        (RR (.ref s2.heap.objs.size) (compEnvC scope cl G.objs.size X.env)) s3 := by
    rintro s3 rfl
    refine comp_loopE (fun m s' => ∃ (i : Nat) (ys : List V) (Hn : Hp) (its : List Value) (k : Nat) (v0 v1 : Option V), m = n + 1 - i ∧ i ≤ n ∧ ys.length ≤ i ∧ W i ys Hn ∧ Vals ys its ∧ tn i s'.heap ∧ (∀ b ∈ fp, Hn b = none) ∧
      Inv XC [(s2.heap.objs.size, { cls := .type "list", data := .seq its.toArray k })] (v0 :: v1 :: capV caps σ) Hn s') ?_ (n + 1) ?_
    · rintro m s' ⟨i, ys, Hn, its, k, v0, v1, rfl, hin, hyl, w, rv, st, hfn, J'⟩
      have pD := J'.pin _ (List.mem_append_right _ (List.mem_singleton.mpr rfl))
      have neD : ∀ b ∈ fp, ∀ p ∈ [((s2.heap.objs.size, ({ cls := .type "list", data := .seq its.toArray k } : Obj)))], p.1 ≠ b := fun b hb p hp z => by
        have h1 : @LT.lt Nat instLTNat b s2.heap.objs.size := hlt b hb
        rw [List.mem_singleton.mp hp] at z
        have z' : @Eq Nat s2.heap.objs.size b := z
        omega
      rcases hW i ys Hn w with ⟨hstop, fin⟩ | ⟨hgo, hi', hgo'⟩
      · -- it stops
        refine wpAny_mono (T.done XC rfl rfl rfl hc i _ s' _ Hn (fun _ _ => False) J' (fun b hb => fpX b hb (hfn b hb) (neD b hb)) st hstop) (fun r s1 hr => ?_) fun _ _ z => z
        obtain ⟨rfl, J1⟩ := hr
        obtain ⟨mC, hnC, _⟩ := J1.loc
        have pD1 := J1.pin _ (List.mem_append_right _ (List.mem_singleton.mpr rfl))
        have hD' : s1.heap.get? s2.heap.objs.size = some { cls := .type "list", data := .seq its.toArray k } := pD1.1
        have hHD : Hn s2.heap.objs.size = none := pD1.2.1
        have hHC : Hn G.objs.size = none := J1.free
        have un : Un (frs X.stack) fp H1 (upd Hn s2.heap.objs.size (.lst ys)) s2.heap s1.heap := by
          have u := J1.base
          have lt2 : ∀ b o, s2.heap.get? b = some o → b ≠ G.objs.size ∧ b ≠ s2.heap.objs.size := fun b o e => by
            have h1 := ltN e
            exact ⟨adr (by omega), adr (by omega)⟩
          refine ⟨u.keep, u.slot, fun b o e n1 n2 => ?_, u.there, fun b zs e => ?_, fun b o u' e => ?_, fun b ps e => ?_⟩
          · rw [upd_ne (lt2 b o e).2]
            exact u.free b o e n1 n2
          · have q := u.tups b zs e
            rw [upd_ne (fun z => by rw [z, hHD] at q; cases q)]
            exact q
          · have q := u.frzs b o u' e
            rw [upd_ne (fun z => by rw [z, hHD] at q; cases q)]
            exact q
          · obtain ⟨more, q⟩ := u.tbls b ps e
            refine ⟨more, ?_⟩
            rw [upd_ne (fun z => by rw [z, hHD] at q; cases q)]
            exact q
        have hok : HOk X.prog X.w (upd Hn s2.heap.objs.size (.lst ys)) s1.heap := fun a o e => by
          by_cases ha : a = s2.heap.objs.size
          · subst ha
            rw [upd_same] at e
            cases e
            exact ⟨by omega, its, k, rv, hD'⟩
          · rw [upd_ne ha] at e
            have q : ObjOk X.prog X.w Hn s1.heap a o := J1.hok a o e
            refine q.stay (fun b u' hb e' => e') (fun b e' => ?_) fun b zs e' => ?_
            · rw [upd_ne (fun z => by rw [z, hHD] at e'; cases e')]; exact e'
            · rw [upd_ne (fun z => by rw [z, hHD] at e'; cases e')]; exact e'
        have I4 : Inv X pins σ (upd Hn s2.heap.objs.size (.lst ys)) s1 :=
          I2.call' (ch := fp) J1.os un hok J1.bare fun b hb => ⟨(hfp b hb).2.2.2.1, (hfp b hb).2.1, (hfp b hb).2.2.2.2.1, (hfp b hb).2.2.2.2.2⟩
        refine hRR s1 _ _ mC _ I4 hnC ⟨by rw [upd_ne (Ne.symm hDC)]; exact hHC, fun z => ?_, by have := I2.sz; omega, fun y c e z => ?_, fun p hp z => ?_⟩ (fin _ hHD)
        · have h1 : @LT.lt Nat instLTNat X.env.locals s2.heap.objs.size := I2.lt
          have z' : @Eq Nat G.objs.size X.env.locals := z
          omega
        · obtain ⟨v', o', ho', _⟩ := I2.cell y c e
          have h1 := ltN ho'
          have z' : @Eq Nat c G.objs.size := z
          omega
        · have h1 := ltN (I2.pin p hp).1
          have z' : @Eq Nat p.1 G.objs.size := z
          omega
      · -- a turn
        refine wpAny_mono (T.item XC rfl rfl rfl hc i _ s' _ Hn (fun _ _ => False) J' (fun b hb => fpX b hb (hfn b hb) (neD b hb)) st hgo) (fun r s1 hr => ?_) fun _ _ z => z
        obtain ⟨u, rfl, hr⟩ := hr
        refine wpAny_mono hr (fun _ s2' h2 => ?_) fun _ _ z => z
        obtain ⟨v, H3, J1, ru, hy, st1', hf3⟩ := h2
        have ob4 : ∀ b ∈ fp, ∃ o, s2'.heap.get? b = some o ∧ ∀ v, o.data ≠ .cell v := fun b hb => T.obj _ _ st1' b hb
        have J3 := J1.pinned (fun b hb => fpX b hb (hf3 b hb) (neD b hb)) ob4
        have tnAt : ∀ {σ' : St} {H' : Hp} {s'' : Shared}, Inv XC ([(s2.heap.objs.size, ({ cls := .type "list", data := .seq its.toArray k } : Obj))] ++ pinsAt fp s2'.heap) σ' H' s'' → tn (i + 1) s''.heap ∧ ∀ b ∈ fp, H' b = none := fun J4 =>
          ⟨T.keep _ _ _ st1' fun b hb o e => (J4.pin (b, o) (List.mem_append_right _ (List.mem_append_right _ (mem_pinsAt hb e)))).1, fun b hb => by
            obtain ⟨o, e, _⟩ := ob4 b hb
            exact (J4.pin (b, o) (List.mem_append_right _ (List.mem_append_right _ (mem_pinsAt hb e)))).2.1⟩
        refine wpAny_mono (hg _ _ _ _ _ s2' _ H3 v u _ J3 ru (hgo' v H3 hy v0 v1)) (fun _ s4 h4 => ?_) fun _ _ z => z
        obtain ⟨σ4, H3', J3', ⟨w1, w2, rfl⟩, q3⟩ := h4
        refine thn (ht _ _ _ _ _ s4 _ H3' _ J3' q3) fun ok s5 ⟨H4, J4, q4⟩ => ?_
        cases ok with
        | false =>
          rw [if_neg (by simp)]
          have q4' : W (i + 1) ys H4 := q4
          obtain ⟨a1, a2⟩ := tnAt J4
          exact ⟨n + 1 - (i + 1), by omega, i + 1, ys, H4, its, k, some w1, some w2, rfl, by omega, by omega, q4', rv, a1, a2, J4.unpinned⟩
        | true =>
          rw [if_pos rfl]
          have q4' : te (some w1 :: some w2 :: capV caps σ) H4 fun v H5 => W (i + 1) (ys ++ [v]) H5 := q4
          refine wpAny_mono (he _ _ _ _ _ passes _ s5 _ H4 _ (J4.wish _) q4') (fun uv s6 ⟨y, H5, J5, ry, q5⟩ => ?_) (fun e s6 hx => ?_)
          case refine_2 =>
            obtain ⟨Hn', s1', I', ⟨m', hm'⟩, l', f', c'⟩ := (hXE _ _).mp hx
            exact hRE s1' _ _ m' Hn' e s6 I' hm' l' f' c'
          have J5 := J5.unwish
          obtain ⟨a1, a2⟩ := tnAt J5
          have pD6 := J5.pin _ (List.mem_append_right _ (List.mem_append_left _ (List.mem_singleton.mpr rfl)))
          have hl6 := rv.length
          refine call_meets F.slot_list_append ⟨_, pD6.1, rfl⟩ F.entry_list_append (F.args_list_append_2 _ _) (PySem.list_append s2.heap.objs.size its.toArray k uv (by rw [List.size_toArray]; omega)) ⟨pD6.1, ?_⟩
          have J6 : Inv XC [] (some w1 :: some w2 :: capV caps σ) H5 s6 := J5.pins_of fun p hp => by cases hp
          have ne6 : s2.heap.objs.size ∉ fp := fun z => by have h1 : @LT.lt Nat instLTNat s2.heap.objs.size s2.heap.objs.size := hlt _ z; omega
          have J7 : Inv XC [] (some w1 :: some w2 :: capV caps σ) H5 { s6 with heap := s6.heap.update s2.heap.objs.size (Obj.mapSeq fun xs => xs.push uv), toks := s6.toks } :=
            J6.turned (it := s2.heap.objs.size) (fun b o hb e => by rw [Heap.get?_update_other _ _ (Ne.symm hb)]; exact e) pD6.2.1 (fun z => hDC z) (.inr (Nat.le_refl _)) (fun y c e z => by
              have e1 := I2.cell y c (hcl.get e)
              obtain ⟨v', o', ho', _⟩ := e1
              have h1 := ltN ho'
              have z' : @Eq Nat c s2.heap.objs.size := z
              omega) (fun p hp => by cases hp)
          refine ⟨n + 1 - (i + 1), by omega, i + 1, ys ++ [y], H5, its ++ [uv], k + 1, some w1, some w2, rfl, by omega, by rw [List.length_append, List.length_singleton]; omega, q5, rv.append (.cons ry .nil), ?_, a2, ?_⟩
          · refine T.keep _ _ _ a1 fun b hb o e => ?_
            show (s6.heap.update s2.heap.objs.size _).get? b = some o
            rw [Heap.get?_update_other _ _ (fun z => ne6 (by rw [z]; exact hb))]
            exact e
          · refine J7.pins_of fun p hp => ?_
            rw [List.mem_singleton.mp hp]
            refine ⟨?_, pD6.2.1, fun z => hDC z, pD6.2.2.2.1, fun v' z => ?_⟩
            · show (s6.heap.update s2.heap.objs.size _).get? s2.heap.objs.size = _
              rw [Heap.get?_update_self _ pD6.1 rfl]
              simp only [Obj.mapSeq, List.push_toArray]
              rw [if_neg (by simp)]
            · have z' : Data.seq _ _ = Data.cell v' := z
              cases z'
    · exact ⟨0, [], H1, [], 0, none, none, by omega, by omega, by simp, w0, .nil, st1, fun b hb => (hfp b hb).1, I3.pins_of fun p hp => by
        rw [List.mem_singleton.mp hp]
        refine ⟨hacc, I2.hok.fresh (Nat.le_refl _), fun z => hDC z, fun z => ?_, fun v' z => ?_⟩
        · have := I2.stkFree _ z
          rcases List.mem_cons.mp (I2.stkSub _ z) with q | q
          · have h1 : @LT.lt Nat instLTNat X.env.locals s2.heap.objs.size := I2.lt
            have z' : @Eq Nat s2.heap.objs.size X.env.locals := q
            omega
          · exact I2.nofs (Nat.le_refl _) q
        · have z' : Data.seq _ _ = Data.cell v' := z
          cases z'⟩
  exact codeAny_compStart_list (loop _ rfl) (T.self X.A 0 _ _ _ st1 (loop _ rfl))
theorem ps_comp2E {elt iter : Expr} {x y z : Str} {px py pz pt pos spos : Pos} {k1 : Nat} {ifs : List Expr} {scope : Scope} {cl : List (Str × Addr)} {k : Nat} {E : XK} {EE : Value → Shared → Prop} (hst : X.stack = X.env :: X.outer) (hfr : X.env.frame = some X.env.locals) (hex : X.ex = []) (hxe : X.xe = fun e s' => wpAny (model X.prog X.w) X.A (leaving X.env e) (fun _ s'' => CXE X.prog X.w X.outer X.H₀ X.s₀ E e s'') EE s')
    (caps : List Nat) (xs : List Str) {wi : TI} {tt : TT} {te : TE}
    (hsw : swapsWith (.ListComp elt [⟨.Tuple [.Name x px, .Name y py] k1 pt, iter, ifs, 0⟩] scope pos) (some (.Name z pz)) spos.line X.env = pure true)
    (hNX : X.N.Nodup) (hk : X.N[k]? = some z) (hz : X.env.scope.names.lookup z = some .local)
    (hc : X.calm = true) (hclos : closureFor scope X.env = pure cl) (hcl : ClOk X.env.cells cl) (hcap : CapsOk X (relabel scope X.env) cl caps xs) (hlen : caps.length = xs.length)
    (hkind : scope.kind = .function) (hcell : ∀ y ∈ scope.names, y.2 ≠ .cell) (hnames : ∀ y ∈ scope.names, y.2 = .local → scope.names.lookup y.1 = some .local)
    (hhas : ((relabel scope X.env).names.all fun y => !(y.2 == .cell || y.2 == .free) || (cl.lookup y.1).isSome) = true)
    (hx : (relabel scope X.env).names.lookup x = some .local) (hy : (relabel scope X.env).names.lookup y = some .local) (hN : (x :: y :: xs).Nodup) (hi : PI X (.Tuple [.Name x px, .Name y py] k1 pt) iter wi) (ht : ∀ C s H fp, PTs (compCx X (x :: y :: xs) scope cl C s H fp) ifs tt) (he : ∀ C s H fp XE, Passes (CXE X.prog X.w) ((compCx X (x :: y :: xs) scope cl C s H fp).wish XE) E → PE ((compCx X (x :: y :: xs) scope cl C s H fp).wish XE) elt te)
    (hs : ∀ v, foldedSetIterable iter X.env v = pure v := by intro _; rfl) : PS X (.Assign [.Name z pz] (.ListComp elt [⟨.Tuple [.Name x px, .Name y py] k1 pt, iter, ifs, 0⟩] scope pos) spos) (tAsg (tComp2 caps wi (gTup X.K 2 (gCons (gName 0) (gCons (gName 1) gNil))) tt te) (gName k)) := by
  intro pins s σ H D I h
  rw [exec_Assign_Name_used _ _ _ _ hsw]
  refine wpAny_bind (wpAny_standAt (wpAny_bind ?_))
  show wpAny _ X.A (do let _ ← comprehension (.ListComp elt [⟨.Tuple [.Name x px, .Name y py] k1 pt, iter, ifs, 0⟩] scope pos) scope X.env _ (newList []) false (eval iter X.env) (some (assign (.Name z pz) X.env))) _ _ s
  refine wpAny_bind (wpAny_mono (comp_freeU (u := assign (.Name z pz) X.env) (Q := fun _ s' => SP X pins D .next s') rfl hs hclos hkind hnames
    (wpAny_mono (hi pins s σ H _ I h) (fun xv s₁ h₁ => wpAny_mono h₁ (fun itv s2 h2 => ?_) fun _ _ e => e) fun _ _ e => e)) (fun _ s' hq => wpAny_pure (wpAny_pure hq)) fun _ _ e => e)
  obtain ⟨it, fp, tn, J, H1, rfl, I2, T, st0, hfp, hq⟩ := h2
  refine comp_block2E (E := E) hst (Q := fun v H1 => gName k v σ H1 D.nx) (RR := fun acc ce => cPostU (model X.prog X.w) X.A X.xe (assign (.Name z pz) X.env) (fun _ s' => SP X pins D .next s') acc ce) hc hcl hcap hlen hkind hcell hhas (fun C s H fp => pg_tup (X := compCx X (x :: y :: xs) scope cl C s H fp) hc (pgs_cons (pg_name (i := 0) hN rfl (.inl hx) (.inr hx)) (pgs_cons (pg_name (i := 1) hN rfl (.inl hy) (.inr hy)) pgs_nil))) ht he I2 T st0 hfp hq ?_ ?_
  · intro s1 Da C m H' I4 hn l q
    show wpAny _ X.A (assign (.Name z pz) X.env (.ref Da)) _ _ s1
    refine wpAny_assign_Name (store_ok2 (v := .ref Da) I4 hNX hk (.inl hz) rfl (fun s4 I5 hsb => ?_) (.inr hz))
    obtain ⟨a, hsa, ha⟩ := hsb
    have hCa : C ≠ a := by
      rcases ha with ha | ha
      · rw [ha]; exact l.2.1
      · exact Ne.symm (l.2.2.2.1 z a ha)
    refine ⟨m, hn.sameBut hsa hCa, fun h' hsb => ⟨_, H', I5.letGo l hsb, q⟩⟩
  · intro s1 acc C m H' e s' I4 hn l hf hcx
    have := pasC (EE := EE) (EE' := fun x s'' => cPostU (model X.prog X.w) X.A X.xe (assign (.Name z pz) X.env) (fun _ s' => SP X pins D .next s') acc (compEnvC scope cl C X.env) (.error x) s'') (M := model X.prog X.w) (ce := compEnvC scope cl C X.env) hst hfr hex I4 hcx l hn hf rfl rfl
    rw [← hxe] at this
    exact this
end
end L2
namespace L2
open PySem PySem.Spec PyProof.Rows
theorem vals_of_strs : ∀ {vs : List Value} {ss : List Str}, StrsAre vs ss → Vals (ss.map V.str) vs
  | _, _, .nil => .nil
  | _, _, .cons y t h => .cons ⟨t, rfl⟩ (vals_of_strs h)
theorem strs_at : ∀ {vs : List Value} {ss : List Str}, vs.length = ss.length → (∀ (j : Nat) (v : Value) (x : Str), vs[j]? = some v → ss[j]? = some x → ∃ t, v = .str x t) → StrsAre vs ss
  | [], [], _, _ => .nil
  | [], _ :: _, h, _ => by simp at h
  | _ :: _, [], h, _ => by simp at h
  | v :: vs, x :: ss, h, g => by
    obtain ⟨t, rfl⟩ := g 0 v x rfl rfl
    exact .cons x t (strs_at (by simpa using h) fun j v x e1 e2 => g (j + 1) v x e1 e2)
section
open PySem.Calls PySem.W
variable {prog : Program} {w : World} {A : Around} {E : Value → Shared → Prop} {s : Shared}
theorem gathered {T : String} {r d : Addr} {n : Nat} {P : Nat → Value → Prop} {OK : Heap → Prop} {R : List Value → Shared → Prop} (K : KdlSrc prog w T r d n P OK) (hh : A.handled = none) (hok : OK s.heap) (hn : n ≤ sizeLine)
    (h : ∀ (h' : Heap) (tk : Nat) (acc : Array Value), (∀ b o, s.heap.get? b = some o → h'.get? b = some o) → s.heap.objs.size ≤ h'.objs.size → ItemsOf P acc n → R acc.toList { s with heap := h', toks := tk }) :
    wpAny (model prog w) A (collect (.ref r)) R E s := by
  obtain ⟨t1, t2⟩ := K.there _ hok
  have fin : ∀ (h' : Heap) (tk : Nat) (acc : Array Value) (c : Nat), (∀ b o, s.heap.get? b = some o → h'.get? b = some o) → h'.get? s.heap.objs.size = some { cls := .type "list", dict := none, data := .seq acc c, slots := #[] } → ItemsOf P acc n →
      wpAny (model prog w) A (do
        let o ← load s.heap.objs.size
        match o.data with
        | .seq xs _ => pure xs.toList
        | _ => unsupported "internal:collect") R E { s with heap := h', toks := tk } := fun h' tk acc c k1 k2 k3 =>
    wpAny_bind (wpAny_load k2 (wpAny_pure (h h' tk acc k1 (Nat.le_of_lt (Heap.lt_size k2)) k3)))
  unfold collect
  refine wpAny_bind (wpAny_runValue (codeAny_builtin entry_proto_collect' ?_))
  rw [Around.under_plainId PySem.F.plain_proto_collect _]
  refine wpAny_bind (wpAny_newObj_type (wpAny_pure ⟨plainId_quiet PySem.F.plain_list_iadd _, codeAny_builtin entry_list_iadd' ?_⟩))
  rw [Around.under_plainId PySem.F.plain_list_iadd _]
  have key := kdl_extend (A := A) (s := { s with heap := s.heap.push { cls := .type "list", data := .seq ([] : List Value).toArray } })
    (R := fun (q : Result) (s' : Shared) => ∃ (h' : Heap) (tk : Nat) (acc : Array Value) (c : Nat), q = .ok (.ret (.ref s.heap.objs.size)) ∧ s' = { s with heap := h', toks := tk } ∧
      (∀ b o, s.heap.get? b = some o → h'.get? b = some o) ∧ h'.get? s.heap.objs.size = some { cls := .type "list", dict := none, data := .seq acc c, slots := #[] } ∧ ItemsOf P acc n)
    K hh (K.keep _ _ hok fun b _ o e => Heap.get?_push_of_some _ e) s.heap.objs.size (Nat.ne_of_gt t1) (Nat.ne_of_gt t2) (.ref s.heap.objs.size) 0 (Heap.get?_push_size _ rfl)
    (fun h' tk acc c hk hS hacc => ⟨h', tk, acc, c, rfl, rfl, fun b o e => hk b o (Nat.ne_of_lt (Heap.lt_size e)) (Heap.get?_push_of_some _ e), hS, hacc⟩) hn
  refine wpAny_mono key (fun f s' x => ?_) fun e s' x => ?_
  · cases f with
    | done _ =>
      obtain ⟨h', tk, acc, c, e, rfl, k1, k2, k3⟩ := x
      cases e
      exact fin h' tk acc c k1 k2 k3
    | again _ =>
      refine ⟨x.1, codeAny_mono x.2 fun q s2 y => ?_⟩
      obtain ⟨h', tk, acc, c, rfl, rfl, k1, k2, k3⟩ := y
      exact fin h' tk acc c k1 k2 k3
  · obtain ⟨_, _, _, _, e', _⟩ := x
    cases e'
end
section
variable {X : Cx}
theorem call_sortedS (hc : X.calm = true) : CallR X (.builtin "sorted") (fun xs H Q => ∃ (a : Addr) (kvs : List (Key × V)) (ss : List Str), xs = [.ref a] ∧ H a = some (.dK kvs) ∧ kvs.map (·.1) = ss.map Sum.inr ∧ ss.length < 64 ∧ ∀ zs : List Str, zs.Perm ss → sortedS zs = true → ∀ l, H l = none → Q (.ref l) (upd H l (.lst (zs.map V.str)))) := by
  intro pins s σ H xs us Q I r h
  obtain ⟨a, kvs, ss, rfl, hd, hk, h64, q⟩ := h
  obtain ⟨u, rfl, rx⟩ := vals1 r
  cases rx
  obtain ⟨hz, lo, vs, kv, dof⟩ := (show ObjOk X.prog X.w H s.heap a (.dK kvs) from I.hok a _ hd)
  obtain ⟨ep, dat⟩ := dof.dictAt
  have hl := kv.length
  have hks : vs.map (·.1) = ss.map Sum.inr := by rw [← kv.keys]; exact hk
  have hn : vs.length = ss.length := by
    have := congrArg List.length hks
    simpa using this
  refine Calls.call_function_entry kind_sorted plain_sorted entry_sorted (args_sorted1 _) ?_
  unfold Builtin.«sorted»
  refine wpAny_bind (m := checkCount "sorted" 1 1 _) (wpAny_pure ?_)
  refine wpAny_bind (gathered (A := X.A.in1) (PySem.W.kdl_dict (knd := mixKind X.prog X.w) (kvs := vs) (ep := ep) lo) (I.ok.hd hc) dat (by omega) fun h' tk acc hk' hsz hacc => ?_)
  have hal : acc.toList.length = vs.length := by rw [Array.length_toList]; exact hacc.1
  have hS : StrsAre acc.toList ss := strs_at (by omega) fun j v x e1 e2 => by
    obtain ⟨k, y, e3, e4⟩ := hacc.2 j v (by rw [← Array.getElem?_toList]; exact e1)
    have e5 : (vs.map (·.1))[j]? = some k := by rw [List.getElem?_map, e3]; rfl
    rw [hks, List.getElem?_map, e2] at e5
    cases e5
    exact Value.isStrOf_shape e4
  refine wpAny_bind (wpAny_newList ?_ (by rw [hal]; omega))
  have hoL : (h'.push (seqObj "list" acc.toList.toArray 0)).get? h'.objs.size = some (seqObj "list" acc.toList.toArray 0) := Heap.get?_push_size _ rfl
  show wpAny _ _ _ _ _ { s with heap := h'.push (seqObj "list" acc.toList.toArray 0), toks := tk }
  refine wpAny_bind (wpAny_holding (wpAny_call_entry slot_list_sort ⟨_, hoL, rfl⟩ entry_list_sort (list_sort_treeK (s := { s with heap := h'.push (seqObj "list" acc.toList.toArray 0), toks := tk }) strKind_oneLt hoL hS.keysOf (fun v₁ v₂ rest e => keyKind_strs (by rw [← e]; exact hS)) (by omega) fun st' a1 a2 => ⟨_, rfl, ?_⟩) (args_list_sort _)))
  obtain ⟨zs, h1, h2, h3⟩ := sorted_out_str hS a1 a2
  refine wpAny_pure ⟨_, rfl, ?_⟩
  obtain ⟨e, he⟩ := sortedHeap_at (out := (arrOf st').map (·.2)) hoL
  refine ⟨.ref h'.objs.size, _, I.laid (t' := tk) (o := .lst (zs.map V.str)) (fun b u e => ?_) hsz ?_, rfl, q zs h2 h3 _ (I.hok.fresh hsz)⟩
  · have lt := Heap.lt_size (hk' b u e)
    dsimp only
    rw [sortedHeap_old (Nat.ne_of_lt lt) (by rw [size_push']; exact Nat.lt_succ_of_lt lt), Heap.get?_push_ne _ _ _ (Nat.ne_of_lt lt)]
    exact hk' b u e
  · have := h2.length_eq
    refine ⟨by rw [List.length_map]; exact Nat.le_trans (show zs.length ≤ 64 by omega) (by decide), ((arrOf st').map (·.2)).toList, e, vals_of_strs h1, he⟩
theorem kit_any {K : PySem.W.Frag} {t : Value} : ∀ {its : List Value}, (∀ c, c ∈ its → PySem.W.kitOne K t c = some false) → PySem.W.kitAny K t its = some false
  | [], _ => rfl
  | c :: r, h => by
    unfold PySem.W.kitAny
    rw [h c (.head _)]
    exact kit_any fun d hd => h d (.tail _ hd)
theorem refs_are : ∀ {cs : List Addr} {its : List Value}, Vals (cs.map V.ref) its → its = cs.map Value.ref
  | [], _, h => by cases h; rfl
  | c :: cs, _, .cons x y => by
    rw [List.map_cons, refs_are (cs := cs) y]
    exact congrArg (· :: _) x
theorem call_isiT {K : PySem.W.Frag} (hK : X.K = K) : CallR X (.builtin "isinstance") (fun xs H Q => ∃ (a b : Addr) (cs : List Addr) (C : Addr), xs = [.ref a, .ref b] ∧ H a = some (ExcO a C) ∧ Xc.ExcC K C ∧ H b = some (.tup (cs.map V.ref)) ∧ (∀ c, c ∈ cs → PySem.W.kitOne K (.ref C) (.ref c) = some false) ∧ Q (.bl false) H) := by
  subst hK
  intro pins s σ H xs us Q I r h
  obtain ⟨a, b, cs, C, rfl, ho, F, hb, hcs, q⟩ := h
  obtain ⟨u, w', rfl, rx, ry⟩ := vals2 r
  cases (show u = Value.ref a from rx)
  cases (show w' = Value.ref b from ry)
  obtain ⟨⟨ox, h1, h2⟩, _⟩ := (show ObjOk X.prog X.w H s.heap a (ExcO a C) from I.hok a _ ho)
  obtain ⟨_, its, rv, ⟨cl, dd, dt, sl⟩, h3, h4, n, h5⟩ := (show ObjOk X.prog X.w H s.heap b (.tup (cs.map V.ref)) from I.hok b _ hb)
  have h4 : cl = .type "tuple" := h4
  have h5 : dt = .seq its.toArray n := h5
  subst h4 h5
  have ei := refs_are rv
  subst ei
  refine PySem.W.kia_tup (Xc.kitx_exc F) I.kIn ⟨ox, h1, h2⟩ h3 (kit_any fun c hc => ?_) (fun z => nomatch z) fun tk => ⟨.bl false, H, I.tok tk, rfl, q⟩
  obtain ⟨d, hd, rfl⟩ := List.mem_map.mp hc
  exact hcs d hd
theorem op_mulS : OpR X (binaryOp .Mult) (fun x y H Q => ∃ (i : Str) (n : Int), x = .str i ∧ y = .int n ∧ MulOk i n ∧ Q (.str (Txt.mul i n)) H) := by
  intro pins s σ H x y v u Q I rx ry h
  obtain ⟨i, n, rfl, rfl, hm, q⟩ := h
  obtain ⟨t, rfl⟩ := rx
  obtain ⟨t', rfl⟩ := ry
  exact SB.mul hm fun t2 k => ⟨.str _, H, I.tok k, ⟨t2, rfl⟩, q⟩
theorem op_two {op : Value → Value → Sem Value} {r1 r2 : R2} (h1 : OpR X op r1) (h2 : OpR X op r2) : OpR X op (fun x y H Q => r1 x y H Q ∨ r2 x y H Q) := by
  intro pins s σ H x y v u Q I rx ry h
  rcases h with h | h
  · exact h1 pins s σ H x y v u Q I rx ry h
  · exact h2 pins s σ H x y v u Q I rx ry h
end
theorem lt_total : ∀ {a b : List Nat}, ¬ a < b → ¬ b < a → a = b := fun h1 h2 => List.le_antisymm (List.not_lt.mp h2) (List.not_lt.mp h1)
theorem rising_pw : ∀ {p : Str} {l : List Str}, risingS p l = true → (p :: l).Pairwise fun a b => ¬ b.cps.toList < a.cps.toList
  | p, [], _ => List.pairwise_singleton _ _
  | p, x :: r, h => by
    have h : (!ltCps x.cps.toList p.cps.toList && risingS x r) = true := h
    rw [Bool.and_eq_true] at h
    have ih := rising_pw h.2
    have h1 : ¬ x.cps.toList < p.cps.toList := by
      have := h.1
      rw [ltCps_eq] at this
      simpa using this
    refine List.pairwise_cons.mpr ⟨fun y hy => ?_, ih⟩
    rcases List.mem_cons.mp hy with rfl | hy
    · exact h1
    · have h2 := (List.pairwise_cons.mp ih).1 y hy
      intro h3
      rcases Decidable.em (p.cps.toList < x.cps.toList) with h4 | h4
      · exact h2 (List.lt_trans h3 h4)
      · rw [lt_total h4 h1] at h3
        exact h2 h3
theorem sortedS_pw {l : List Str} (h : sortedS l = true) : l.Pairwise fun a b => ¬ b.cps.toList < a.cps.toList := by
  cases l with
  | nil => exact .nil
  | cons x r => exact rising_pw h
theorem sortedS_one {l m ss : List Str} (h1 : l.Perm ss) (h2 : m.Perm ss) (g1 : sortedS l = true) (g2 : sortedS m = true) : l = m := by
  refine List.Perm.eq_of_pairwise (fun a b _ _ x y => ?_) (sortedS_pw g1) (sortedS_pw g2) (h1.trans h2.symm)
  have e : a.cps.toList = b.cps.toList := lt_total y x
  cases a
  cases b
  have e := Array.toList_inj.mp e
  exact congrArg Str.mk e
end L2
namespace K82
open PySem L2
set_option maxHeartbeats 1000000
section
def top (i : Nat) : Stmt := PySem.Challenge.pw_deeprests_k82_whole_polynomials_kept.main.body.getD i (.Pass ⟨0, 0, 0, 0⟩)
def inner (s : Stmt) (j : Nat) : Stmt := match s with | .ClassDef _ _ _ body _ _ _ _ _ _ _ => body.getD j (.Pass ⟨0, 0, 0, 0⟩) | _ => .Pass ⟨0, 0, 0, 0⟩
def l_WANTED : List (Str × Tok × Value) := [("poly", 803, .ref 420), ("times", 806, .ref 421), ("seen", 810, .ref 422), ("slope", 815, .ref 423), ("drop", 818, .ref 424), ("names", 820, .ref 425), ("show", 821, .ref 426), ("solve", 823, .ref 427), ("count", 826, .ref 428), ("single", 829, .ref 429), ("root", 832, .ref 430), ("roots", 836, .ref 431), ("border", 839, .ref 432), ("small", 841, .ref 433), ("parts", 845, .ref 434)]
theorem w_WANTED_poly : atK l_WANTED "poly" = some (.ref 420) := by decide +kernel
theorem w_WANTED_times : atK l_WANTED "times" = some (.ref 421) := by decide +kernel
theorem w_WANTED_seen : atK l_WANTED "seen" = some (.ref 422) := by decide +kernel
theorem w_WANTED_slope : atK l_WANTED "slope" = some (.ref 423) := by decide +kernel
theorem w_WANTED_drop : atK l_WANTED "drop" = some (.ref 424) := by decide +kernel
theorem w_WANTED_names : atK l_WANTED "names" = some (.ref 425) := by decide +kernel
theorem w_WANTED_show : atK l_WANTED "show" = some (.ref 426) := by decide +kernel
def l_MADE : List (Str × Tok × Value) := [("poly", 997, .ref 469), ("times", 998, .ref 476), ("seen", 999, .ref 483), ("slope", 1000, .ref 490)]
theorem w_MADE_poly : atK l_MADE "poly" = some (.ref 469) := by decide +kernel
theorem w_MADE_times : atK l_MADE "times" = some (.ref 476) := by decide +kernel
theorem w_MADE_seen : atK l_MADE "seen" = some (.ref 483) := by decide +kernel
theorem w_MADE_slope : atK l_MADE "slope" = some (.ref 490) := by decide +kernel
theorem w_MADE_drop : atK l_MADE "drop" = none := by decide +kernel
theorem w_MADE_names : atK l_MADE "names" = none := by decide +kernel
theorem w_MADE_show : atK l_MADE "show" = none := by decide +kernel
def l_TOLD : List (Str × Tok × Value) := [("show", 1006, .ref 497), ("solve", 1007, .ref 502), ("count", 1008, .ref 509), ("single", 1009, .ref 516), ("root", 1010, .ref 523), ("roots", 1011, .ref 528), ("border", 1012, .ref 533), ("small", 1013, .ref 540), ("parts", 1014, .ref 545)]
theorem w_TOLD_show : atK l_TOLD "show" = some (.ref 497) := by decide +kernel
theorem w_TOLD_drop : atK l_TOLD "drop" = none := by decide +kernel
theorem w_TOLD_names : atK l_TOLD "names" = none := by decide +kernel
abbrev s_is_prime : Stmt := top 14
theorem S_is_prime : FnScope ["thing", "divisor"] ["thing"] (defScope s_is_prime) := ⟨rfl, rfl, rfl, by decide +kernel, rfl, by decide +kernel, by decide +kernel⟩
abbrev s_power_of : Stmt := top 16
theorem S_power_of : FnScope ["p", "e", "power", "turn"] ["p", "e"] (defScope s_power_of) := ⟨rfl, rfl, rfl, by decide +kernel, rfl, by decide +kernel, by decide +kernel⟩
abbrev s_poly_product : Stmt := top 32
theorem S_poly_product : FnScope ["f", "g", "product", "place", "number", "other_place", "other_number"] ["f", "g"] (defScope s_poly_product) := ⟨rfl, rfl, rfl, by decide +kernel, rfl, by decide +kernel, by decide +kernel⟩
abbrev s_slope_of : Stmt := top 33
theorem S_slope_of : FnScope ["f"] ["f"] (defScope s_slope_of) := ⟨rfl, rfl, rfl, by decide +kernel, rfl, by decide +kernel, by decide +kernel⟩
abbrev s_seen_from : Stmt := top 34
theorem S_seen_from : FnScope ["p", "f", "a", "e", "place_seen", "seen", "number"] ["p", "f", "a", "e"] (defScope s_seen_from) := ⟨rfl, rfl, rfl, by decide +kernel, rfl, by decide +kernel, by decide +kernel⟩
abbrev s_is_made_of : Stmt := top 61
theorem S_is_made_of : FnScope ["text", "signs"] ["text", "signs"] (defScope s_is_made_of) := ⟨rfl, rfl, rfl, by decide +kernel, rfl, by decide +kernel, by decide +kernel⟩
abbrev s_is_written_number : Stmt := top 62
theorem S_is_written_number : FnScope ["text", "below", "figures"] ["text"] (defScope s_is_written_number) := ⟨rfl, rfl, rfl, by decide +kernel, rfl, by decide +kernel, by decide +kernel⟩
abbrev s_can_be_written : Stmt := top 63
theorem S_can_be_written : FnScope ["number"] ["number"] (defScope s_can_be_written) := ⟨rfl, rfl, rfl, by decide +kernel, rfl, by decide +kernel, by decide +kernel⟩
abbrev s_read_number : Stmt := top 64
theorem S_read_number : FnScope ["text"] ["text"] (defScope s_read_number) := ⟨rfl, rfl, rfl, by decide +kernel, rfl, by decide +kernel, by decide +kernel⟩
abbrev s_read_poly : Stmt := top 65
theorem S_read_poly : FnScope ["text", "words"] ["text"] (defScope s_read_poly) := ⟨rfl, rfl, rfl, by decide +kernel, rfl, by decide +kernel, by decide +kernel⟩
abbrev s_show_poly : Stmt := top 66
theorem S_show_poly : FnScope ["f"] ["f"] (defScope s_show_poly) := ⟨rfl, rfl, rfl, by decide +kernel, rfl, by decide +kernel, by decide +kernel⟩
abbrev s_words_of : Stmt := top 72
theorem S_words_of : FnScope ["row", "words"] ["row"] (defScope s_words_of) := ⟨rfl, rfl, rfl, by decide +kernel, rfl, by decide +kernel, by decide +kernel⟩
abbrev s_read_name : Stmt := top 73
theorem S_read_name : FnScope ["word"] ["word"] (defScope s_read_name) := ⟨rfl, rfl, rfl, by decide +kernel, rfl, by decide +kernel, by decide +kernel⟩
abbrev s_read_depth : Stmt := top 74
theorem S_read_depth : FnScope ["word", "depth"] ["word"] (defScope s_read_depth) := ⟨rfl, rfl, rfl, by decide +kernel, rfl, by decide +kernel, by decide +kernel⟩
abbrev s_listed : Stmt := top 75
theorem S_listed : FnScope ["texts", "without"] ["texts", "without"] (defScope s_listed) := ⟨rfl, rfl, rfl, by decide +kernel, rfl, by decide +kernel, by decide +kernel⟩
abbrev s_made_poly : Stmt := top 76
theorem S_made_poly : FnScope ["p", "things"] ["p", "things"] (defScope s_made_poly) := ⟨rfl, rfl, rfl, by decide +kernel, rfl, by decide +kernel, by decide +kernel⟩
abbrev s_made_times : Stmt := top 77
theorem S_made_times : FnScope ["p", "things"] ["p", "things"] (defScope s_made_times) := ⟨rfl, rfl, rfl, by decide +kernel, rfl, by decide +kernel, by decide +kernel⟩
abbrev s_made_seen : Stmt := top 78
theorem S_made_seen : FnScope ["p", "things"] ["p", "things"] (defScope s_made_seen) := ⟨rfl, rfl, rfl, by decide +kernel, rfl, by decide +kernel, by decide +kernel⟩
abbrev s_made_slope : Stmt := top 79
theorem S_made_slope : FnScope ["p", "things"] ["p", "things"] (defScope s_made_slope) := ⟨rfl, rfl, rfl, by decide +kernel, rfl, by decide +kernel, by decide +kernel⟩
abbrev s_told_show : Stmt := top 80
theorem S_told_show : FnScope ["p", "things"] ["p", "things"] (defScope s_told_show) := ⟨rfl, rfl, rfl, by decide +kernel, rfl, by decide +kernel, by decide +kernel⟩
abbrev s___init__ : Stmt := inner (top 91) 0
theorem S___init__ : FnScope ["self", "p"] ["self", "p"] (defScope s___init__) := ⟨rfl, rfl, rfl, by decide +kernel, rfl, by decide +kernel, by decide +kernel⟩
abbrev s_say : Stmt := inner (top 91) 1
theorem S_say : FnScope ["self", "row", "words", "deed", "things"] ["self", "row"] (defScope s_say) := ⟨rfl, rfl, rfl, by decide +kernel, rfl, by decide +kernel, by decide +kernel⟩
abbrev s_thing_of : Stmt := inner (top 91) 2
theorem S_thing_of : FnScope ["self", "wanted", "word"] ["self", "wanted", "word"] (defScope s_thing_of) := ⟨rfl, rfl, rfl, by decide +kernel, rfl, by decide +kernel, by decide +kernel⟩
abbrev s_standing : Stmt := inner (top 91) 3
theorem S_standing : FnScope ["self", "name"] ["self", "name"] (defScope s_standing) := ⟨rfl, rfl, rfl, by decide +kernel, rfl, by decide +kernel, by decide +kernel⟩
abbrev s_keep : Stmt := inner (top 91) 4
theorem S_keep : FnScope ["self", "name", "polynomial"] ["self", "name", "polynomial"] (defScope s_keep) := ⟨rfl, rfl, rfl, by decide +kernel, rfl, by decide +kernel, by decide +kernel⟩
abbrev s__law_cell : Stmt := top 93
theorem S__law_cell : FnScope ["script", "k"] ["script", "k"] (defScope s__law_cell) := ⟨rfl, rfl, rfl, by decide +kernel, rfl, by decide +kernel, by decide +kernel⟩
abbrev s__law_prime : Stmt := top 94
theorem S__law_prime : FnScope ["cell", "some"] ["cell"] (defScope s__law_prime) := ⟨rfl, rfl, rfl, by decide +kernel, rfl, by decide +kernel, by decide +kernel⟩
abbrev s__law_name : Stmt := top 96
theorem S__law_name : FnScope ["cell", "size", "place", "sign"] ["cell"] (defScope s__law_name) := ⟨rfl, rfl, rfl, by decide +kernel, rfl, by decide +kernel, by decide +kernel⟩
abbrev s__law_mixed : Stmt := top 97
theorem S__law_mixed : FnScope ["cell", "k", "number"] ["cell", "k"] (defScope s__law_mixed) := ⟨rfl, rfl, rfl, by decide +kernel, rfl, by decide +kernel, by decide +kernel⟩
abbrev s__law_numbers : Stmt := top 98
theorem S__law_numbers : FnScope ["number", "found", "k"] ["number"] (defScope s__law_numbers) := ⟨rfl, rfl, rfl, by decide +kernel, rfl, by decide +kernel, by decide +kernel⟩
abbrev s__law_shown : Stmt := top 99
theorem S__law_shown : FnScope ["f"] ["f"] (defScope s__law_shown) := ⟨rfl, rfl, rfl, by decide +kernel, rfl, by decide +kernel, by decide +kernel⟩
abbrev s__law_times : Stmt := top 100
theorem S__law_times : FnScope ["f", "g", "found", "i", "j"] ["f", "g"] (defScope s__law_times) := ⟨rfl, rfl, rfl, by decide +kernel, rfl, by decide +kernel, by decide +kernel⟩
abbrev s__law_power : Stmt := top 101
theorem S__law_power : FnScope ["p", "e", "found", "k"] ["p", "e"] (defScope s__law_power) := ⟨rfl, rfl, rfl, by decide +kernel, rfl, by decide +kernel, by decide +kernel⟩
abbrev s__law_seen : Stmt := top 102
theorem S__law_seen : FnScope ["p", "f", "a", "e", "found", "number", "k", "whole", "scale"] ["p", "f", "a", "e"] (defScope s__law_seen) := ⟨rfl, rfl, rfl, by decide +kernel, rfl, by decide +kernel, by decide +kernel⟩
abbrev s__law_made : Stmt := top 103
theorem S__law_made : FnScope ["p", "way", "number", "one", "other"] ["p", "way", "number", "one", "other"] (defScope s__law_made) := ⟨rfl, rfl, rfl, by decide +kernel, rfl, by decide +kernel, by decide +kernel⟩
abbrev s__law_deep : Stmt := top 104
theorem S__law_deep : FnScope ["number"] ["number"] (defScope s__law_deep) := ⟨rfl, rfl, rfl, by decide +kernel, rfl, by decide +kernel, by decide +kernel⟩
abbrev s__law_step : Stmt := top 105
theorem S__law_step : FnScope ["p", "number", "kept", "names", "way", "new", "one", "other", "text", "made"] ["p", "number", "kept", "names"] (defScope s__law_step) := ⟨rfl, rfl, rfl, by decide +kernel, rfl, by decide +kernel, by decide +kernel⟩
abbrev s__law_ask : Stmt := top 106
theorem S__law_ask : FnScope ["desk", "row", "found", "e"] ["desk", "row"] (defScope s__law_ask) := ⟨rfl, rfl, rfl, by decide +kernel, rfl, by decide +kernel, by decide +kernel⟩
abbrev s__law_told : Stmt := top 107
theorem S__law_told : FnScope ["due"] ["due"] (defScope s__law_told) := ⟨rfl, rfl, rfl, by decide +kernel, rfl, by decide +kernel, by decide +kernel⟩
abbrev s_law : Stmt := top 108
theorem S_law : FnScope ["script", "names", "primes", "desks", "kept", "k", "number", "which", "row", "due", "found", "name"] ["script"] (defScope s_law) := ⟨rfl, rfl, rfl, by decide +kernel, rfl, by decide +kernel, by decide +kernel⟩
structure Bi (mg : Str → Option Value) (K : PySem.W.Frag) (w : World) : Prop where
  kd_WANTED : KDict K w 419 l_WANTED
  gd_WANTED : mg "WANTED" = some (.ref 419)
  kd_MADE : KDict K w 546 l_MADE
  gd_MADE : mg "MADE" = some (.ref 546)
  kd_TOLD : KDict K w 547 l_TOLD
  gd_TOLD : mg "TOLD" = some (.ref 547)
  tu_420 : KTup K 420 [.str "new", .str "poly"]
  tu_421 : KTup K 421 [.str "new", .str "name", .str "name"]
  tu_422 : KTup K 422 [.str "new", .str "name", .str "number", .str "depth"]
  tu_423 : KTup K 423 [.str "new", .str "name"]
  tu_424 : KTup K 424 [.str "name"]
  tu_425 : KTup K 425 []
  tu_426 : KTup K 426 [.str "name"]
  fa_made_poly : mg "made_poly" = some (.ref 469)
  fa_made_times : mg "made_times" = some (.ref 476)
  fa_made_seen : mg "made_seen" = some (.ref 483)
  fa_made_slope : mg "made_slope" = some (.ref 490)
  fa_told_show : mg "told_show" = some (.ref 497)
  cl_Desk : Cls K (clK K "Desk")
  na_prime : NoAttr K (clK K "Desk") "prime"
  na_kept : NoAttr K (clK K "Desk") "kept"
  b_abs : mg "abs" = none
  b_all : mg "all" = none
  b_bool : mg "bool" = none
  b_enumerate : mg "enumerate" = none
  b_int : mg "int" = none
  b_isinstance : mg "isinstance" = none
  b_len : mg "len" = none
  b_list : mg "list" = none
  b_max : mg "max" = none
  b_min : mg "min" = none
  b_range : mg "range" = none
  b_reversed : mg "reversed" = none
  b_sorted : mg "sorted" = none
  b_str : mg "str" = none
  b_sum : mg "sum" = none
  b_zip : mg "zip" = none
  g_FIGURES : ∃ t, mg "FIGURES" = some (.str "0123456789" t)
  g_GREATEST_DEPTH : ∃ t, mg "GREATEST_DEPTH" = some (.int 60 t)
  g_GREATEST_PRIME : ∃ t, mg "GREATEST_PRIME" = some (.int 97 t)
  g_LETTERS : ∃ t, mg "LETTERS" = some (.str "abcdefghijklmnopqrstuvwxyz" t)
  g_MOST_FIGURES : ∃ t, mg "MOST_FIGURES" = some (.int 60 t)
  g_MOST_LETTERS : ∃ t, mg "MOST_LETTERS" = some (.int 8 t)
  g_MOST_NUMBERS : ∃ t, mg "MOST_NUMBERS" = some (.int 13 t)
  c_Desk : mg "Desk" = some (.ref (clK K "Desk"))
  c_NoDepth : mg "NoDepth" = some (.ref (clK K "NoDepth"))
  c_NoInverse : mg "NoInverse" = some (.ref (clK K "NoInverse"))
  c_NoName : mg "NoName" = some (.ref (clK K "NoName"))
  c_NoParts : mg "NoParts" = some (.ref (clK K "NoParts"))
  c_NoPrime : mg "NoPrime" = some (.ref (clK K "NoPrime"))
  c_NoRow : mg "NoRow" = some (.ref (clK K "NoRow"))
  c_NoSingle : mg "NoSingle" = some (.ref (clK K "NoSingle"))
  c_NoSmall : mg "NoSmall" = some (.ref (clK K "NoSmall"))
  c_NoText : mg "NoText" = some (.ref (clK K "NoText"))
  c_RestError : mg "RestError" = some (.ref (clK K "RestError"))
  c_TooDeep : mg "TooDeep" = some (.ref (clK K "TooDeep"))
  c_TooGreat : mg "TooGreat" = some (.ref (clK K "TooGreat"))
  x_NoName : ExcK K (clK K "NoName")
  x_TooGreat : ExcK K (clK K "TooGreat")
  m_NoName_RestError : PySem.W.exmOne K (.ref (clK K "NoName")) (.ref (clK K "RestError")) = some true
  m_TooGreat_RestError : PySem.W.exmOne K (.ref (clK K "TooGreat")) (.ref (clK K "RestError")) = some true
  f_NoName : Xc.ExcC K (clK K "NoName")
  f_TooGreat : Xc.ExcC K (clK K "TooGreat")
  i_NoName_Desk : PySem.W.kitOne K (.ref (clK K "NoName")) (.ref (clK K "Desk")) = some false
  i_NoName_NoDepth : PySem.W.kitOne K (.ref (clK K "NoName")) (.ref (clK K "NoDepth")) = some false
  i_NoName_NoInverse : PySem.W.kitOne K (.ref (clK K "NoName")) (.ref (clK K "NoInverse")) = some false
  i_NoName_NoName : PySem.W.kitOne K (.ref (clK K "NoName")) (.ref (clK K "NoName")) = some true
  i_NoName_NoParts : PySem.W.kitOne K (.ref (clK K "NoName")) (.ref (clK K "NoParts")) = some false
  i_NoName_NoPrime : PySem.W.kitOne K (.ref (clK K "NoName")) (.ref (clK K "NoPrime")) = some false
  i_NoName_NoRow : PySem.W.kitOne K (.ref (clK K "NoName")) (.ref (clK K "NoRow")) = some false
  i_NoName_NoSingle : PySem.W.kitOne K (.ref (clK K "NoName")) (.ref (clK K "NoSingle")) = some false
  i_NoName_NoSmall : PySem.W.kitOne K (.ref (clK K "NoName")) (.ref (clK K "NoSmall")) = some false
  i_NoName_NoText : PySem.W.kitOne K (.ref (clK K "NoName")) (.ref (clK K "NoText")) = some false
  i_NoName_RestError : PySem.W.kitOne K (.ref (clK K "NoName")) (.ref (clK K "RestError")) = some true
  i_NoName_TooDeep : PySem.W.kitOne K (.ref (clK K "NoName")) (.ref (clK K "TooDeep")) = some false
  i_NoName_TooGreat : PySem.W.kitOne K (.ref (clK K "NoName")) (.ref (clK K "TooGreat")) = some false
  i_TooGreat_Desk : PySem.W.kitOne K (.ref (clK K "TooGreat")) (.ref (clK K "Desk")) = some false
  i_TooGreat_NoDepth : PySem.W.kitOne K (.ref (clK K "TooGreat")) (.ref (clK K "NoDepth")) = some false
  i_TooGreat_NoInverse : PySem.W.kitOne K (.ref (clK K "TooGreat")) (.ref (clK K "NoInverse")) = some false
  i_TooGreat_NoName : PySem.W.kitOne K (.ref (clK K "TooGreat")) (.ref (clK K "NoName")) = some false
  i_TooGreat_NoParts : PySem.W.kitOne K (.ref (clK K "TooGreat")) (.ref (clK K "NoParts")) = some false
  i_TooGreat_NoPrime : PySem.W.kitOne K (.ref (clK K "TooGreat")) (.ref (clK K "NoPrime")) = some false
  i_TooGreat_NoRow : PySem.W.kitOne K (.ref (clK K "TooGreat")) (.ref (clK K "NoRow")) = some false
  i_TooGreat_NoSingle : PySem.W.kitOne K (.ref (clK K "TooGreat")) (.ref (clK K "NoSingle")) = some false
  i_TooGreat_NoSmall : PySem.W.kitOne K (.ref (clK K "TooGreat")) (.ref (clK K "NoSmall")) = some false
  i_TooGreat_NoText : PySem.W.kitOne K (.ref (clK K "TooGreat")) (.ref (clK K "NoText")) = some false
  i_TooGreat_RestError : PySem.W.kitOne K (.ref (clK K "TooGreat")) (.ref (clK K "RestError")) = some true
  i_TooGreat_TooDeep : PySem.W.kitOne K (.ref (clK K "TooGreat")) (.ref (clK K "TooDeep")) = some false
  i_TooGreat_TooGreat : PySem.W.kitOne K (.ref (clK K "TooGreat")) (.ref (clK K "TooGreat")) = some true
variable {P : Program} {w : World} {K : PySem.W.Frag} {mg : Str → Option Value} {base : Heap} {f : Addr} {fd : FuncData}
theorem atI_ints {ns : List Int} {i : Int} (h0 : 0 ≤ i) (h1 : i < (ns.length : Int)) : atI (ns.map V.int) i = some (.int (ns.getD i.toNat 0)) := by
  have hk : i.toNat < ns.length := by omega
  have ek : i = ((i.toNat : Nat) : Int) := by omega
  have g : atI (ns.map V.int) ((i.toNat : Nat) : Int) = some (.int (ns.getD i.toNat 0)) := atI_nat (by rw [List.getElem?_map, List.getElem?_eq_getElem hk, List.getD_eq_getElem?_getD, List.getElem?_eq_getElem hk]; rfl)
  rw [← ek] at g
  exact g
theorem getD_in {ns : List Int} {i : Int} (h0 : 0 ≤ i) (h1 : i < (ns.length : Int)) : ns.getD i.toNat 0 ∈ ns := by
  rw [List.getD_eq_getElem?_getD, List.getElem?_eq_getElem (by omega)]
  exact List.getElem_mem _
theorem mod_in (x : Int) {m : Int} (h : 0 < m) : 0 ≤ x % m ∧ x % m < m := ⟨Int.emod_nonneg x (by omega), Int.emod_lt_of_pos x h⟩
theorem pow_bits {p : Int} (hp : 2 ≤ p ∧ p < 1000) (n : Nat) : (p ^ n).natAbs < 2 ^ (10 * n + 1) := by
  have h1 : p ^ n ≤ 1024 ^ n := int_pow_le (by omega) (by omega) _
  have h2 : (1024 : Int) ^ n = ((2 ^ (10 * n) : Nat) : Int) := by
    rw [Nat.pow_mul]
    simp
  have h3 := Dr.pow_pos hp.1 n
  rw [Nat.pow_succ]
  omega
theorem us1 {us : List Value} (h : us.length = 1) : ∃ a0, us = [a0] := List.length_eq_one_iff.mp h
theorem us2 : ∀ {us : List Value}, us.length = 2 → ∃ a0 a1, us = [a0, a1]
  | [], h => (by cases h)
  | a0 :: r, h => by
    obtain ⟨a1, rfl⟩ := us1 (us := r) (by simpa using h)
    exact ⟨a0, a1, rfl⟩
theorem us3 : ∀ {us : List Value}, us.length = 3 → ∃ a0 a1 a2, us = [a0, a1, a2]
  | [], h => (by cases h)
  | a0 :: r, h => by
    obtain ⟨a1, a2, rfl⟩ := us2 (us := r) (by simpa using h)
    exact ⟨a0, a1, a2, rfl⟩
theorem us4 : ∀ {us : List Value}, us.length = 4 → ∃ a0 a1 a2 a3, us = [a0, a1, a2, a3]
  | [], h => (by cases h)
  | a0 :: r, h => by
    obtain ⟨a1, a2, a3, rfl⟩ := us3 (us := r) (by simpa using h)
    exact ⟨a0, a1, a2, a3, rfl⟩
theorem us5 : ∀ {us : List Value}, us.length = 5 → ∃ a0 a1 a2 a3 a4, us = [a0, a1, a2, a3, a4]
  | [], h => (by cases h)
  | a0 :: r, h => by
    obtain ⟨a1, a2, a3, a4, rfl⟩ := us4 (us := r) (by simpa using h)
    exact ⟨a0, a1, a2, a3, a4, rfl⟩
def sp_is_made_of (_ : PySem.W.Frag) : Sp := fun vs H Q _ => ∃ z y : Str, vs = [.str z, .str y] ∧ z.length ≤ 2000 ∧ ∀ (b : Bool) (H' : Hp), Same H H' → (b = true ↔ ∀ c, c ∈ z.cps.toList → c ∈ y.cps.toList) → Q (.bl b) H'
theorem take_next {α : Type} {l : List α} {i : Nat} {c : α} (h : l[i]? = some c) : l.take (i + 1) = l.take i ++ [c] := by
  rw [List.take_add_one, h]
  rfl
theorem strs_at {l : List Str} {i : Nat} {x : V} (h : (l.map V.str)[i]? = some x) : ∃ w, l[i]? = some w ∧ x = .str w := by
  rw [List.getElem?_map] at h
  cases e : l[i]? with
  | none => rw [e] at h; cases h
  | some w =>
    rw [e] at h
    exact ⟨w, rfl, (Option.some.inj h).symm⟩
theorem none_of {H H' : Hp} {l : Addr} (g : Same H H') (n : H' l = none) : H l = none := by
  cases e : H l with
  | none => rfl
  | some o =>
    have := g _ _ e
    rw [n] at this
    cases this
theorem newS {H : Hp} {l : Addr} {o : _} (n : H l = none) : Same H (upd H l o) := (newH rfl n).1
theorem figure_in {c : Nat} : decide (c ∈ (Str.ofString "0123456789").cps.toList) = decide (48 ≤ c ∧ c ≤ 57) := by
  rw [show (Str.ofString "0123456789").cps.toList = [48, 49, 50, 51, 52, 53, 54, 55, 56, 57] by decide +kernel]
  rw [decide_eq_decide]
  simp only [List.mem_cons, List.not_mem_nil, or_false]
  omega
local macro_rules | `(tactic| walk_at "dr1") => `(tactic| simp only [tSeq, tNext, tRet, tRetN, tDrop, tIfS, tIf, tTest, tB, tAnd, tOr, tNot, tAndV, tOrV, tNotV, tAsg, gName, gTup, gLst, gCons, gNil, tPar, tAug, tVar, tC, tOp, tUn, rI, rI0, rU, rEq, rNe, rAdd, rSub, ipI, tCons, tNil, tTup, tLst, tCall, tCB, tSl, tNoPart, tPart, gSub, tAugS, rGetL, iEnum, tSlK, tListRng, rExtend, rClear, iZip, tDNewT, tDGet, tDGet2, sDPut, iDict, rSlL, rSlT, rIxL, rIxT, rSetL, rIn, tBM, tBM0, rAppend, rCat, rRep, tNever, tRaise, tTry, tTryAs, Ends.gone, tCallX, cx_K, cc_K, w_tyl, Int.reduceLT, Int.reduceLE, Nat.reduceLT, Nat.reduceLeDiff, tChain, w_for, w_comp, w_comp2, capV, Option.getD_some, iRng1, iRng2, iRng3, iList, iTup, iRev, tListRev, L2.start, sc_ii, sc_bb, sc_in, sc_ni, sc_ss, sc_nn, sc_bn, sc_is, isv_int_int, isv_int_bool, isv_int_str, isv_int_list, isv_int_tuple, isv_int_dict, isv_bool_int, isv_bool_bool, isv_bool_str, isv_bool_list, isv_bool_tuple, isv_bool_dict, isv_NoneType_int, isv_NoneType_bool, isv_NoneType_str, isv_NoneType_list, isv_NoneType_tuple, isv_NoneType_dict, isv_str_int, isv_str_bool, isv_str_str, isv_str_list, isv_str_tuple, isv_str_dict, iso_list_int, iso_list_bool, iso_list_str, iso_list_list, iso_list_tuple, iso_list_dict, iso_tuple_int, iso_tuple_bool, iso_tuple_str, iso_tuple_list, iso_tuple_tuple, iso_tuple_dict, iso_dict_int, iso_dict_bool, iso_dict_str, iso_dict_list, iso_dict_tuple, iso_dict_dict, isCls, clsV, List.getElem?_cons_zero, List.getElem?_cons_succ, List.set_cons_zero, List.set_cons_succ, List.map_cons, List.map_nil, List.cons_append, List.nil_append, List.append_nil, List.replicate_succ, List.replicate_zero, List.length_cons, List.length_nil, Option.some.injEq, exists_eq, exists_eq', exists_eq_left, exists_eq_left', exists_and_left, exists_and_right, List.cons.injEq, V.int.injEq, V.bl.injEq, V.ref.injEq, V.str.injEq, V.ty.injEq, reduceCtorEq, and_true, true_and, and_assoc, false_and, and_false, or_false, false_or, exists_false, decide_eq_true_eq, Bool.not_eq_true', decide_eq_false_iff_not, Bool.not_eq_false', Bool.not_eq_true, Bool.false_eq_true, Bool.true_eq_false, ite_true, ite_false, if_true, if_false, Bool.not_true, Bool.not_false, Bool.true_eq, Bool.or_true, Bool.or_false, Bool.true_or, Bool.false_or, Bool.and_true, Bool.and_false, beq_self_eq_true, decide_true, decide_false, eq_self_iff_true, not_true_eq_false, not_false_eq_true, tKGet, tKIn, tKNot, tCallV, tMeth, tMethX, tMake, tFld, sFld, tDIn, tDNotIn, tDNewK, iZipT, iRngD, tFmt, tDPop1])
theorem ok_is_made_of (B : Bi mg K w) (F : Fun K "is_made_of" "is_made_of" s_is_made_of f fd) : FnOk P w K mg base CX0 1 f fd ["text", "signs"] (sp_is_made_of K) := by
  refine F.ok S_is_made_of (fun vs H Q E h => ?_) (fun cdv A outer s H vs Q E hr h => ?_)
  · obtain ⟨z, y, rfl, _⟩ := h
    rfl
  obtain ⟨z, y, rfl, hz, q⟩ := h
  have S := S_is_made_of
  refine ⟨_, ((pss_one (ps_ret (pe_callB (call_allB rfl) rfl B.b_all bt_all (pa_cons (pe_comp [1] ["signs"] rfl rfl ⟨rfl, trivial⟩ ⟨rfl, rfl, rfl, rfl, trivial⟩ rfl rfl (by decide) (by decide) rfl rfl (by decide) (pi_str (pv 0)) (fun _ _ _ _ => pts_nil) (fun _ _ _ _ => (pe_cmpR op_in_str (pv 0) (pv 1) rfl))) pa_nil))))), ?_⟩
  (first | refine hX _ _ ?_ | skip); (try dsimp only); try walk_at "dr1"; (try simp only [iStr]); try walk_at "dr1"
  obtain ⟨Pv, hPv⟩ : ∃ Pv : Nat → List V → Hp → Prop, ∀ i ys H', Pv i ys H' ↔ (H' = H ∧ ys = (((z.cps.toList.take i).map fun c => decide (c ∈ y.cps.toList)).map V.bl)) := ⟨_, fun _ _ _ => Iff.rfl⟩
  have hz' : z.cps.toList.length ≤ 2000 := by simpa [Str.length] using hz
  refine compS z Pv (Nat.le_trans hz' (by decide)) ((hPv _ _ _).mpr ⟨rfl, by simp⟩) (fun i c ys H2 hc p => ?_) (fun ys H2 p l n_l => ?_)
  · obtain ⟨rfl, rfl⟩ := (hPv _ _ _).mp p
    (first | refine hX _ _ ?_ | skip); (try dsimp only); try walk_at "dr1"
    refine (hPv _ _ _).mpr ⟨rfl, ?_⟩
    rw [StrLaws.found_one, take_next hc, List.map_append, List.map_append]
    rfl
  · obtain ⟨rfl, rfl⟩ := (hPv _ _ _).mp p
    refine ⟨l, rfl, _, SqL.of upd_same, ?_⟩
    refine q _ _ (newS n_l) ?_
    rw [List.take_length, List.all_map, List.all_eq_true]
    simp
def sp_is_written_number (_ : PySem.W.Frag) : Sp := fun vs H Q _ => ∃ z : Str, vs = [.str z] ∧ z.length ≤ 2000 ∧ ∀ (b : Bool) (H' : Hp), Same H H' → (b = true ↔ Tx.Wr z.cps.toList) → Q (.bl b) H'
local macro_rules | `(tactic| walk_at "dr2") => `(tactic| simp only [tNext, tRet, tRetN, tDrop, tIfS, tIf, tTest, tB, tAnd, tOr, tNot, tAndV, tOrV, tNotV, tAsg, gName, gTup, gLst, gCons, gNil, tPar, tAug, tVar, tC, tOp, tUn, rI, rI0, rU, rEq, rNe, rAdd, rSub, ipI, tCons, tNil, tTup, tLst, tCall, tCB, tSl, tNoPart, tPart, gSub, tAugS, rGetL, iEnum, tSlK, tListRng, rExtend, rClear, iZip, tDNewT, tDGet, tDGet2, sDPut, iDict, rSlL, rSlT, rIxL, rIxT, rSetL, rIn, tBM, tBM0, rAppend, rCat, rRep, tNever, tRaise, tTry, tTryAs, Ends.gone, tCallX, cx_K, cc_K, w_tyl, Int.reduceLT, Int.reduceLE, Nat.reduceLT, Nat.reduceLeDiff, tChain, w_for, w_comp, w_comp2, capV, Option.getD_some, iRng1, iRng2, iRng3, iList, iTup, iRev, tListRev, L2.start, sc_ii, sc_bb, sc_in, sc_ni, sc_ss, sc_nn, sc_bn, sc_is, isv_int_int, isv_int_bool, isv_int_str, isv_int_list, isv_int_tuple, isv_int_dict, isv_bool_int, isv_bool_bool, isv_bool_str, isv_bool_list, isv_bool_tuple, isv_bool_dict, isv_NoneType_int, isv_NoneType_bool, isv_NoneType_str, isv_NoneType_list, isv_NoneType_tuple, isv_NoneType_dict, isv_str_int, isv_str_bool, isv_str_str, isv_str_list, isv_str_tuple, isv_str_dict, iso_list_int, iso_list_bool, iso_list_str, iso_list_list, iso_list_tuple, iso_list_dict, iso_tuple_int, iso_tuple_bool, iso_tuple_str, iso_tuple_list, iso_tuple_tuple, iso_tuple_dict, iso_dict_int, iso_dict_bool, iso_dict_str, iso_dict_list, iso_dict_tuple, iso_dict_dict, isCls, clsV, List.getElem?_cons_zero, List.getElem?_cons_succ, List.set_cons_zero, List.set_cons_succ, List.map_cons, List.map_nil, List.cons_append, List.nil_append, List.append_nil, List.replicate_succ, List.replicate_zero, List.length_cons, List.length_nil, Option.some.injEq, exists_eq, exists_eq', exists_eq_left, exists_eq_left', exists_and_left, exists_and_right, List.cons.injEq, V.int.injEq, V.bl.injEq, V.ref.injEq, V.str.injEq, V.ty.injEq, reduceCtorEq, and_true, true_and, and_assoc, false_and, and_false, or_false, false_or, exists_false, decide_eq_true_eq, Bool.not_eq_true', decide_eq_false_iff_not, Bool.not_eq_false', Bool.not_eq_true, Bool.false_eq_true, Bool.true_eq_false, ite_true, ite_false, if_true, if_false, Bool.not_true, Bool.not_false, Bool.true_eq, Bool.or_true, Bool.or_false, Bool.true_or, Bool.false_or, Bool.and_true, Bool.and_false, beq_self_eq_true, decide_true, decide_false, eq_self_iff_true, not_true_eq_false, not_false_eq_true, tKGet, tKIn, tKNot, tCallV, tMeth, tMethX, tMake, tFld, sFld, tDIn, tDNotIn, tDNewK, iZipT, iRngD, tFmt, tDPop1])
theorem ok_is_written_number (B : Bi mg K w) (d_is_made_of : Def P w K mg base "is_made_of" 1 ["text", "signs"] (sp_is_made_of K)) (F : Fun K "is_written_number" "is_written_number" s_is_written_number f fd) : FnOk P w K mg base CX0 2 f fd ["text"] (sp_is_written_number K) := by
  refine F.ok S_is_written_number (fun vs H Q E h => ?_) (fun cdv A outer s H vs Q E hr h => ?_)
  · obtain ⟨z, rfl, _⟩ := h
    rfl
  obtain ⟨z, rfl, hz, q⟩ := h
  have S := S_is_written_number
  obtain ⟨t1, g_FIGURES⟩ := B.g_FIGURES
  obtain ⟨t2, g_MOST_FIGURES⟩ := B.g_MOST_FIGURES
  refine ⟨_, ((pss_cons (ps_set (i := 1) S.nd rfl (Or.inl rfl) (pe_bm PySem.F.plainAttrs_str PySem.F.slot_str_startswith PySem.F.type_str_startswith mt_starts (pv 0) (pa_cons pe_str pa_nil)))
    (pss_cons (ps_join (ps_set (i := 2) S.nd rfl (Or.inl rfl) (pe_ifExp (pt_val (pv 1)) (pe_slice sl_str (pv 0) (po_some pe_int) po_none) (pv 0))))
    (pss_cons (ps_if (PW.pt (pw_or (pt_cmpR op_lt (pe_callB call_len_str rfl B.b_len PySem.boot_len (pa_cons (pv 2) pa_nil)) pe_int (nomark _)) (pw_or (pt_cmpR op_gt (pe_callB call_len_str rfl B.b_len PySem.boot_len (pa_cons (pv 2) pa_nil)) (pe_glob (v := .int 60) rfl g_MOST_FIGURES ⟨_, rfl⟩) (nomark _)) (pw_or1 (pt_not (pt_val (pe_def d_is_made_of hr rfl (pa_cons (pv 2) (pa_cons (pe_glob (v := .str "0123456789") rfl g_FIGURES ⟨_, rfl⟩) pa_nil))))))))) (pss_one (ps_ret pe_bl)) pss_nil)
    (pss_cons (ps_if (pt_cmpR op_eq (pv 2) pe_str (nomark _)) (pss_one (ps_ret (pe_not (pv 1)))) pss_nil)
    (pss_one (ps_ret (pe_not (pe_bm PySem.F.plainAttrs_str PySem.F.slot_str_startswith PySem.F.type_str_startswith mt_starts (pv 2) (pa_cons pe_str pa_nil)))))))))), ?_⟩
  (try dsimp only); (first | refine hX _ _ ?_ | skip); (try dsimp only); (first | refine seqX (fun X hX => ?_) | skip); try walk_at "dr2"; (try simp only [sp_is_made_of]); try walk_at "dr2"
  refine ⟨rfl, z, _, rfl, rfl, ?_⟩
  rw [Tx.starts_minus]
  have hz' := Tx.len_list z
  obtain ⟨R, hR⟩ : ∃ R : St → Hp → Prop, ∀ σ' H2, R σ' H2 ↔ (∃ y : Str, y.cps.toList = Tx.figs z.cps.toList ∧ H2 = H ∧ σ' = [some (.str z), some (.bl (Tx.neg z.cps.toList)), some (.str y)]) := ⟨_, fun _ _ => Iff.rfl⟩
  dsimp only
  (first | refine hX _ _ ?_ | skip); refine seqI ?_
  (first | refine hX _ _ ?_ | skip); refine joinB R ?_ ?_
  · (first | refine hX _ _ ?_ | skip); (try dsimp only); try walk_at "dr1"; (try simp only [sp_is_made_of]); try walk_at "dr1"
    cases hn : Tx.neg z.cps.toList with
    | true =>
      rw [if_pos rfl]
      have e := Tx.figs_of_neg hn
      have l1 : 1 ≤ z.length := by rw [hz', e]; simp
      refine ⟨z, rfl, Nat.le_trans hz (by decide), (hR _ _).mpr ⟨_, ?_, rfl, by rw [hn]⟩⟩
      rw [Tx.sl_from (by decide) (by omega), e]
      rfl
    | false =>
      rw [if_neg (by decide)]
      exact (hR _ _).mpr ⟨z, (Tx.figs_of_not hn).symm, rfl, by rw [hn]⟩
  intro σ' H2 w0
  obtain ⟨y, hy, rfl, rfl⟩ := (hR _ _).mp w0
  clear hR w0
  have hyl : y.length ≤ 2000 := by
    rw [Tx.len_list, hy]
    rw [hz'] at hz
    cases hn : Tx.neg z.cps.toList with
    | true =>
      rw [Tx.figs_of_neg hn] at hz
      simp only [List.length_cons] at hz
      omega
    | false => rw [Tx.figs_of_not hn]; exact hz
  have hyn := Tx.len_list y
  rw [hy] at hyn
  (try dsimp only); (first | refine hX _ _ ?_ | skip); (try dsimp only); (first | refine seqX (fun X hX => ?_) | skip); try walk_at "dr2"; (try simp only [sp_is_made_of]); try walk_at "dr2"
  refine ⟨Nat.le_trans hyl (by decide), ite2 (fun c1 => q false _ (Same.refl _) ⟨nofun, fun w => absurd w.one (by omega)⟩) (fun c1 => ⟨Nat.le_trans hyl (by decide), ite2 (fun c2 => q false _ (Same.refl _) ⟨nofun, fun w => absurd w.most (by omega)⟩) (fun c2 => ⟨hyl, fun b H' g hb0 => ?_⟩)⟩)⟩
  rw [hy] at hb0
  have hb : b = true ↔ ∀ c, c ∈ Tx.figs z.cps.toList → 48 ≤ c ∧ c ≤ 57 := hb0.trans (forall_congr' fun c => imp_congr_right fun _ => by have := figure_in (c := c); rwa [decide_eq_decide] at this)
  cases b with
  | false => exact q false _ g ⟨nofun, fun w => absurd (hb.mpr w.all) (by decide)⟩
  | true =>
    rw [if_neg (by decide)]
    have hall := hb.mp rfl
    (first | refine hX _ _ ?_ | skip); (try dsimp only); try walk_at "dr1"; (try simp only [sp_is_made_of, rStarts, w_tys]); try walk_at "dr1"
    refine ite2 (fun c3 => q _ _ g ?_) (fun c3 => q _ _ g ?_)
    · have e : Tx.figs z.cps.toList = [48] := by rw [← hy, c3, Tx.nought]
      constructor
      · intro hn
        refine ⟨by omega, by omega, hall, fun r hr => ?_⟩
        rw [e] at hr
        cases hr
        exact ⟨rfl, by simpa using hn⟩
      · intro w
        rw [(w.head [] e).2]
        rfl
    · rw [Tx.nought, Tx.starts_one, hy]
      constructor
      · intro hn
        refine ⟨by omega, by omega, hall, fun r hr => ?_⟩
        rw [hr] at hn
        simp at hn
      · intro w
        have : (Tx.figs z.cps.toList).head? ≠ some 48 := fun hh => by
          cases hf : Tx.figs z.cps.toList with
          | nil => rw [hf] at hh; cases hh
          | cons a r =>
            rw [hf] at hh
            cases hh
            have := (w.head r hf).1
            subst this
            exact c3 (Tx.ext (by rw [hy, hf, Tx.nought]))
        simpa using this
def sp_read_number (_ : PySem.W.Frag) : Sp := fun vs H Q _ => ∃ z : Str, vs = [.str z] ∧ Tx.Wr z.cps.toList ∧ ∀ H', Same H H' → Q (.int (Tx.valOf z.cps.toList)) H'
theorem ok_read_number (B : Bi mg K w) (d_is_written_number : Def P w K mg base "is_written_number" 2 ["text"] (sp_is_written_number K)) (F : Fun K "read_number" "read_number" s_read_number f fd) : FnOk P w K mg base CX0 3 f fd ["text"] (sp_read_number K) := by
  refine F.ok S_read_number (fun vs H Q E h => ?_) (fun cdv A outer s H vs Q E hr h => ?_)
  · obtain ⟨z, rfl, _⟩ := h
    rfl
  obtain ⟨z, rfl, hw, q⟩ := h
  have S := S_read_number
  have wl := hw.len
  refine ⟨_, ((pss_cons (ps_if (PW.pt (pw_or (pt_not (pt_val (pe_callB call_isiS rfl B.b_isinstance L2.bt_isinstance (pa_cons (pv 0) (pa_cons (pe_bltn (v := .ty "str") rfl B.b_str L2.bt_str rfl) pa_nil))))) (pw_or1 (pt_not (pt_val (pe_def d_is_written_number hr rfl (pa_cons (pv 0) pa_nil))))))) (pss_one ps_never) pss_nil)
    (pss_one (ps_ret (pe_callTy call_intS rfl B.b_int L2.bt_int (pa_cons (pv 0) pa_nil)))))), ?_⟩
  (first | refine hX _ _ ?_ | skip); (try dsimp only); try walk_at "dr1"; (try simp only [sp_is_written_number, rIntS]); try walk_at "dr1"
  refine ⟨by omega, fun b H' g hb => ?_⟩
  cases b with
  | false => exact absurd (hb.mpr hw) (by decide)
  | true =>
    rw [if_neg (by decide)]
    exact ⟨_, hw.reads, by omega, q H' g⟩
def sp_read_poly (_ : PySem.W.Frag) : Sp := fun vs H Q _ => ∃ (z : Str) (ms : List Int), vs = [.str z] ∧ z.length ≤ 2000 ∧ Tx.poly z = some ms ∧ ∀ c H', Same H H' → H c = none → H' c = some (.lst (ms.map V.int)) → Q (.ref c) H'
theorem ok_read_poly (B : Bi mg K w) (d_read_number : Def P w K mg base "read_number" 3 ["text"] (sp_read_number K)) (F : Fun K "read_poly" "read_poly" s_read_poly f fd) : FnOk P w K mg base CX0 4 f fd ["text"] (sp_read_poly K) := by
  refine F.ok S_read_poly (fun vs H Q E h => ?_) (fun cdv A outer s H vs Q E hr h => ?_)
  · obtain ⟨z, ms, rfl, _⟩ := h
    rfl
  obtain ⟨z, ms, rfl, hz, hp, q⟩ := h
  have S := S_read_poly
  obtain ⟨t1, g_MOST_NUMBERS⟩ := B.g_MOST_NUMBERS
  obtain ⟨w13, wall, wms⟩ := Tx.poly_some hp
  refine ⟨_, ((pss_cons (ps_if (pt_not (pt_val (pe_callB call_isiS rfl B.b_isinstance L2.bt_isinstance (pa_cons (pv 0) (pa_cons (pe_bltn (v := .ty "str") rfl B.b_str L2.bt_str rfl) pa_nil))))) (pss_one ps_never) pss_nil)
    (pss_cons (ps_set (i := 1) S.nd rfl (Or.inl rfl) (pe_bm PySem.F.plainAttrs_str PySem.F.slot_str_split PySem.F.type_str_split mt_split (pv 0) (pa_cons pe_str pa_nil)))
    (pss_cons (ps_if (pt_cmpR op_gt (pe_callB call_len_seq rfl B.b_len PySem.boot_len (pa_cons (pv 1) pa_nil)) (pe_glob (v := .int 13) rfl g_MOST_NUMBERS ⟨_, rfl⟩) (nomark _)) (pss_one ps_never) pss_nil)
    (pss_one (ps_ret (pe_comp [] [] rfl rfl trivial trivial rfl rfl (by decide) (by decide) rfl rfl (by decide) (pi_list (pv 1)) (fun _ _ _ _ => pts_nil) (fun _ _ _ _ => (pe_def d_read_number hr rfl (pa_cons (pv 0) pa_nil)))))))))), ?_⟩
  (try dsimp only); (first | refine hX _ _ ?_ | skip); (try dsimp only); (first | refine seqX (fun X hX => ?_) | skip); try walk_at "dr2"; (try simp only [sp_read_number]); try walk_at "dr2"
  (try dsimp only); (first | refine hX _ _ ?_ | skip); (try dsimp only); (first | refine seqX (fun X hX => ?_) | skip); try walk_at "dr2"; (try simp only [sp_read_number]); try walk_at "dr2"
  refine ⟨rfl, z, _, rfl, rfl, by decide +kernel, Nat.le_trans (Nat.add_le_add_right hz 2) (by decide), ?_⟩
  intro l1 n_l1; generalize e_l1 : upd _ l1 _ = H1; obtain ⟨g1, k1⟩ := newH e_l1 n_l1; clear e_l1
  have k1 : H1 l1 = some (.lst ((Tx.words z).map V.str)) := k1
  (try dsimp only); (first | refine hX _ _ ?_ | skip); (try dsimp only); (first | refine seqX (fun X hX => ?_) | skip); try walk_at "dr2"; (try simp only [sp_read_number]); try walk_at "dr2"
  refine ⟨_, .inl (SqL.of k1), ite2 (fun c => ?_) (fun c => ?_)⟩
  · rw [List.length_map] at c
    omega
  (first | refine hX _ _ ?_ | skip); (try dsimp only); try walk_at "dr1"; (try simp only [sp_read_number]); try walk_at "dr1"
  obtain ⟨Pv, hPv⟩ : ∃ Pv : Nat → List V → Hp → Prop, ∀ i ys H', Pv i ys H' ↔ (Same H1 H' ∧ ys = ((((Tx.words z).take i).map fun w => Tx.valOf w.cps.toList).map V.int)) := ⟨_, fun _ _ _ => Iff.rfl⟩
  refine ⟨⟨_, SqL.of k1⟩, ?_⟩
  (first | refine hX _ _ ?_ | skip); refine compL ((Tx.words z).map V.str) Pv (by rw [List.length_map]; exact Nat.le_trans w13 (by decide)) ((hPv _ _ _).mpr ⟨Same.refl _, rfl⟩) (fun i ys H2 p => ?_) (fun i x ys H2 hx p => ?_) (fun ys H2 p l n_l => ?_)
  · exact SqL.of (((hPv _ _ _).mp p).1 _ _ k1)
  · obtain ⟨g2, rfl⟩ := (hPv _ _ _).mp p
    obtain ⟨w, hw', rfl⟩ := strs_at hx
    (first | refine hX _ _ ?_ | skip); (try dsimp only); try walk_at "dr1"; (try simp only [sp_read_number]); try walk_at "dr1"
    refine ⟨wall w (List.mem_of_getElem? hw'), fun H3 g3 => (hPv _ _ _).mpr ⟨g2.trans g3, ?_⟩⟩
    rw [take_next hw', List.map_append, List.map_append]
    rfl
  · rw [List.length_map] at p
    obtain ⟨g2, rfl⟩ := (hPv _ _ _).mp p
    rw [List.take_length, ← wms]
    exact q l _ (g1.trans (g2.trans (newS n_l))) (none_of (g1.trans g2) n_l) upd_same
def sp_words_of (K : PySem.W.Frag) : Sp := fun vs H Q _ => ∃ (z w0 : Str) (ws : List Str) (a : Addr) (xs : List V), vs = [.str z] ∧ z.length ≤ 2000 ∧ Txt.split z (Str.ofString " ") = w0 :: ws ∧ atK l_WANTED w0 = some (.ref a) ∧ KTup K a xs ∧ xs.length = ws.length ∧ ∀ l H', Same H H' → H l = none → H' l = some (.lst ((w0 :: ws).map V.str)) → Q (.ref l) H'
theorem ok_words_of (B : Bi mg K w) (F : Fun K "words_of" "words_of" s_words_of f fd) : FnOk P w K mg base CX0 1 f fd ["row"] (sp_words_of K) := by
  refine F.ok S_words_of (fun vs H Q E h => ?_) (fun cdv A outer s H vs Q E hr h => ?_)
  · obtain ⟨z, w0, ws, a, xs, rfl, _⟩ := h
    rfl
  obtain ⟨z, w0, ws, a, xs, rfl, hz, hsp, hat, htu, hlen, q⟩ := h
  have S := S_words_of
  refine ⟨_, ((pss_cons (ps_if (pt_not (pt_val (pe_callB call_isiS rfl B.b_isinstance L2.bt_isinstance (pa_cons (pv 0) (pa_cons (pe_bltn (v := .ty "str") rfl B.b_str L2.bt_str rfl) pa_nil))))) (pss_one ps_never) pss_nil)
    (pss_cons (ps_set (i := 1) S.nd rfl (Or.inl rfl) (pe_bm PySem.F.plainAttrs_str PySem.F.slot_str_split PySem.F.type_str_split mt_split (pv 0) (pa_cons pe_str pa_nil)))
    (pss_cons (ps_if (PW.pt (pw_or (pt_cmp (pc_knot B.kd_WANTED rfl B.gd_WANTED (pe_ix ix_list (pv 1) pe_int (fun _ _ => rfl)))) (pw_or1 (pt_cmpR op_ne (pe_callB call_len_seq rfl B.b_len PySem.boot_len (pa_cons (pv 1) pa_nil)) (pe_op op_add (pe_callB call_len_seq rfl B.b_len PySem.boot_len (pa_cons (pe_kget B.kd_WANTED rfl B.gd_WANTED (pe_ix ix_list (pv 1) pe_int (fun _ _ => rfl)) (fun _ _ => rfl)) pa_nil)) pe_int) (nomark _))))) (pss_one ps_never) pss_nil)
    (pss_one (ps_ret (pv 1))))))), ?_⟩
  (try dsimp only); (first | refine hX _ _ ?_ | skip); (try dsimp only); (first | refine seqX (fun X hX => ?_) | skip); try walk_at "dr2"
  (try dsimp only); (first | refine hX _ _ ?_ | skip); (try dsimp only); (first | refine seqX (fun X hX => ?_) | skip); try walk_at "dr2"
  refine ⟨rfl, z, _, rfl, rfl, by decide +kernel, Nat.le_trans (Nat.add_le_add_right hz 2) (by decide), ?_⟩
  intro l1 n_l1; generalize e_l1 : upd _ l1 _ = H1; obtain ⟨g1, k1⟩ := newH e_l1 n_l1; clear e_l1
  have k1 : H1 l1 = some (.lst ((w0 :: ws).map V.str)) := by rw [k1, hsp]
  (try dsimp only); (first | refine hX _ _ ?_ | skip); (try dsimp only); (first | refine seqX (fun X hX => ?_) | skip); try walk_at "dr2"
  refine ⟨_, SqL.of k1, _, atI_nat (j := 0) rfl, w0, rfl, ?_⟩
  rw [hat, if_neg (by intro z; cases z)]
  refine ⟨_, .inl (SqL.of k1), _, SqL.of k1, _, atI_nat (j := 0) rfl, w0, rfl, a, hat, _, .inr (htu.sq _), ?_⟩
  rw [if_neg (fun n => n (by rw [hlen, List.length_map, List.length_cons]; rfl))]
  (first | refine hX _ _ ?_ | skip); (try dsimp only); try walk_at "dr1"
  exact q l1 H1 g1 n_l1 k1
structure Nm (z : Str) : Prop where
  one : 1 ≤ z.length
  most : z.length ≤ 8
  all : ∀ c, c ∈ z.cps.toList → c ∈ (Str.ofString "abcdefghijklmnopqrstuvwxyz").cps.toList
def sp_read_name (_ : PySem.W.Frag) : Sp := fun vs H Q _ => ∃ z : Str, vs = [.str z] ∧ Nm z ∧ ∀ H', Same H H' → Q (.str z) H'
theorem ok_read_name (B : Bi mg K w) (d_is_made_of : Def P w K mg base "is_made_of" 1 ["text", "signs"] (sp_is_made_of K)) (F : Fun K "read_name" "read_name" s_read_name f fd) : FnOk P w K mg base CX0 2 f fd ["word"] (sp_read_name K) := by
  refine F.ok S_read_name (fun vs H Q E h => ?_) (fun cdv A outer s H vs Q E hr h => ?_)
  · obtain ⟨z, rfl, _⟩ := h
    rfl
  obtain ⟨z, rfl, hn, q⟩ := h
  have S := S_read_name
  obtain ⟨t1, g_LETTERS⟩ := B.g_LETTERS
  obtain ⟨t2, g_MOST_LETTERS⟩ := B.g_MOST_LETTERS
  have h1 := hn.one
  have h2 := hn.most
  refine ⟨_, ((pss_cons (ps_if (PW.pt (pw_or (pt_cmpR op_lt (pe_callB call_len_str rfl B.b_len PySem.boot_len (pa_cons (pv 0) pa_nil)) pe_int (nomark _)) (pw_or (pt_cmpR op_gt (pe_callB call_len_str rfl B.b_len PySem.boot_len (pa_cons (pv 0) pa_nil)) (pe_glob (v := .int 8) rfl g_MOST_LETTERS ⟨_, rfl⟩) (nomark _)) (pw_or1 (pt_not (pt_val (pe_def d_is_made_of hr rfl (pa_cons (pv 0) (pa_cons (pe_glob (v := .str "abcdefghijklmnopqrstuvwxyz") rfl g_LETTERS ⟨_, rfl⟩) pa_nil))))))))) (pss_one ps_never) pss_nil)
    (pss_one (ps_ret (pv 0))))), ?_⟩
  (try dsimp only); (first | refine hX _ _ ?_ | skip); (try dsimp only); (first | refine seqX (fun X hX => ?_) | skip); try walk_at "dr2"; (try simp only [sp_is_made_of]); try walk_at "dr2"
  refine ⟨Nat.le_trans h2 (by decide), ite2 (fun c => by omega) (fun _ => ⟨Nat.le_trans h2 (by decide), ite2 (fun c => by omega) (fun _ => ⟨by omega, fun b H' g hb => ?_⟩)⟩)⟩
  cases b with
  | false => exact absurd (hb.mpr hn.all) (by decide)
  | true =>
    rw [if_neg (by decide)]
    (first | refine hX _ _ ?_ | skip); (try dsimp only); try walk_at "dr1"; (try simp only [sp_is_made_of]); try walk_at "dr1"
    exact q H' g
def sp_read_depth (_ : PySem.W.Frag) : Sp := fun vs H Q _ => ∃ z : Str, vs = [.str z] ∧ Tx.Wr z.cps.toList ∧ (0 ≤ Tx.valOf z.cps.toList ∧ Tx.valOf z.cps.toList ≤ 60) ∧ ∀ H', Same H H' → Q (.int (Tx.valOf z.cps.toList)) H'
theorem ok_read_depth (B : Bi mg K w) (d_read_number : Def P w K mg base "read_number" 3 ["text"] (sp_read_number K)) (F : Fun K "read_depth" "read_depth" s_read_depth f fd) : FnOk P w K mg base CX0 4 f fd ["word"] (sp_read_depth K) := by
  refine F.ok S_read_depth (fun vs H Q E h => ?_) (fun cdv A outer s H vs Q E hr h => ?_)
  · obtain ⟨z, rfl, _⟩ := h
    rfl
  obtain ⟨z, rfl, hw, hd, q⟩ := h
  have S := S_read_depth
  obtain ⟨t1, g_GREATEST_DEPTH⟩ := B.g_GREATEST_DEPTH
  refine ⟨_, ((pss_cons (ps_set (i := 1) S.nd rfl (Or.inl rfl) (pe_def d_read_number hr rfl (pa_cons (pv 0) pa_nil)))
    (pss_cons (ps_if (PW.pt (pw_or (pt_cmpR op_lt (pv 1) pe_int (nomark _)) (pw_or1 (pt_cmpR op_gt (pv 1) (pe_glob (v := .int 60) rfl g_GREATEST_DEPTH ⟨_, rfl⟩) (nomark _))))) (pss_one ps_never) pss_nil)
    (pss_one (ps_ret (pv 1)))))), ?_⟩
  (try dsimp only); (first | refine hX _ _ ?_ | skip); (try dsimp only); (first | refine seqX (fun X hX => ?_) | skip); try walk_at "dr2"; (try simp only [sp_read_number]); try walk_at "dr2"
  refine ⟨hw, fun H' g => ?_⟩
  (try dsimp only); (first | refine hX _ _ ?_ | skip); (try dsimp only); (first | refine seqX (fun X hX => ?_) | skip); try walk_at "dr2"; (try simp only [sp_read_number]); try walk_at "dr2"
  refine ite2 (fun c => by omega) (fun _ => ite2 (fun c => by omega) (fun _ => ?_))
  (first | refine hX _ _ ?_ | skip); (try dsimp only); try walk_at "dr1"; (try simp only [sp_read_number]); try walk_at "dr1"
  exact q H' g
def sp_power_of (_ : PySem.W.Frag) : Sp := fun vs H Q _ => ∃ (p e : Int), vs = [.int p, .int e] ∧ (2 ≤ p ∧ p < 1000) ∧ (0 ≤ e ∧ e < 100000) ∧ Q (.int (p ^ e.toNat)) H
theorem ok_power_of (B : Bi mg K w) (F : Fun K "power_of" "power_of" s_power_of f fd) : FnOk P w K mg base CX0 1 f fd ["p", "e"] (sp_power_of K) := by
  refine F.ok S_power_of (fun vs H Q E h => ?_) (fun cdv A outer s H vs Q E hr h => ?_)
  · obtain ⟨p, e, rfl, _⟩ := h
    rfl
  obtain ⟨p, e, rfl, hp, he, q⟩ := h
  have S := S_power_of
  refine ⟨_, ((pss_cons (ps_set (i := 2) S.nd rfl (Or.inl rfl) pe_int)
    (pss_cons (ps_for PassesOwn.never rfl (pi_range1 rfl B.b_range (pa_cons (pv 1) pa_nil)) (pg_name (i := 3) S.nd rfl (Or.inl rfl)) (pss_one (ps_set (i := 2) S.nd rfl (Or.inl rfl) (pe_op op_mulW (pv 2) (pv 0)))))
    (pss_one (ps_ret (pv 2)))))), ?_⟩
  refine ⟨_, rfl, e, rfl, by omega, by omega, ?_⟩
  refine for_range (n := e.toNat) (fun i σ H' => H' = H ∧ ∃ t, σ = [some (.int p), some (.int e), some (.int (p ^ i)), t]) ⟨rfl, none, by rw [Int.pow_zero]; rfl⟩ ?_ ?_
  · rintro i σ H' hi ⟨rfl, t, rfl⟩
    refine ⟨_, rfl, _, rfl, _, _, rfl, rfl, IntMulOk.of_right (intBits_le_64 (by omega) (by omega)), rfl, some (.int (0 + (i : Int))), ?_⟩
    rw [Int.pow_succ]
    rfl
  · rintro σ H' ⟨rfl, t, rfl⟩
    exact ⟨_, rfl, q⟩
def sp_can_be_written (_ : PySem.W.Frag) : Sp := fun vs H Q _ => ∃ n : Int, vs = [.int n] ∧ Q (.bl (decide (n.natAbs < 10 ^ 60))) H
theorem ok_can_be_written (B : Bi mg K w) (d_power_of : Def P w K mg base "power_of" 1 ["p", "e"] (sp_power_of K)) (F : Fun K "can_be_written" "can_be_written" s_can_be_written f fd) : FnOk P w K mg base CX0 2 f fd ["number"] (sp_can_be_written K) := by
  refine F.ok S_can_be_written (fun vs H Q E h => ?_) (fun cdv A outer s H vs Q E hr h => ?_)
  · obtain ⟨n, rfl, _⟩ := h
    rfl
  obtain ⟨n, rfl, q⟩ := h
  have S := S_can_be_written
  obtain ⟨t1, g_MOST_FIGURES⟩ := B.g_MOST_FIGURES
  refine ⟨_, ((pss_one (ps_ret (pe_cmpR op_lt (pe_callB call_abs rfl B.b_abs bt_abs (pa_cons (pv 0) pa_nil)) (pe_def d_power_of hr rfl (pa_cons pe_int (pa_cons (pe_glob (v := .int 60) rfl g_MOST_FIGURES ⟨_, rfl⟩) pa_nil))) (nomark _))))), ?_⟩
  (first | refine hX _ _ ?_ | skip); (try dsimp only); try walk_at "dr1"; (try simp only [sp_power_of]); try walk_at "dr1"
  have hM : (10 : Int) ^ Int.toNat 60 = ((10 ^ 60 : Nat) : Int) := by decide +kernel
  rw [hM]
  generalize (10 ^ 60 : Nat) = M at q ⊢
  rw [show decide ((if n < 0 then -n else n) < (M : Int)) = decide (n.natAbs < M) from decide_eq_decide.mpr (by split <;> omega)]
  exact q
def sp_made_poly (K : PySem.W.Frag) : Sp := fun vs H Q _ => ∃ (p : Int) (a : Addr) (x y : V) (xs : List V), vs = [.int p, .ref a] ∧ SqL K H a (x :: y :: xs) ∧ Q y H
theorem ok_made_poly (B : Bi mg K w) (F : Fun K "made_poly" "made_poly" s_made_poly f fd) : FnOk P w K mg base (CXE P w) 1 f fd ["p", "things"] (sp_made_poly K) := by
  refine F.okE S_made_poly (fun vs H Q E h => ?_) (fun cdv A outer s H vs Q E hr h => ?_)
  · obtain ⟨p, a, x, y, xs, rfl, _⟩ := h
    rfl
  obtain ⟨p, a, x, y, xs, rfl, hS, q⟩ := h
  have S := S_made_poly
  refine ⟨_, ((pss_one (ps_ret (pe_ix ix_list (pv 1) pe_int (fun _ _ => rfl))))), ?_⟩
  (first | refine hX _ _ ?_ | skip); (try dsimp only); try walk_at "dr1"
  exact ⟨_, hS, _, atI_nat (j := 1) rfl, q⟩
def sp_is_prime (_ : PySem.W.Frag) : Sp := fun vs H Q _ => ∃ (n : Int), vs = [.int n] ∧ n < 2 ^ 60 ∧ ∀ b : Bool, (b = true ↔ Dr.IsP n) → Q (.bl b) H
theorem isP_end {n d : Int} (hd : 2 ≤ d) (h : ∀ e : Int, 2 ≤ e → e < d → n % e ≠ 0) (hn : 2 ≤ n) (c : ¬ d * d ≤ n) : Dr.IsP n := by
  refine ⟨hn, fun e he hee => h e he ?_⟩
  refine Int.lt_of_not_ge fun z => c ?_
  exact Int.le_trans (Int.mul_le_mul z z (by omega) (by omega)) hee
theorem ok_is_prime (B : Bi mg K w) (F : Fun K "is_prime" "is_prime" s_is_prime f fd) : FnOk P w K mg base CX0 1 f fd ["thing"] (sp_is_prime K) := by
  refine F.ok S_is_prime (fun vs H Q E h => ?_) (fun cdv A outer s H vs Q E hr h => ?_)
  · obtain ⟨n, rfl, _⟩ := h
    rfl
  obtain ⟨n, rfl, hn, q⟩ := h
  have S := S_is_prime
  refine ⟨_, ((pss_cons (ps_if (PW.pt (pw_or (pt_not (pt_val (pe_callB call_isiS rfl B.b_isinstance L2.bt_isinstance (pa_cons (pv 0) (pa_cons (pe_bltn (v := .ty "int") rfl B.b_int L2.bt_int rfl) pa_nil))))) (pw_or1 (pt_cmpR op_lt (pv 0) pe_int (nomark _))))) (pss_one (ps_ret pe_bl)) pss_nil)
    (pss_cons (ps_set (i := 1) S.nd rfl (Or.inl rfl) pe_int)
    (pss_cons (ps_while PassesOwn.never (pt_cmpR op_le (pe_op op_mulW (pv 1) (pv 1)) (pv 0) (nomark _)) (pss_cons (ps_if (pt_cmpR op_eq (pe_op op_mod (pv 0) (pv 1)) pe_int (nomark _)) (pss_one (ps_ret pe_bl)) pss_nil)
    (pss_one (ps_aug (i := 1) S.nd rfl (Or.inl rfl) pe_int ip_add))))
    (pss_one (ps_ret pe_bl)))))), ?_⟩
  (first | refine hX _ _ ?_ | skip); (try dsimp only); try walk_at "dr1"
  refine ite2 (fun c => q false ⟨fun z => (by cases z), fun z => absurd z.1 (by omega)⟩) (fun c => ?_)
  obtain ⟨W, hW⟩ : ∃ W : Nat → St → Hp → Prop, ∀ m σ H', W m σ H' ↔ (H' = H ∧ ∃ d : Int, σ = [some (.int n), some (.int d)] ∧ 2 ≤ d ∧ (∀ e : Int, 2 ≤ e → e < d → n % e ≠ 0) ∧ d ≤ n ∧ m = (n + 1 - d).toNat) := ⟨_, fun _ _ _ => Iff.rfl⟩
  (first | refine hX _ _ ?_ | skip); refine whB W (n + 1 - 2).toNat ((hW _ _ _).mpr ⟨rfl, 2, rfl, by omega, fun e h1 h2 => by omega, by omega, rfl⟩) ?_
  intro m σ H' z
  obtain ⟨rfl, d, rfl, hd, h1, h2, rfl⟩ := (hW _ _ _).mp z
  (first | refine hX _ _ ?_ | skip); (try dsimp only); try walk_at "dr1"
  refine ⟨IntMulOk.of_left (intBits_le_64 (by omega) (by omega)), ite2 (fun c1 => ?_) (fun c1 => ?_)⟩
  · refine ⟨_, fun _ _ h => h, ?_⟩
    refine ⟨by omega, ite2 (fun c2 => ?_) (fun c2 => ?_)⟩
    · exact q false ⟨fun z => (by cases z), fun z => absurd c2 (z.2 d hd c1)⟩
    · have hlt : d < n := by
        have : d * 2 ≤ d * d := Int.mul_le_mul_of_nonneg_left hd (by omega)
        omega
      refine ⟨(n + 1 - (d + 1)).toNat, by omega, (hW _ _ _).mpr ⟨rfl, d + 1, rfl, by omega, fun e e1 e2 => ?_, by omega, rfl⟩⟩
      by_cases w : e = d
      · rw [w]; exact c2
      · exact h1 e e1 (by omega)
  · exact q true ⟨fun _ => isP_end hd h1 (by omega) c1, fun _ => rfl⟩
theorem isP_of {p : Int} (hp : p ∈ Dr.primes) : Dr.IsP p := by
  refine ⟨(Dr.primes_ge hp).1, fun e he hee => ?_⟩
  have h97 := (Dr.primes_ge hp).2
  have h9 : e < 10 := by
    refine Int.lt_of_not_ge fun z => ?_
    have := Int.mul_le_mul z z (by decide) (by omega)
    omega
  rcases (show e = 2 ∨ e = 3 ∨ e = 4 ∨ e = 5 ∨ e = 6 ∨ e = 7 ∨ e = 8 ∨ e = 9 by omega) with h | h | h | h | h | h | h | h <;> subst h <;> revert hee <;> clear h97 he h9 <;> revert p <;> decide
def sp___init__ (K : PySem.W.Frag) : Sp := fun vs H Q _ => ∃ (d dx : Addr) (p : Int), vs = [.ref d, .int p] ∧ H d = some (.ins (clK K "Desk") dx []) ∧ p ∈ Dr.primes ∧
  ∀ kd H', kd ≠ d → H kd = none → H' d = some (.ins (clK K "Desk") dx [("prime", .int p), ("kept", .ref kd)]) → H' kd = some (.dK []) → (∀ b, b ≠ d → b ≠ kd → H' b = H b) → Q .non H'
theorem ok___init__ (B : Bi mg K w) (d_is_prime : Def P w K mg base "is_prime" 1 ["thing"] (sp_is_prime K)) (F : Fun K "__init__" "Desk.__init__" s___init__ f fd) : FnOk P w K mg base CX0 2 f fd ["self", "p"] (sp___init__ K) := by
  refine F.ok S___init__ (fun vs H Q E h => ?_) (fun cdv A outer s H vs Q E hr h => ?_)
  · obtain ⟨d, dx, p, rfl, _⟩ := h
    rfl
  obtain ⟨d, dx, p, rfl, hd, hp, q⟩ := h
  have S := S___init__
  obtain ⟨t1, g_GREATEST_PRIME⟩ := B.g_GREATEST_PRIME
  have p97 := Dr.primes_ge hp
  refine ⟨_, ((pss_cons (ps_if (PW.pt (pw_or (pt_not (pt_val (pe_callB call_isiS rfl B.b_isinstance L2.bt_isinstance (pa_cons (pv 1) (pa_cons (pe_bltn (v := .ty "int") rfl B.b_int L2.bt_int rfl) pa_nil))))) (pw_or (pt_cmpR op_gt (pv 1) (pe_glob (v := .int 97) rfl g_GREATEST_PRIME ⟨_, rfl⟩) (nomark _)) (pw_or1 (pt_not (pt_val (pe_def d_is_prime hr rfl (pa_cons (pv 1) pa_nil)))))))) (pss_one ps_never) pss_nil)
    (pss_cons (ps_fld (pv 0) (pv 1) rfl)
    (pss_one (ps_fld (pv 0) pe_dnewK rfl))))), ?_⟩
  (try dsimp only); (first | refine hX _ _ ?_ | skip); (try dsimp only); (first | refine seqX (fun X hX => ?_) | skip); try walk_at "dr2"; (try simp only [sp_is_prime]); try walk_at "dr2"
  rw [if_neg (by omega)]
  refine ⟨by omega, fun b hb => ?_⟩
  have hb : b = true := hb.mpr (isP_of hp)
  subst hb
  rw [if_neg (by decide)]
  (try dsimp only); (first | refine hX _ _ ?_ | skip); (try dsimp only); (first | refine seqX (fun X hX => ?_) | skip); try walk_at "dr2"; (try simp only [sp_is_prime]); try walk_at "dr2"
  refine ⟨_, _, _, hd, B.cl_Desk, B.na_prime, by decide, ?_⟩
  (first | refine hX _ _ ?_ | skip); (try dsimp only); try walk_at "dr1"; (try simp only [sp_is_prime]); try walk_at "dr1"
  intro kd nk
  have ne : kd ≠ d := fun z => by rw [z, upd_same] at nk; cases nk
  rw [upd_ne ne] at nk
  refine ⟨_, _, _, by rw [upd_ne (Ne.symm ne)]; exact upd_same, B.cl_Desk, B.na_kept, by show 1 < 1000; decide, ?_⟩
  refine q kd _ ne nk ?_ ?_ ?_
  · rw [upd_same]
    exact congrArg some (congrArg (HO.ins _ _) (by rfl))
  · rw [upd_ne ne, upd_same]
  · intro b h1 h2
    rw [upd_ne h1, upd_ne h2, upd_ne h1]
def sp_standing (K : PySem.W.Frag) : Sp := fun vs H Q E => ∃ (d dx kd : Addr) (fs : List (Str × V)) (kvs : List (Key × V)) (z : Str), vs = [.ref d, .str z] ∧ H d = some (.ins (clK K "Desk") dx fs) ∧ fs.lookup ("kept" : Str) = some (V.ref kd) ∧ H kd = some (.dK kvs) ∧ (∀ v, valV kvs (Sum.inr z) = some v → Q v H) ∧ (valV kvs (Sum.inr z) = none → ∀ H', Same H H' → E (.ref (clK K "NoName")) none H')
theorem ok_standing (B : Bi mg K w) (F : Fun K "standing" "Desk.standing" s_standing f fd) : FnOk P w K mg base (CXE P w) 1 f fd ["self", "name"] (sp_standing K) := by
  refine F.okE S_standing (fun vs H Q E h => ?_) (fun cdv A outer s H vs Q E hr h => ?_)
  · obtain ⟨d, dx, kd, fs, kvs, z, rfl, _⟩ := h
    rfl
  obtain ⟨d, dx, kd, fs, kvs, z, rfl, hd, hf, hk, q, qE⟩ := h
  have S := S_standing
  refine ⟨_, ((pss_cons (ps_if (pt_cmp (pc_dnotin (hu1 hr.units) (pv 1) (pe_fld (pv 0) rfl))) (pss_one (ps_raise thrE rfl rfl B.c_NoName B.x_NoName (pa_cons pe_str pa_nil))) pss_nil)
    (pss_one (ps_ret (pe_dget (hu1 hr.units) (pe_fld (pv 0) rfl) (pv 1) (fun _ _ => rfl)))))), ?_⟩
  (try dsimp only); (first | refine hX _ _ ?_ | skip); (try dsimp only); (first | refine seqX (fun X hX => ?_) | skip); try walk_at "dr2"
  refine ⟨_, _, _, hd, B.cl_Desk, B.na_kept, _, hf, kd, rfl, _, DGet.k (k := Sum.inr z) hk, ?_⟩
  cases hv : valV kvs (Sum.inr z) with
  | none =>
    rw [if_pos (by rfl)]
    (first | refine hX _ _ ?_ | skip); (try dsimp only); try walk_at "dr1"
    exact ⟨by decide, qE hv _ (Same.refl _)⟩
  | some v =>
    rw [if_neg (by intro z; cases z)]
    (first | refine hX _ _ ?_ | skip); (try dsimp only); try walk_at "dr1"
    exact ⟨_, _, _, hd, B.cl_Desk, B.na_kept, _, hf, kd, rfl, v, by rw [← hv]; exact DGet.k (k := Sum.inr z) hk, q v hv⟩
theorem all_small {ms : List Int} : (ms.map fun x => decide (x.natAbs < 10 ^ 60)).all id = true ↔ ∀ x, x ∈ ms → x.natAbs < 10 ^ 60 := by
  rw [List.all_eq_true]
  constructor
  · intro h x hx
    exact of_decide_eq_true (h _ (List.mem_map.mpr ⟨x, hx, rfl⟩))
  · intro h b hb
    obtain ⟨x, hx, rfl⟩ := List.mem_map.mp hb
    exact decide_eq_true (h x hx)
def sp_keep (K : PySem.W.Frag) : Sp := fun vs H Q E => ∃ (d dx kd l : Addr) (fs : List (Str × V)) (kvs : List (Key × V)) (z : Str) (ms : List Int), vs = [.ref d, .str z, .ref l] ∧ H d = some (.ins (clK K "Desk") dx fs) ∧ fs.lookup ("kept" : Str) = some (V.ref kd) ∧ H kd = some (.dK kvs) ∧ kvs.length < 1000 ∧
  SqL K H l (ms.map V.int) ∧ ms.length ≤ 60 ∧ ((∀ x, x ∈ ms → x.natAbs < 10 ^ 60) → ∀ H1, Same H H1 → Q (.str "ok") (upd H1 kd (.dK (putK kvs (Sum.inr z) (.ref l))))) ∧ ((¬ ∀ x, x ∈ ms → x.natAbs < 10 ^ 60) → ∀ H1, Same H H1 → E (.ref (clK K "TooGreat")) none H1)
theorem ok_keep (B : Bi mg K w) (d_can_be_written : Def P w K mg base "can_be_written" 2 ["number"] (sp_can_be_written K)) (F : Fun K "keep" "Desk.keep" s_keep f fd) : FnOk P w K mg base (CXE P w) 3 f fd ["self", "name", "polynomial"] (sp_keep K) := by
  refine F.okE S_keep (fun vs H Q E h => ?_) (fun cdv A outer s H vs Q E hr h => ?_)
  · obtain ⟨d, dx, kd, l, fs, kvs, z, ms, rfl, _⟩ := h
    rfl
  obtain ⟨d, dx, kd, l, fs, kvs, z, ms, rfl, hd, hf, hk, hkl, hS, hl, q, qE⟩ := h
  have S := S_keep
  refine ⟨_, ((pss_cons (ps_if (pt_not (pt_val (pe_callB (call_allB rfl) rfl B.b_all bt_all (pa_cons (pe_comp [] [] rfl rfl trivial trivial rfl rfl (by decide) (by decide) rfl rfl (by decide) (pi_list (pv 2)) (fun _ _ _ _ => pts_nil) (fun _ _ _ _ => (pe_def d_can_be_written hr rfl (pa_cons (pv 0) pa_nil)))) pa_nil)))) (pss_one (ps_raise thrE rfl rfl B.c_TooGreat B.x_TooGreat (pa_cons pe_str pa_nil))) pss_nil)
    (pss_cons (ps_dput (hu1 hr.units) (pe_fld (pv 0) rfl) (pv 1) (pv 2) rfl)
    (pss_one (ps_ret pe_str))))), ?_⟩
  (try dsimp only); (first | refine hX _ _ ?_ | skip); (try dsimp only); (first | refine seqX (fun X hX => ?_) | skip); try walk_at "dr2"; (try simp only [sp_can_be_written]); try walk_at "dr2"
  refine ⟨⟨_, hS⟩, ?_⟩
  obtain ⟨Pv, hPv⟩ : ∃ Pv : Nat → List V → Hp → Prop, ∀ i ys H', Pv i ys H' ↔ (H' = H ∧ ys = ((ms.take i).map fun x => decide (x.natAbs < 10 ^ 60)).map V.bl) := ⟨_, fun _ _ _ => Iff.rfl⟩
  (first | refine hX _ _ ?_ | skip); refine compI ms Pv (Nat.le_trans hl (by decide)) ((hPv _ _ _).mpr ⟨rfl, rfl⟩) (fun i ys H2 p => ?_) (fun i x ys H2 hx p => ?_) (fun ys H2 p r n_r => ?_)
  · obtain ⟨rfl, _⟩ := (hPv _ _ _).mp p
    exact hS
  · obtain ⟨rfl, rfl⟩ := (hPv _ _ _).mp p
    (first | refine hX _ _ ?_ | skip); (try dsimp only); try walk_at "dr1"; (try simp only [sp_can_be_written]); try walk_at "dr1"
    refine (hPv _ _ _).mpr ⟨rfl, ?_⟩
    rw [take_next hx, List.map_append, List.map_append]
    rfl
  obtain ⟨rfl, rfl⟩ := (hPv _ _ _).mp p
  rw [List.take_length]
  refine ⟨r, rfl, _, SqL.of upd_same, ?_⟩
  have g := newS n_r (o := HO.lst (List.map V.bl (ms.map fun x => decide (x.natAbs < 10 ^ 60))))
  generalize upd H2 r (HO.lst (List.map V.bl (ms.map fun x => decide (x.natAbs < 10 ^ 60)))) = H3 at g ⊢
  refine ite2 (fun c => ?_) (fun c => ?_)
  · (try dsimp only); (first | refine hX _ _ ?_ | skip); (try dsimp only); (first | refine seqX (fun X hX => ?_) | skip); try walk_at "dr2"; (try simp only [sp_can_be_written]); try walk_at "dr2"
    exact ⟨by decide, qE (fun a => by rw [all_small.mpr a] at c; cases c) _ g⟩
  · (try dsimp only); (first | refine hX _ _ ?_ | skip); (try dsimp only); (first | refine seqX (fun X hX => ?_) | skip); try walk_at "dr2"; (try simp only [sp_can_be_written]); try walk_at "dr2"
    refine ⟨_, _, _, g _ _ hd, B.cl_Desk, B.na_kept, _, hf, kd, rfl, _, DPut.k (k := Sum.inr z) (g _ _ hk) (Nat.lt_trans hkl (by decide)), ?_⟩
    (first | refine hX _ _ ?_ | skip); (try dsimp only); try walk_at "dr1"; (try simp only [sp_can_be_written]); try walk_at "dr1"
    exact q (all_small.mp (by simpa using c)) _ g
structure DeskAt (K : PySem.W.Frag) (H : Hp) (d dx kd : Addr) (p : Int) (kvs : List (Key × V)) : Prop where
  ins : H d = some (.ins (clK K "Desk") dx [("prime", .int p), ("kept", .ref kd)])
  kept : H kd = some (.dK kvs)
theorem DeskAt.same {K : PySem.W.Frag} {H H' : Hp} {d dx kd : Addr} {p : Int} {kvs : List (Key × V)} (h : DeskAt K H d dx kd p kvs) (g : Same H H') : DeskAt K H' d dx kd p kvs := ⟨g _ _ h.ins, g _ _ h.kept⟩
theorem nm_free {z : Str} (h : Nm z) : 32 ∉ z.cps.toList := fun q => by
  have := h.all 32 q
  revert this
  decide +kernel
theorem look_no {x : Str} {a b : V} (h1 : (x == ("prime" : Str)) = false) (h2 : (x == ("kept" : Str)) = false) : List.lookup x [(("prime" : Str), a), (("kept" : Str), b)] = none := by
  simp only [List.lookup, h1, h2]
theorem look_kept {a b : V} : List.lookup ("kept" : Str) [(("prime" : Str), a), (("kept" : Str), b)] = some b := by
  have h1 : (("kept" : Str) == ("prime" : Str)) = false := by decide +kernel
  simp only [List.lookup, h1, BEq.rfl]
theorem look_prime {a b : V} : List.lookup ("prime" : Str) [(("prime" : Str), a), (("kept" : Str), b)] = some a := by
  simp only [List.lookup, BEq.rfl]
inductive Kd | new | name | poly | depth | number
def Kd.txt : Kd → Str
  | .new => "new"
  | .name => "name"
  | .poly => "poly"
  | .depth => "depth"
  | .number => "number"
inductive Wd (kvs : List (Key × V)) : Kd → Str → Prop
  | new {z : Str} : Nm z → Wd kvs .new z
  | name {z : Str} {v : V} : Nm z → valV kvs (Sum.inr z) = some v → Wd kvs .name z
  | poly {z : Str} {ms : List Int} : z.length ≤ 2000 → Tx.poly z = some ms → Wd kvs .poly z
  | depth {z : Str} : Tx.Wr z.cps.toList → (0 ≤ Tx.valOf z.cps.toList ∧ Tx.valOf z.cps.toList ≤ 60) → Wd kvs .depth z
  | number {z : Str} : Tx.Wr z.cps.toList → Wd kvs .number z
inductive Bad (kvs : List (Key × V)) : Kd → Str → Str → Prop
  | name {z : Str} : Nm z → valV kvs (Sum.inr z) = none → Bad kvs .name z "NoName"
inductive Rs (kvs : List (Key × V)) (H H' : Hp) : Kd → Str → V → Prop
  | new {z : Str} : Rs kvs H H' .new z (.str z)
  | name {z : Str} {v : V} : valV kvs (Sum.inr z) = some v → Rs kvs H H' .name z v
  | poly {z : Str} {ms : List Int} {c : Addr} : Tx.poly z = some ms → H c = none → H' c = some (.lst (ms.map V.int)) → Rs kvs H H' .poly z (.ref c)
  | depth {z : Str} : Rs kvs H H' .depth z (.int (Tx.valOf z.cps.toList))
  | number {z : Str} : Rs kvs H H' .number z (.int (Tx.valOf z.cps.toList))
theorem Rs.same {kvs : List (Key × V)} {H0 H H' H2 : Hp} {k : Kd} {z : Str} {v : V} (h : Rs kvs H H' k z v) (g0 : Same H0 H) (g : Same H' H2) : Rs kvs H0 H2 k z v := by
  cases h with
  | new => exact .new
  | name e => exact .name e
  | poly e n k => exact .poly e (none_of g0 n) (g _ _ k)
  | depth => exact .depth
  | number => exact .number
def sp_thing_of (K : PySem.W.Frag) : Sp := fun vs H Q E => ∃ (d dx kd : Addr) (p : Int) (kvs : List (Key × V)) (k : Kd) (z : Str), vs = [.ref d, .str k.txt, .str z] ∧ DeskAt K H d dx kd p kvs ∧ ((Wd kvs k z ∧ ∀ v H', Same H H' → Rs kvs H H' k z v → Q v H') ∨ ∃ C, Bad kvs k z C ∧ ∀ H', Same H H' → E (.ref (clK K C)) none H')
theorem ok_thing_of (B : Bi mg K w) (d_read_number : Def P w K mg base "read_number" 3 ["text"] (sp_read_number K)) (d_read_poly : Def P w K mg base "read_poly" 4 ["text"] (sp_read_poly K)) (d_read_name : Def P w K mg base "read_name" 2 ["word"] (sp_read_name K)) (d_read_depth : Def P w K mg base "read_depth" 4 ["word"] (sp_read_depth K)) (d_standing : Met P w K mg base (CXE P w) (clK K "Desk") "standing" 1 ["self", "name"] (sp_standing K)) (F : Fun K "thing_of" "Desk.thing_of" s_thing_of f fd) : FnOk P w K mg base (CXE P w) 5 f fd ["self", "wanted", "word"] (sp_thing_of K) := by
  refine F.okE S_thing_of (fun vs H Q E h => ?_) (fun cdv A outer s H vs Q E hr h => ?_)
  · obtain ⟨d, dx, kd, p, kvs, k, z, rfl, _⟩ := h
    rfl
  obtain ⟨d, dx, kd, p, kvs, k, z, rfl, hd, t⟩ := h
  have S := S_thing_of
  refine ⟨_, ((pss_cons (ps_if (pt_cmpR op_eq (pv 1) pe_str (nomark _)) (pss_one (ps_ret (pe_def d_read_name hr rfl (pa_cons (pv 2) pa_nil)))) pss_nil)
    (pss_cons (ps_if (pt_cmpR op_eq (pv 1) pe_str (nomark _)) (pss_one (ps_ret (pe_met passE B.cl_Desk d_standing hr (pv 0) (pa_cons (pe_def d_read_name hr rfl (pa_cons (pv 2) pa_nil)) pa_nil)))) pss_nil)
    (pss_cons (ps_if (pt_cmpR op_eq (pv 1) pe_str (nomark _)) (pss_one (ps_ret (pe_def d_read_poly hr rfl (pa_cons (pv 2) pa_nil)))) pss_nil)
    (pss_cons (ps_if (pt_cmpR op_eq (pv 1) pe_str (nomark _)) (pss_one (ps_ret (pe_def d_read_depth hr rfl (pa_cons (pv 2) pa_nil)))) pss_nil)
    (pss_one (ps_ret (pe_def d_read_number hr rfl (pa_cons (pv 2) pa_nil))))))))), ?_⟩
  rcases t with ⟨t, q⟩ | ⟨C, t, qE⟩
  rotate_left
  · cases t with
    | name hn hv =>
      dsimp only [Kd.txt]
      (first | refine hX _ _ ?_ | skip); (try dsimp only); try walk_at "dr1"; (try simp only [sp_read_number, sp_read_poly, sp_read_name, sp_read_depth, sp_standing]); try walk_at "dr1"
      rw [if_neg (by decide +kernel)]
      exact ⟨_, _, hd.ins, look_no (by decide +kernel) (by decide +kernel), hn, fun H' g => ⟨_, _, _, g _ _ hd.ins, look_kept, _, g _ _ hd.kept, (fun v z => by rw [hv] at z; cases z), fun _ H'' g' => qE H'' (g.trans g')⟩⟩
  cases t with
  | new hn =>
    dsimp only [Kd.txt]
    (first | refine hX _ _ ?_ | skip); (try dsimp only); try walk_at "dr1"; (try simp only [sp_read_number, sp_read_poly, sp_read_name, sp_read_depth, sp_standing]); try walk_at "dr1"
    exact ⟨hn, fun H' g => q _ H' g .new⟩
  | name hn hv =>
    dsimp only [Kd.txt]
    (first | refine hX _ _ ?_ | skip); (try dsimp only); try walk_at "dr1"; (try simp only [sp_read_number, sp_read_poly, sp_read_name, sp_read_depth, sp_standing]); try walk_at "dr1"
    rw [if_neg (by decide +kernel)]
    exact ⟨_, _, hd.ins, look_no (by decide +kernel) (by decide +kernel), hn, fun H' g => ⟨_, _, _, g _ _ hd.ins, look_kept, _, g _ _ hd.kept, fun v z => q _ H' g (.name z), fun z => by rw [hv] at z; cases z⟩⟩
  | poly hz hp =>
    dsimp only [Kd.txt]
    (first | refine hX _ _ ?_ | skip); (try dsimp only); try walk_at "dr1"; (try simp only [sp_read_number, sp_read_poly, sp_read_name, sp_read_depth, sp_standing]); try walk_at "dr1"
    rw [if_neg (by decide +kernel), if_neg (by decide +kernel)]
    exact ⟨hz, _, hp, fun c H' g nc kc => q _ H' g (.poly hp nc kc)⟩
  | depth hw hb =>
    dsimp only [Kd.txt]
    (first | refine hX _ _ ?_ | skip); (try dsimp only); try walk_at "dr1"; (try simp only [sp_read_number, sp_read_poly, sp_read_name, sp_read_depth, sp_standing]); try walk_at "dr1"
    rw [if_neg (by decide +kernel), if_neg (by decide +kernel), if_neg (by decide +kernel)]
    exact ⟨hw, hb.1, hb.2, fun H' g => q _ H' g .depth⟩
  | number hw =>
    dsimp only [Kd.txt]
    (first | refine hX _ _ ?_ | skip); (try dsimp only); try walk_at "dr1"; (try simp only [sp_read_number, sp_read_poly, sp_read_name, sp_read_depth, sp_standing]); try walk_at "dr1"
    rw [if_neg (by decide +kernel), if_neg (by decide +kernel), if_neg (by decide +kernel), if_neg (by decide +kernel)]
    exact ⟨hw, fun H' g => q _ H' g .number⟩
theorem mulSm {a b : Int} {m n : Nat} (ha : Dr.Sm a m) (hb : Dr.Sm b n) (h : m + n ≤ 134217728) : IntMulOk a b := PyProof.Rows.mulOk_of_bits (PyProof.Rows.intBits_le ha) (PyProof.Rows.intBits_le hb) h
theorem sm_of {a : Int} {k : Nat} (B : Int) (h : -B ≤ a ∧ a ≤ B) (hB : B.natAbs < 2 ^ k) : Dr.Sm a k := by
  unfold Dr.Sm
  omega
theorem rep_zero (n : Nat) : (List.replicate n [V.int 0]).flatten = (List.replicate n (0 : Int)).map V.int := by
  induction n with
  | zero => rfl
  | succ n ih => simp [List.replicate_succ, ih]
theorem ixN_nn {n : Nat} {k : Int} (h0 : 0 ≤ k) (h1 : k < (n : Int)) : ixN n k = some k.toNat := by
  unfold ixN
  simp only [h0, if_true, if_pos]
  rw [if_pos (by omega)]
theorem get_int {fs : List Int} {k : Int} (h0 : 0 ≤ k) (h1 : k < (fs.length : Int)) : ∃ v, fs[k.toNat]? = some v ∧ atI (fs.map V.int) k = some (.int v) ∧ ixN (fs.map V.int).length k = some k.toNat ∧ (fs.map V.int)[k.toNat]? = some (.int v) := by
  have hk : k.toNat < fs.length := by omega
  have e : fs[k.toNat]? = some fs[k.toNat] := List.getElem?_eq_getElem hk
  refine ⟨fs[k.toNat], e, ?_, ixN_nn h0 (by rw [List.length_map]; exact h1), by rw [List.getElem?_map, e]; rfl⟩
  rw [atI_ints h0 h1, List.getD_eq_getElem?_getD, e]
  rfl
theorem set_int (fs : List Int) (k : Nat) (v : Int) : (fs.map V.int).set k (.int v) = (fs.set k v).map V.int := by rw [List.map_set]
theorem mem_set {fs : List Int} {k : Nat} {v c : Int} (h : c ∈ fs.set k v) : c ∈ fs ∨ c = v := List.mem_or_eq_of_mem_set h
theorem steps {i T : Nat} {v n : Int} (h : v.natAbs ≤ i * T) (h' : n.natAbs ≤ T) : (v + n).natAbs ≤ (i + 1) * T := by
  rw [Nat.succ_mul]
  omega
theorem atI_back {xs : List Int} {d : Int} (h : xs.getLast? = some d) : atI (xs.map V.int) (-1) = some (.int d) := by
  cases xs with
  | nil => simp at h
  | cons x ms =>
    have hh : ms.length < (x :: ms).length := by simp
    have e : (x :: ms)[ms.length]? = some d := by
      rw [List.getLast?_eq_getElem?] at h
      simpa using h
    unfold atI ixN
    have e1 : ¬ (0 : Int) ≤ -1 := by decide
    have e2 : -(((x :: ms).map V.int).length : Int) ≤ -1 := by
      simp only [List.length_map, List.length_cons]
      omega
    have e3 : (-1 + (((x :: ms).map V.int).length : Int)).toNat = ms.length := by
      simp only [List.length_map, List.length_cons]
      omega
    rw [if_neg e1, if_pos e2, e3]
    show ((x :: ms).map V.int)[ms.length]? = _
    rw [List.getElem?_map, e]
    rfl
def sp_poly_product (K : PySem.W.Frag) : Sp := fun vs H Q _ => ∃ (a b : Addr) (f g : List Int) (m n : Nat), vs = [.ref a, .ref b] ∧ SqL K H a (f.map V.int) ∧ SqL K H b (g.map V.int) ∧ (0 < f.length ∧ f.length ≤ 60 ∧ 0 < g.length ∧ g.length ≤ 60) ∧ Dr.PolyB f m ∧ Dr.PolyB g n ∧ (m ≤ 1000000 ∧ n ≤ 1000000) ∧
  ∀ (c : Addr) (r : List Int) (H' : Hp), Dr.IsProd f g r → Dr.PolyB r (m + n + 12) → H c = none → Same H H' → H' c = some (.lst (r.map V.int)) → Q (.ref c) H'
theorem ok_poly_product (B : Bi mg K w) (F : Fun K "poly_product" "poly_product" s_poly_product f fd) : FnOk P w K mg base CX0 1 f fd ["f", "g"] (sp_poly_product K) := by
  refine F.ok S_poly_product (fun vs H Q E h => ?_) (fun cdv A outer s H vs Q E hr h => ?_)
  · obtain ⟨a, b, f, g, m, n, rfl, _⟩ := h
    rfl
  obtain ⟨a, b, f, g, m, n, rfl, hS, hS', hl, hf, hg, hmn, q⟩ := h
  have S := S_poly_product
  refine ⟨_, ((pss_cons (ps_set (i := 2) S.nd rfl (Or.inl rfl) (pe_op op_rep (pe_lst (pa_cons pe_int pa_nil)) (pe_op op_sub (pe_op op_add (pe_callB call_len_seq rfl B.b_len PySem.boot_len (pa_cons (pv 0) pa_nil)) (pe_callB call_len_seq rfl B.b_len PySem.boot_len (pa_cons (pv 1) pa_nil))) pe_int)))
    (pss_cons (ps_for PassesOwn.never rfl (pi_enum rfl B.b_enumerate (pv 0)) (pg_tup rfl (pgs_cons (pg_name (i := 3) S.nd rfl (Or.inl rfl)) (pgs_cons (pg_name (i := 4) S.nd rfl (Or.inl rfl)) pgs_nil))) (pss_one (ps_for PassesOwn.never rfl (pi_enum rfl B.b_enumerate (pv 1)) (pg_tup rfl (pgs_cons (pg_name (i := 5) S.nd rfl (Or.inl rfl)) (pgs_cons (pg_name (i := 6) S.nd rfl (Or.inl rfl)) pgs_nil))) (pss_one (ps_augS (pv 2) (pe_op op_add (pv 3) (pv 5)) get_list (pe_op op_mulW (pv 4) (pv 6)) ip_add set_list)))))
    (pss_one (ps_ret (pv 2)))))), ?_⟩
  try walk_at "dr1"
  refine ⟨by decide, ?_⟩
  intro l0 n_l0; generalize e_l0 : upd _ l0 _ = H1; obtain ⟨g1, k1⟩ := newH e_l0 n_l0; clear e_l0
  refine ⟨_, .inl (g1.seq hS), _, .inl (g1.seq hS'), ?_⟩
  simp only [List.length_map]
  refine ⟨_, k1, by omega, by omega, by simp only [List.length_cons, List.length_nil]; unfold sizeLine; omega, ?_⟩
  intro l n_l; generalize e_l : upd _ l _ = H2; obtain ⟨g2, k2⟩ := newH e_l n_l; clear e_l
  rw [rep_zero] at k2
  have g12 := g1.trans g2
  have nl : H l = none := g1.free n_l
  refine ⟨⟨_, g12.seq hS⟩, ?_⟩
  obtain ⟨M, hM⟩ : ∃ M : Nat, M = 2 ^ (m + n) := ⟨_, rfl⟩
  obtain ⟨Pv, hPv⟩ : ∃ Pv : Nat → St → Hp → Prop, ∀ i σ H3, Pv i σ H3 ↔ (Same H H3 ∧ ∃ (r : List Int) (t3 t4 t5 t6 : Option V), r.length + 1 = f.length + g.length ∧ (∀ c, c ∈ r → c.natAbs ≤ i * g.length * M) ∧ (∀ x, Dr.pev r x = Dr.pev (f.take i) x * Dr.pev g x) ∧ H3 l = some (.lst (r.map V.int)) ∧ σ = [some (.ref a), some (.ref b), some (.ref l), t3, t4, t5, t6]) := ⟨_, fun _ _ _ => Iff.rfl⟩
  refine forE f Pv ((hPv _ _ _).mpr ⟨g12, _, none, none, none, none, by rw [List.length_replicate]; omega, fun c hc => by rw [(List.mem_replicate.mp hc).2]; simp, fun x => by rw [Dr.pev_zeros]; simp [Dr.pev], k2, rfl⟩) (fun i σ H3 z => by obtain ⟨g, _⟩ := (hPv _ _ _).mp z; exact g.seq hS) ?_ ?_
  · intro i c σ H3 t H4 hc z g4 ht
    obtain ⟨g3, r, t3, t4, t5, t6, hrl, hrb, hre, k3, rfl⟩ := (hPv _ _ _).mp z
    have k4 := g4 _ _ k3
    have hi := (List.getElem?_eq_some_iff.mp hc).1
    have G4 := g3.trans g4
    try walk_at "dr1"
    refine ⟨_, SqT.of ht, rfl, _, _, rfl, _, _, rfl, rfl, ?_⟩
    try try walk_at "dr1"
    refine ⟨⟨_, G4.seq hS'⟩, ?_⟩
    obtain ⟨Pw, hPw⟩ : ∃ Pw : Nat → St → Hp → Prop, ∀ j σ H5, Pw j σ H5 ↔ (Same H H5 ∧ ∃ (r : List Int) (t5 t6 : Option V), r.length + 1 = f.length + g.length ∧ (∀ c, c ∈ r → c.natAbs ≤ (i * g.length + j) * M) ∧ (∀ x, Dr.pev r x = Dr.pev (f.take i) x * Dr.pev g x + c * x ^ i * Dr.pev (g.take j) x) ∧ H5 l = some (.lst (r.map V.int)) ∧ σ = [some (.ref a), some (.ref b), some (.ref l), some (.int (i : Int)), some (.int c), t5, t6]) := ⟨_, fun _ _ _ => Iff.rfl⟩
    refine forE g Pw ((hPw _ _ _).mpr ⟨G4, r, t5, t6, hrl, hrb, fun x => by rw [hre]; simp [Dr.pev], k4, rfl⟩) (fun i σ H3 z => by obtain ⟨g, _⟩ := (hPw _ _ _).mp z; exact g.seq hS') ?_ ?_
    · intro j d σ H5 t H6 hd z g6 ht
      obtain ⟨g5, r, t5, t6, hrl, hrb, hre, k5, rfl⟩ := (hPw _ _ _).mp z
      have k6 := g6 _ _ k5
      have hj := (List.getElem?_eq_some_iff.mp hd).1
      try walk_at "dr1"
      refine ⟨_, SqT.of ht, rfl, _, _, rfl, _, _, rfl, rfl, ?_⟩
      try try walk_at "dr1"
      obtain ⟨v, e1, _, e3, e4⟩ := get_int (fs := r) (k := (i : Int) + (j : Int)) (by omega) (by omega)
      have hcd : (c * d).natAbs ≤ M := by
        rw [hM]
        exact Nat.le_of_lt ((hf c (List.mem_of_getElem? hc)).mul (hg d (List.mem_of_getElem? hd)))
      refine ⟨by omega, _, SqL.of k6, _, e4, mulSm (hf c (List.mem_of_getElem? hc)) (hg d (List.mem_of_getElem? hd)) (by omega), v, rfl, _, k6, _, e3, ?_⟩
      rw [set_int]
      have eij : ((i : Int) + (j : Int)).toNat = i + j := by omega
      rw [eij] at e1 ⊢
      refine (hPw _ _ _).mpr ⟨(g5.trans g6).up nl _, _, _, _, by rw [List.length_set]; exact hrl, fun e he => ?_, fun x => ?_, upd_same, rfl⟩
      · rcases mem_set he with w | w
        · exact Nat.le_trans (hrb e w) (Nat.mul_le_mul_right _ (Nat.le_succ _))
        · rw [w]
          exact steps (hrb v (List.mem_of_getElem? e1)) hcd
      · rw [Dr.pev_set x (c * d) r (i + j) v e1, hre, Dr.pev_take_succ hd, Dr.pow_add']
        generalize x ^ i = X
        generalize x ^ j = Y
        grind
    · intro σ H5 z
      obtain ⟨g5, r, t5, t6, hrl, hrb, hre, k5, rfl⟩ := (hPw _ _ _).mp z
      refine (hPv _ _ _).mpr ⟨g5, r, _, _, _, _, hrl, fun c hc => ?_, fun x => ?_, k5, rfl⟩
      · rw [Nat.succ_mul]
        exact hrb c hc
      · rw [hre, List.take_length, Dr.pev_take_succ hc]
        grind
  · intro σ H3 z
    obtain ⟨g3, r, t3, t4, t5, t6, hrl, hrb, hre, k3, rfl⟩ := (hPv _ _ _).mp z
    try walk_at "dr1"
    rw [List.take_length] at hre
    refine q l r H3 ⟨hrl, hre⟩ (fun c hc => ?_) nl g3 k3
    have h1 := hrb c hc
    have h2 : f.length * g.length * M ≤ 3600 * M := Nat.mul_le_mul_right _ (Nat.mul_le_mul (show f.length ≤ 60 by omega) (show g.length ≤ 60 by omega))
    show c.natAbs < 2 ^ (m + n + 12)
    rw [Nat.pow_add, ← hM]
    have : (2 : Nat) ^ 12 = 4096 := by decide
    have : 0 < M := by rw [hM]; exact Nat.pow_pos (by decide)
    omega
theorem comp_dmI {K : PySem.W.Frag} {H : Hp} {a : Addr} {f : List Int} {σ : St} {k : Nat} {Q : VK} (hS : SqL K H a (f.map V.int)) (hl : 0 < f.length ∧ f.length ≤ 60) (hi : σ[k]? = some (some (.ref a))) (q : ∀ l, H l = none → Q (.ref l) (upd H l (.lst ((Dr.dm 1 f.tail).map V.int)))) :
    CompIt (Itr 1 ((((f.map V.int).length : Nat) : Int) - 1).toNat) [k] (fun _ H Q => Q true H) (tOp (rI IntMulOk fun i j => V.int (i * j)) (tVar 0) (tOp (rIxL K) (tVar 1) (tVar 0))) σ H Q := by
  obtain ⟨Pc, hPc⟩ : ∃ Pc : Nat → List V → Hp → Prop, ∀ i ys H1, Pc i ys H1 ↔ (H1 = H ∧ ys = ((Dr.dm 1 f.tail).take i).map V.int) := ⟨_, fun _ _ _ => Iff.rfl⟩
  refine compR Pc (by simp only [List.length_map]; unfold sizeLine; omega) ((hPc _ _ _).mpr ⟨rfl, by simp⟩) ?_ ?_
  · intro i ys H1 hi' z
    obtain ⟨rfl, rfl⟩ := (hPc _ _ _).mp z
    simp only [List.length_map] at hi'
    have hi2 : i < f.tail.length := by rw [List.length_tail]; omega
    have e0 : f.tail[i]? = some f.tail[i] := List.getElem?_eq_getElem hi2
    have e1 : atI (f.map V.int) (1 + (i : Int)) = some (.int f.tail[i]) := by
      rw [Int.add_comm]
      refine atI_nat (j := i + 1) ?_
      rw [List.getElem?_map]
      have : f[i + 1]? = some f.tail[i] := by
        rw [← e0]
        simp [List.getElem?_tail]
      rw [this]
      rfl
    have e2 := Dr.dm_get f.tail 1 i _ e0
    simp only [capV, List.map_cons, List.map_nil, hi, Option.getD_some]
    try walk_at "dr1"
    refine ⟨_, hS, _, e1, _, rfl, IntMulOk.of_left (intBits_le_64 (by omega) (by omega)), (hPc _ _ _).mpr ⟨rfl, ?_⟩⟩
    rw [List.take_add_one, e2, List.map_append]
    rfl
  · intro ys H1 z
    obtain ⟨rfl, rfl⟩ := (hPc _ _ _).mp z
    intro l hl'
    have := q l hl'
    rw [List.take_of_length_le (by rw [Dr.dm_length, List.length_tail]; simp only [List.length_map]; omega)]
    exact this
theorem comp_dm {K : PySem.W.Frag} {H : Hp} {a : Addr} {f : List Int} {rest : St} {Q : VK} (hS : SqL K H a (f.map V.int)) (hl : 0 < f.length ∧ f.length ≤ 60) (q : ∀ l, H l = none → Q (.ref l) (upd H l (.lst ((Dr.dm 1 f.tail).map V.int)))) :
    CompIt (Itr 1 ((((f.map V.int).length : Nat) : Int) - 1).toNat) [0] (fun _ H Q => Q true H) (tOp (rI IntMulOk fun i j => V.int (i * j)) (tVar 0) (tOp (rIxL K) (tVar 1) (tVar 0))) (some (.ref a) :: rest) H Q := comp_dmI hS hl rfl q
theorem slope_b {f : List Int} {m : Nat} (hl : 0 < f.length ∧ f.length ≤ 60) (hf : Dr.PolyB f m) : Dr.PolyB (Dr.pslope f) (m + 6) := by
  intro d hd
  match f, hl with
  | [x], _ =>
    rw [List.mem_singleton.mp hd]
    exact Dr.Sm.zero _
  | x :: y :: f, hl =>
    have hd' : d ∈ Dr.dm 1 (y :: f) := hd
    obtain ⟨i, hi⟩ := List.getElem?_of_mem hd'
    have hi2 : i < (y :: f).length := by
      have := (List.getElem?_eq_some_iff.mp hi).1
      rw [Dr.dm_length] at this
      exact this
    have e0 : (y :: f)[i]? = some (y :: f)[i] := List.getElem?_eq_getElem hi2
    rw [Dr.dm_get (y :: f) 1 i _ e0] at hi
    rw [← Option.some.inj hi]
    have h1 : Dr.Sm (1 + (i : Int)) 6 := sm_of 60 (by simp only [List.length_cons] at hl hi2; omega) (by decide)
    have h2 := h1.mul (hf _ (List.mem_cons_of_mem _ (List.mem_of_getElem? e0)))
    exact h2.mono (by omega)
def sp_slope_of (K : PySem.W.Frag) : Sp := fun vs H Q _ => ∃ (a : Addr) (f : List Int) (m : Nat), vs = [.ref a] ∧ SqL K H a (f.map V.int) ∧ (0 < f.length ∧ f.length ≤ 60) ∧ Dr.PolyB f m ∧ m ≤ 1000000 ∧
  ∀ (c : Addr) (H' : Hp), Dr.PolyB (Dr.pslope f) (m + 6) → H c = none → Same H H' → H' c = some (.lst ((Dr.pslope f).map V.int)) → Q (.ref c) H'
theorem ok_slope_of (B : Bi mg K w) (F : Fun K "slope_of" "slope_of" s_slope_of f fd) : FnOk P w K mg base CX0 1 f fd ["f"] (sp_slope_of K) := by
  refine F.ok S_slope_of (fun vs H Q E h => ?_) (fun cdv A outer s H vs Q E hr h => ?_)
  · obtain ⟨a, f, m, rfl, _⟩ := h
    rfl
  obtain ⟨a, f, m, rfl, hS, hl, hf, hm, q⟩ := h
  have S := S_slope_of
  refine ⟨_, ((pss_cons (ps_if (pt_cmpR op_eq (pe_callB call_len_seq rfl B.b_len PySem.boot_len (pa_cons (pv 0) pa_nil)) pe_int (nomark _)) (pss_one (ps_ret (pe_lst (pa_cons pe_int pa_nil)))) pss_nil)
    (pss_one (ps_ret (pe_comp [0] ["f"] rfl rfl ⟨rfl, trivial⟩ ⟨rfl, rfl, rfl, rfl, trivial⟩ rfl rfl (by decide) (by decide) rfl rfl (by decide) (pi_range2 rfl B.b_range (pa_cons pe_int (pa_cons (pe_callB call_len_seq rfl B.b_len PySem.boot_len (pa_cons (pv 0) pa_nil)) pa_nil))) (fun _ _ _ _ => pts_nil) (fun _ _ _ _ => (pe_op op_mulW (pv 0) (pe_ix (ix_listK (K := K) rfl) (pv 1) (pv 0) (fun _ _ => rfl))))))))), ?_⟩
  try walk_at "dr1"
  refine ⟨_, .inl hS, ?_⟩
  simp only [List.length_map]
  refine ite2 (fun c => ?_) (fun c => ?_)
  · refine ⟨by decide, ?_⟩
    intro l n_l; generalize e_l : upd _ l _ = H1; obtain ⟨g1, k1⟩ := newH e_l n_l; clear e_l
    obtain ⟨x, rfl⟩ : ∃ x, f = [x] := List.length_eq_one_iff.mp (by omega)
    exact q l H1 (fun c hc => by rw [List.mem_singleton.mp hc]; exact Dr.Sm.zero _) n_l g1 k1
  · refine ⟨_, .inl hS, by decide, by decide, by simp only [List.length_map]; omega, by simp only [List.length_map]; omega, ?_⟩
    refine comp_dm hS hl ?_
    intro l n_l; generalize e_l : upd _ l _ = H1; obtain ⟨g1, k1⟩ := newH e_l n_l; clear e_l
    have es : Dr.dm 1 f.tail = Dr.pslope f := by
      match f, hl with
      | [x], _ => exact absurd rfl c
      | x :: y :: g, _ => rfl
    rw [es] at k1
    exact q l H1 (slope_b hl hf) n_l g1 k1
def sp_seen_from (K : PySem.W.Frag) : Sp := fun vs H Q _ => ∃ (p : Int) (b : Addr) (f : List Int) (a e : Int) (m n : Nat), vs = [.int p, .ref b, .int a, .int e] ∧ SqL K H b (f.map V.int) ∧ (0 < f.length ∧ f.length ≤ 60) ∧ (2 ≤ p ∧ p < 1000) ∧ (0 ≤ e ∧ e < 1000) ∧ Dr.PolyB f m ∧ Dr.Sm a n ∧ (10 * e.toNat + 1 ≤ n ∧ n ≤ 15000 ∧ m ≤ 50000) ∧
  ∀ (c : Addr) (s : List Int) (H' : Hp), Dr.IsSeen f a (p ^ e.toNat) s → Dr.PolyB s (m + f.length * (n + 13)) → H c = none → Same H H' → H' c = some (.lst (s.map V.int)) → Q (.ref c) H'
theorem drop_init {f : List Int} (h : 0 < f.length) {i : Nat} {c : Int} (hc : f.dropLast.reverse[i]? = some c) : f.drop (f.length - 1 - (i + 1)) = c :: f.drop (f.length - 1 - i) := by
  have hi : i < f.dropLast.length := by
    have := (List.getElem?_eq_some_iff.mp hc).1
    simpa using this
  have hi' : i < f.length - 1 := by simpa using hi
  rw [List.getElem?_reverse hi, List.length_dropLast] at hc
  have h2 : f.length - 1 - (i + 1) < f.length := by omega
  rw [List.drop_eq_getElem_cons h2, show f.length - 1 - (i + 1) + 1 = f.length - 1 - i by omega]
  congr 1
  have h3 : f.length - 1 - 1 - i = f.length - 1 - (i + 1) := by omega
  rw [h3, List.getElem?_dropLast, if_pos (by omega), List.getElem?_eq_getElem h2] at hc
  exact Option.some.inj hc
theorem ok_seen_from (B : Bi mg K w) (d_power_of : Def P w K mg base "power_of" 1 ["p", "e"] (sp_power_of K)) (d_poly_product : Def P w K mg base "poly_product" 1 ["f", "g"] (sp_poly_product K)) (F : Fun K "seen_from" "seen_from" s_seen_from f fd) : FnOk P w K mg base CX0 2 f fd ["p", "f", "a", "e"] (sp_seen_from K) := by
  refine F.ok S_seen_from (fun vs H Q E h => ?_) (fun cdv A outer s H vs Q E hr h => ?_)
  · obtain ⟨p, b, f, a, e, m, n, rfl, _⟩ := h
    rfl
  obtain ⟨p, b, f, a, e, m, n, rfl, hS, hl, hp, he, hf, ha, hmn, q⟩ := h
  have S := S_seen_from
  refine ⟨_, ((pss_cons (ps_set (i := 4) S.nd rfl (Or.inl rfl) (pe_lst (pa_cons (pv 2) (pa_cons (pe_def d_power_of hr rfl (pa_cons (pv 0) (pa_cons (pv 3) pa_nil))) pa_nil))))
    (pss_cons (ps_set (i := 5) S.nd rfl (Or.inl rfl) (pe_lst (pa_cons (pe_ix ix_list (pv 1) (pe_un un_neg pe_int) (fun _ _ => rfl)) pa_nil)))
    (pss_cons (ps_for PassesOwn.never rfl (pi_rev rfl B.b_reversed (pe_slice sl_list (pv 1) po_none (po_some (pe_un un_neg pe_int)))) (pg_name (i := 6) S.nd rfl (Or.inl rfl)) (pss_cons (ps_set (i := 5) S.nd rfl (Or.inl rfl) (pe_def d_poly_product hr rfl (pa_cons (pv 5) (pa_cons (pv 4) pa_nil))))
    (pss_one (ps_augS (pv 5) pe_int get_list (pv 6) ip_add set_list))))
    (pss_one (ps_ret (pv 5))))))), ?_⟩
  have bp : Dr.Sm (p ^ e.toNat) n := (show Dr.Sm (p ^ e.toNat) (10 * e.toNat + 1) from pow_bits hp e.toNat).mono hmn.1
  have bps : Dr.PolyB [a, p ^ e.toNat] n := fun c hc => by
    rcases List.mem_cons.mp hc with w | w
    · rw [w]; exact ha
    · rw [List.mem_singleton.mp w]; exact bp
  (try dsimp only); (first | refine seqI ?_ | skip); try walk_at "dr2"; (try simp only [sp_power_of, sp_poly_product]); try walk_at "dr2"
  refine ⟨hp.1, hp.2, by omega, by omega, by decide, ?_⟩
  intro l1 n_l1; generalize e_l1 : upd _ l1 _ = H1; obtain ⟨g1, k1⟩ := newH e_l1 n_l1; clear e_l1
  have k1 : H1 l1 = some (.lst ([a, p ^ e.toNat].map V.int)) := k1
  obtain ⟨x0, hx0⟩ : ∃ x0, f.getLast? = some x0 := ⟨f.getLast (List.ne_nil_of_length_pos hl.1), List.getLast?_eq_some_getLast _⟩
  (try dsimp only); (first | refine seqI ?_ | skip); try walk_at "dr2"; (try simp only [sp_power_of, sp_poly_product]); try walk_at "dr2"
  refine ⟨_, g1.seq hS, _, atI_back hx0, by decide, ?_⟩
  intro l2 n_l2; generalize e_l2 : upd _ l2 _ = H2; obtain ⟨g2, k2⟩ := newH e_l2 n_l2; clear e_l2
  have k2 : H2 l2 = some (.lst ([x0].map V.int)) := k2
  (try dsimp only); (first | refine seqI ?_ | skip); try walk_at "dr2"; (try simp only [sp_power_of, sp_poly_product]); try walk_at "dr2"
  refine ⟨_, (g1.trans g2).seq hS, ?_⟩
  intro l3 n_l3; generalize e_l3 : upd _ l3 _ = H3; obtain ⟨g3, k3⟩ := newH e_l3 n_l3; clear e_l3
  rw [cut_init] at k3
  refine ⟨_, SqL.of k3, ?_⟩
  have G3 := g1.trans (g2.trans g3)
  have ed : f.drop (f.length - 1) = [x0] := by
    have h2 : f.length - 1 < f.length := by omega
    rw [List.drop_eq_getElem_cons h2, show f.length - 1 + 1 = f.length by omega, List.drop_length]
    rw [List.getLast?_eq_getElem?, List.getElem?_eq_getElem h2] at hx0
    rw [Option.some.inj hx0]
  obtain ⟨Pv, hPv⟩ : ∃ Pv : Nat → St → Hp → Prop, ∀ i σ H4, Pv i σ H4 ↔ (Same H3 H4 ∧ ∃ (c : Addr) (s : List Int) (t6 : Option V), H c = none ∧ H4 c = some (.lst (s.map V.int)) ∧ s.length = i + 1 ∧ Dr.PolyB s (m + i * (n + 13)) ∧ (∀ y, Dr.pev s y = Dr.pev (f.drop (f.length - 1 - i)) (a + p ^ e.toNat * y)) ∧ σ = [some (.int p), some (.ref b), some (.int a), some (.int e), some (.ref l1), some (.ref c), t6]) := ⟨_, fun _ _ _ => Iff.rfl⟩
  refine forV f.dropLast Pv (by rw [List.length_map]) ((hPv _ _ _).mpr ⟨Same.refl _, l2, [x0], none, g1.free n_l2, g3 _ _ k2, rfl, fun c hc => ?_, fun y => by rw [Nat.sub_zero, ed]; simp [Dr.pev], rfl⟩) (fun i σ H4 z => by obtain ⟨g, _⟩ := (hPv _ _ _).mp z; exact SqL.of (g _ _ k3)) ?_ ?_
  · rw [List.mem_singleton.mp hc]
    exact (hf x0 (List.mem_of_getLast? hx0)).mono (by omega)
  · intro i c σ H4 hc z
    obtain ⟨g4, lc, s, t6, nc, kc, hsl, hsb, hse, rfl⟩ := (hPv _ _ _).mp z
    have hi : i < f.length - 1 := by
      have := (List.getElem?_eq_some_iff.mp hc).1
      simpa using this
    have hib : i * (n + 13) ≤ 60 * 15013 := Nat.mul_le_mul (by omega) (by omega)
    (try dsimp only); (first | refine seqI ?_ | skip); try walk_at "dr2"; (try simp only [sp_power_of, sp_poly_product]); try walk_at "dr2"
    refine ⟨s, SqL.of kc, [a, p ^ e.toNat], SqL.of (g4 _ _ (g3 _ _ (g2 _ _ k1))), by omega, by omega, by simp, by simp, _, hsb, n, bps, by omega, by omega, fun lr r H5 hr hrb nr g5 kr => ?_⟩
    have hrl := hr.len
    simp only [List.length_cons, List.length_nil] at hrl
    obtain ⟨v, e1, _, e3, e4⟩ := get_int (fs := r) (k := 0) (by omega) (by omega)
    try walk_at "dr1"; (try simp only [sp_power_of, sp_poly_product]); try walk_at "dr1"
    refine ⟨_, SqL.of kr, _, e4, v, rfl, _, kr, _, e3, ?_⟩
    rw [set_int]
    have e0 : Int.toNat 0 = 0 := rfl
    rw [e0] at e1 ⊢
    have n3 := g4.free nr
    have hs1 : (i + 1) * (n + 13) = i * (n + 13) + (n + 13) := Nat.succ_mul ..
    refine (hPv _ _ _).mpr ⟨(g4.trans g5).up n3 _, lr, _, _, G3.free n3, upd_same, by rw [List.length_set]; omega, fun d hd => ?_, fun y => ?_, rfl⟩
    · rcases mem_set hd with w | w
      · exact (hrb d w).mono (by omega)
      · rw [w]
        exact ((hrb v (List.mem_of_getElem? e1)).add (hf c (List.dropLast_subset _ (List.mem_reverse.mp (List.mem_of_getElem? hc))))).mono (by omega)
    · rw [Dr.pev_set y c r 0 v e1, hr.ev, hse, drop_init hl.1 hc]
      simp only [Dr.pev, Int.pow_zero]
      generalize Dr.pev (List.drop (f.length - 1 - i) f) (a + p ^ e.toNat * y) = X
      generalize p ^ e.toNat = q
      grind
  · intro σ H4 z
    obtain ⟨g4, lc, s, t6, nc, kc, hsl, hsb, hse, rfl⟩ := (hPv _ _ _).mp z
    rw [List.length_dropLast] at hsl hsb hse
    try walk_at "dr1"; (try simp only [sp_power_of, sp_poly_product]); try walk_at "dr1"
    refine q lc s H4 ⟨by omega, fun y => ?_⟩ (fun c hc => (hsb c hc).mono ?_) nc (G3.trans g4) kc
    · rw [hse, Nat.sub_self, List.drop_zero]
    · exact Nat.add_le_add_left (Nat.mul_le_mul_right _ (by omega)) _
theorem str_big {x : Int} (h : x.natAbs < 10 ^ 190) : (Str.ofString (toString x)).length ≤ 191 := by
  rw [ofString_length]
  exact int_text_length_le10 (by decide) h
theorem log_big {x : Int} (h : x.natAbs < 10 ^ 190) : x.natAbs.log2 < 1920 := by
  by_cases z : x.natAbs = 0
  · rw [z]; decide
  · exact (Nat.log2_lt z).mpr (Nat.lt_of_lt_of_le h (by decide +kernel))
theorem texts_big : ∀ (ms : List Int), (∀ x, x ∈ ms → x.natAbs < 10 ^ 190) → ((ms.map fun x => Str.ofString (toString x)).map (·.length)).sum ≤ 191 * ms.length
  | [], _ => Nat.le_refl _
  | x :: ms, h => by
    have ih := texts_big ms fun y hy => h y (.tail _ hy)
    have hx := str_big (h x (.head _))
    simp only [List.map_cons, List.sum_cons, List.length_cons]
    omega
theorem join_big {ms : List Int} (hl : ms.length ≤ 14) (h : ∀ x, x ∈ ms → x.natAbs < 10 ^ 190) : JoinOk (Str.ofString ",") (ms.map fun x => Str.ofString (toString x)) = true := by
  have := texts_big ms h
  refine PyProof.Rows.joinOk_of ?_
  rw [Tx.comma, List.length_map]
  omega
theorem shown_len {ms : List Int} (hl : ms.length ≤ 14) (h : ∀ x, x ∈ ms → x.natAbs < 10 ^ 190) : (Tx.shown ms).length ≤ 2688 := by
  have h1 := texts_big ms h
  have h2 := StrLaws.join_length_le (Str.ofString ",") (ms.map fun x => Str.ofString (toString x))
  rw [Tx.comma, List.length_map] at h2
  unfold Tx.shown
  rw [Tx.join_eq]
  have e : (ms.map Tx.tx) = ms.map fun x => Str.ofString (toString x) := rfl
  rw [e]
  omega
def sp_show_poly (K : PySem.W.Frag) : Sp := fun vs H Q _ => ∃ (a : Addr) (ms : List Int), vs = [.ref a] ∧ SqL K H a (ms.map V.int) ∧ ms.length ≤ 14 ∧ (∀ x, x ∈ ms → x.natAbs < 10 ^ 190) ∧ ∀ H', Same H H' → Q (.str (Tx.shown ms)) H'
theorem ok_show_poly (B : Bi mg K w) (F : Fun K "show_poly" "show_poly" s_show_poly f fd) : FnOk P w K mg base CX0 1 f fd ["f"] (sp_show_poly K) := by
  refine F.ok S_show_poly (fun vs H Q E h => ?_) (fun cdv A outer s H vs Q E hr h => ?_)
  · obtain ⟨a, ms, rfl, _⟩ := h
    rfl
  obtain ⟨a, ms, rfl, hS, hl, hb, q⟩ := h
  have S := S_show_poly
  refine ⟨_, ((pss_one (ps_ret (pe_bm PySem.F.plainAttrs_str PySem.F.slot_str_join PySem.F.type_str_join mt_join pe_str (pa_cons (pe_comp [] [] rfl rfl trivial trivial rfl rfl (by decide) (by decide) rfl rfl (by decide) (pi_list (pv 0)) (fun _ _ _ _ => pts_nil) (fun _ _ _ _ => (pe_callTy call_str_int rfl B.b_str L2.bt_str (pa_cons (pv 0) pa_nil)))) pa_nil))))), ?_⟩
  (first | refine hX _ _ ?_ | skip); (try dsimp only); try walk_at "dr1"
  refine ⟨rfl, ⟨_, hS⟩, ?_⟩
  obtain ⟨Pv, hPv⟩ : ∃ Pv : Nat → List V → Hp → Prop, ∀ i ys H', Pv i ys H' ↔ (H' = H ∧ ys = (((ms.take i).map fun x => Str.ofString (toString x)).map V.str)) := ⟨_, fun _ _ _ => Iff.rfl⟩
  (first | refine hX _ _ ?_ | skip); refine compI ms Pv (Nat.le_trans hl (by decide)) ((hPv _ _ _).mpr ⟨rfl, rfl⟩) (fun i ys H2 p => ?_) (fun i x ys H2 hx p => ?_) (fun ys H2 p l n_l => ?_)
  · obtain ⟨rfl, _⟩ := (hPv _ _ _).mp p
    exact hS
  · obtain ⟨rfl, rfl⟩ := (hPv _ _ _).mp p
    (first | refine hX _ _ ?_ | skip); (try dsimp only); try walk_at "dr1"
    refine ⟨log_big (hb x (List.mem_of_getElem? hx)), (hPv _ _ _).mpr ⟨rfl, ?_⟩⟩
    rw [take_next hx, List.map_append, List.map_append]
    rfl
  · obtain ⟨rfl, rfl⟩ := (hPv _ _ _).mp p
    rw [List.take_length]
    exact ⟨_, l, _, rfl, rfl, SqL.of upd_same, join_big hl hb, q _ (newS n_l)⟩
inductive Rl (kvs : List (Key × V)) (H H' : Hp) : List Kd → List Str → List V → Prop
  | nil : Rl kvs H H' [] [] []
  | cons {k : Kd} {z : Str} {v : V} {ks : List Kd} {zs : List Str} {vs : List V} : Rs kvs H H' k z v → Rl kvs H H' ks zs vs → Rl kvs H H' (k :: ks) (z :: zs) (v :: vs)
theorem Rl.same {kvs : List (Key × V)} {H H' H2 : Hp} {ks : List Kd} {zs : List Str} {vs : List V} (h : Rl kvs H H' ks zs vs) (g : Same H' H2) : Rl kvs H H2 ks zs vs := by
  induction h with
  | nil => exact .nil
  | cons r _ ih => exact .cons (r.same (Same.refl _) g) ih
theorem Rl.snoc {kvs : List (Key × V)} {H H' : Hp} {ks : List Kd} {zs : List Str} {vs : List V} {k : Kd} {z : Str} {v : V} (h : Rl kvs H H' ks zs vs) (r : Rs kvs H H' k z v) : Rl kvs H H' (ks ++ [k]) (zs ++ [z]) (vs ++ [v]) := by
  induction h with
  | nil => exact .cons r .nil
  | cons r' _ ih => exact .cons r' ih
inductive WdL (kvs : List (Key × V)) : List Kd → List Str → Prop
  | nil : WdL kvs [] []
  | cons {k : Kd} {z : Str} {ks : List Kd} {zs : List Str} : Wd kvs k z → WdL kvs ks zs → WdL kvs (k :: ks) (z :: zs)
theorem WdL.len {kvs : List (Key × V)} {ks : List Kd} {zs : List Str} (h : WdL kvs ks zs) : ks.length = zs.length := by
  induction h with
  | nil => rfl
  | cons _ _ ih => simp [ih]
theorem WdL.at {kvs : List (Key × V)} {ks : List Kd} {zs : List Str} (h : WdL kvs ks zs) {i : Nat} {k : Kd} {z : Str} (e1 : ks[i]? = some k) (e2 : zs[i]? = some z) : Wd kvs k z := by
  induction h generalizing i with
  | nil => cases e1
  | cons w _ ih =>
    cases i with
    | zero => cases e1; cases e2; exact w
    | succ i => exact ih e1 e2
theorem tx_val {x : Int} (h : x.natAbs < 10 ^ 60) : Tx.valOf (Tx.tx x).cps.toList = x := (Tx.tx_wr h).2
theorem small_val {x : Int} (h : 0 ≤ x ∧ x ≤ 60) : x.natAbs < 10 ^ 60 := Nat.lt_of_le_of_lt (show x.natAbs ≤ 60 by omega) (by decide +kernel)
theorem wd_depth {kvs : List (Key × V)} {N : Int} (h : 0 ≤ N ∧ N ≤ 60) : Wd kvs .depth (Tx.tx N) := .depth (Tx.tx_wr (small_val h)).1 (by rw [tx_val (small_val h)]; exact h)
theorem wd_number {kvs : List (Key × V)} {x : Int} (h : x.natAbs < 10 ^ 60) : Wd kvs .number (Tx.tx x) := .number (Tx.tx_wr h).1
theorem wd_poly {kvs : List (Key × V)} {f : List Int} (h0 : f ≠ []) (hf : f.length ≤ 13) (hb : ∀ x, x ∈ f → x.natAbs < 10 ^ 60) : Wd kvs .poly (Tx.shown f) := .poly (by
  have := Tx.join_len (ms := f) (by omega) hb
  exact Nat.le_trans this (by decide)) (Tx.shown_poly h0 hf hb)
theorem Rl.inv {kvs : List (Key × V)} {H H' : Hp} {k : Kd} {z : Str} {ks : List Kd} {zs : List Str} {vs : List V} (h : Rl kvs H H' (k :: ks) (z :: zs) vs) : ∃ v vs', vs = v :: vs' ∧ Rs kvs H H' k z v ∧ Rl kvs H H' ks zs vs' := by
  cases h with
  | cons r t => exact ⟨_, _, rfl, r, t⟩
theorem Rl.inv0 {kvs : List (Key × V)} {H H' : Hp} {vs : List V} (h : Rl kvs H H' [] [] vs) : vs = [] := by
  cases h
  rfl
theorem Rs.new_inv {kvs : List (Key × V)} {H H' : Hp} {z : Str} {v : V} (h : Rs kvs H H' .new z v) : v = .str z := by
  cases h
  rfl
theorem Rs.name_inv {kvs : List (Key × V)} {H H' : Hp} {z : Str} {v : V} (h : Rs kvs H H' .name z v) : valV kvs (Sum.inr z) = some v := by
  cases h with
  | name e => exact e
theorem Rs.poly_inv {kvs : List (Key × V)} {H H' : Hp} {z : Str} {v : V} (h : Rs kvs H H' .poly z v) : ∃ ms c, v = .ref c ∧ Tx.poly z = some ms ∧ H c = none ∧ H' c = some (.lst (ms.map V.int)) := by
  cases h with
  | poly e n k => exact ⟨_, _, rfl, e, n, k⟩
theorem Rs.depth_inv {kvs : List (Key × V)} {H H' : Hp} {N : Int} {v : V} (h : Rs kvs H H' .depth (Tx.tx N) v) (hN : 0 ≤ N ∧ N ≤ 60) : v = .int N := by
  cases h
  rw [tx_val (small_val hN)]
theorem Rs.number_inv {kvs : List (Key × V)} {H H' : Hp} {x : Int} {v : V} (h : Rs kvs H H' .number (Tx.tx x) v) (hx : x.natAbs < 10 ^ 60) : v = .int x := by
  cases h
  rw [tx_val hx]
def sp_made_times (K : PySem.W.Frag) : Sp := fun vs H Q E => ∃ (p : Int) (t b c : Addr) (x : V) (f g : List Int) (m : Nat), vs = [.int p, .ref t] ∧ SqL K H t [x, .ref b, .ref c] ∧ SqL K H b (f.map V.int) ∧ SqL K H c (g.map V.int) ∧ (0 < f.length ∧ f.length ≤ 60 ∧ 0 < g.length ∧ g.length ≤ 60) ∧ Dr.PolyB f m ∧ Dr.PolyB g m ∧ m ≤ 100000 ∧
  (14 < f.length + g.length → ∀ H', Same H H' → E (.ref (clK K "TooGreat")) none H') ∧ (f.length + g.length ≤ 14 → ∀ (l : Addr) (r : List Int) (H' : Hp), Dr.IsProd f g r → H l = none → Same H H' → H' l = some (.lst (r.map V.int)) → Q (.ref l) H')
theorem ok_made_times (B : Bi mg K w) (d_poly_product : Def P w K mg base "poly_product" 1 ["f", "g"] (sp_poly_product K)) (F : Fun K "made_times" "made_times" s_made_times f fd) : FnOk P w K mg base (CXE P w) 2 f fd ["p", "things"] (sp_made_times K) := by
  refine F.okE S_made_times (fun vs H Q E h => ?_) (fun cdv A outer s H vs Q E hr h => ?_)
  · obtain ⟨p, t, b, c, x, f, g, m, rfl, _⟩ := h
    rfl
  obtain ⟨p, t, b, c, x, f, g, m, rfl, hT, hb, hc, hl, pf, pg, hm, qE, q⟩ := h
  have S := S_made_times
  obtain ⟨t1, g_MOST_NUMBERS⟩ := B.g_MOST_NUMBERS
  refine ⟨_, ((pss_cons (ps_if (pt_cmpR op_gt (pe_op op_sub (pe_op op_add (pe_callB call_len_seq rfl B.b_len PySem.boot_len (pa_cons (pe_ix ix_list (pv 1) pe_int (fun _ _ => rfl)) pa_nil)) (pe_callB call_len_seq rfl B.b_len PySem.boot_len (pa_cons (pe_ix ix_list (pv 1) pe_int (fun _ _ => rfl)) pa_nil))) pe_int) (pe_glob (v := .int 13) rfl g_MOST_NUMBERS ⟨_, rfl⟩) (nomark _)) (pss_one (ps_raise thrE rfl rfl B.c_TooGreat B.x_TooGreat (pa_cons pe_str pa_nil))) pss_nil)
    (pss_one (ps_ret (pe_def d_poly_product hr rfl (pa_cons (pe_ix ix_list (pv 1) pe_int (fun _ _ => rfl)) (pa_cons (pe_ix ix_list (pv 1) pe_int (fun _ _ => rfl)) pa_nil))))))), ?_⟩
  (try dsimp only); (first | refine hX _ _ ?_ | skip); (try dsimp only); (first | refine seqX (fun X hX => ?_) | skip); try walk_at "dr2"; (try simp only [sp_poly_product]); try walk_at "dr2"
  refine ⟨_, hT, _, atI_nat (j := 1) rfl, _, rfl, _, .inl hb, _, hT, _, atI_nat (j := 2) rfl, _, rfl, _, .inl hc, ?_⟩
  simp only [List.length_map]
  refine ite2 (fun z => ?_) (fun z => ?_)
  · exact ⟨by decide, qE (by omega) _ (Same.refl _)⟩
  · (try dsimp only); (first | refine hX _ _ ?_ | skip); (try dsimp only); (first | refine seqX (fun X hX => ?_) | skip); try walk_at "dr2"; (try simp only [sp_poly_product]); try walk_at "dr2"
    exact ⟨_, hT, _, atI_nat (j := 1) rfl, _, hT, _, atI_nat (j := 2) rfl, b, rfl, c, rfl, f, hb, g, hc, hl.1, hl.2.1, hl.2.2.1, hl.2.2.2, m, pf, m, pg, by omega, by omega, fun l r H' h1 _ h3 h4 h5 => q (by omega) l r H' h1 h3 h4 h5⟩
def sp_made_seen (K : PySem.W.Frag) : Sp := fun vs H Q _ => ∃ (p : Int) (t b : Addr) (x : V) (f : List Int) (a e : Int) (m n : Nat), vs = [.int p, .ref t] ∧ SqL K H t [x, .ref b, .int a, .int e] ∧ SqL K H b (f.map V.int) ∧ (0 < f.length ∧ f.length ≤ 60) ∧ (2 ≤ p ∧ p < 1000) ∧ (0 ≤ e ∧ e < 1000) ∧ Dr.PolyB f m ∧ Dr.Sm a n ∧ (10 * e.toNat + 1 ≤ n ∧ n ≤ 15000 ∧ m ≤ 50000) ∧
  ∀ (c : Addr) (s : List Int) (H' : Hp), Dr.IsSeen f a (p ^ e.toNat) s → H c = none → Same H H' → H' c = some (.lst (s.map V.int)) → Q (.ref c) H'
theorem ok_made_seen (B : Bi mg K w) (d_seen_from : Def P w K mg base "seen_from" 2 ["p", "f", "a", "e"] (sp_seen_from K)) (F : Fun K "made_seen" "made_seen" s_made_seen f fd) : FnOk P w K mg base (CXE P w) 3 f fd ["p", "things"] (sp_made_seen K) := by
  refine F.okE S_made_seen (fun vs H Q E h => ?_) (fun cdv A outer s H vs Q E hr h => ?_)
  · obtain ⟨p, t, b, x, f, a, e, m, n, rfl, _⟩ := h
    rfl
  obtain ⟨p, t, b, x, f, a, e, m, n, rfl, hT, hS, hl, hp, he, hf, ha, hmn, q⟩ := h
  have S := S_made_seen
  refine ⟨_, ((pss_one (ps_ret (pe_def d_seen_from hr rfl (pa_cons (pv 0) (pa_cons (pe_ix ix_list (pv 1) pe_int (fun _ _ => rfl)) (pa_cons (pe_ix ix_list (pv 1) pe_int (fun _ _ => rfl)) (pa_cons (pe_ix ix_list (pv 1) pe_int (fun _ _ => rfl)) pa_nil)))))))), ?_⟩
  (first | refine hX _ _ ?_ | skip); (try dsimp only); try walk_at "dr1"; (try simp only [sp_seen_from]); try walk_at "dr1"
  exact ⟨_, hT, _, atI_nat (j := 1) rfl, _, hT, _, atI_nat (j := 2) rfl, _, hT, _, atI_nat (j := 3) rfl, b, rfl, f, a, rfl, e, rfl, hS, hl.1, hl.2, hp.1, hp.2, he.1, he.2, m, hf, n, ha, hmn.1, hmn.2.1, hmn.2.2, fun c s H' h1 _ h3 h4 h5 => q c s H' h1 h3 h4 h5⟩
def sp_made_slope (K : PySem.W.Frag) : Sp := fun vs H Q _ => ∃ (p : Int) (t b : Addr) (x : V) (f : List Int) (m : Nat), vs = [.int p, .ref t] ∧ SqL K H t [x, .ref b] ∧ SqL K H b (f.map V.int) ∧ (0 < f.length ∧ f.length ≤ 60) ∧ Dr.PolyB f m ∧ m ≤ 1000000 ∧
  ∀ (l : Addr) (H' : Hp), H l = none → Same H H' → H' l = some (.lst ((Dr.pslope f).map V.int)) → Q (.ref l) H'
theorem ok_made_slope (B : Bi mg K w) (d_slope_of : Def P w K mg base "slope_of" 1 ["f"] (sp_slope_of K)) (F : Fun K "made_slope" "made_slope" s_made_slope f fd) : FnOk P w K mg base (CXE P w) 2 f fd ["p", "things"] (sp_made_slope K) := by
  refine F.okE S_made_slope (fun vs H Q E h => ?_) (fun cdv A outer s H vs Q E hr h => ?_)
  · obtain ⟨p, t, b, x, f, m, rfl, _⟩ := h
    rfl
  obtain ⟨p, t, b, x, f, m, rfl, hT, hb, hl, pf, hm, q⟩ := h
  have S := S_made_slope
  refine ⟨_, ((pss_one (ps_ret (pe_def d_slope_of hr rfl (pa_cons (pe_ix ix_list (pv 1) pe_int (fun _ _ => rfl)) pa_nil))))), ?_⟩
  (first | refine hX _ _ ?_ | skip); (try dsimp only); try walk_at "dr1"; (try simp only [sp_slope_of]); try walk_at "dr1"
  exact ⟨_, hT, _, atI_nat (j := 1) rfl, b, rfl, f, hb, hl.1, hl.2, m, pf, hm, fun l H' _ h3 h4 h5 => q l H' h3 h4 h5⟩
def sp_told_show (K : PySem.W.Frag) : Sp := fun vs H Q _ => ∃ (p : Int) (t b : Addr) (f : List Int), vs = [.int p, .ref t] ∧ SqL K H t [.ref b] ∧ SqL K H b (f.map V.int) ∧ f.length ≤ 14 ∧ (∀ x, x ∈ f → x.natAbs < 10 ^ 190) ∧ ∀ H', Same H H' → Q (.str (Tx.shown f)) H'
theorem ok_told_show (B : Bi mg K w) (d_show_poly : Def P w K mg base "show_poly" 1 ["f"] (sp_show_poly K)) (F : Fun K "told_show" "told_show" s_told_show f fd) : FnOk P w K mg base CX0 2 f fd ["p", "things"] (sp_told_show K) := by
  refine F.ok S_told_show (fun vs H Q E h => ?_) (fun cdv A outer s H vs Q E hr h => ?_)
  · obtain ⟨p, t, b, f, rfl, _⟩ := h
    rfl
  obtain ⟨p, t, b, f, rfl, hT, hb, hl, hx, q⟩ := h
  have S := S_told_show
  refine ⟨_, ((pss_one (ps_ret (pe_def d_show_poly hr rfl (pa_cons (pe_ix ix_list (pv 1) pe_int (fun _ _ => rfl)) pa_nil))))), ?_⟩
  (first | refine hX _ _ ?_ | skip); (try dsimp only); try walk_at "dr1"; (try simp only [sp_show_poly]); try walk_at "dr1"
  exact ⟨_, hT, _, atI_nat (j := 0) rfl, b, rfl, f, hb, hl, hx, q⟩
theorem sum_len {n : Nat} : ∀ {ts : List Str}, (∀ t, t ∈ ts → t.length ≤ n) → (ts.map (·.length)).sum ≤ n * ts.length
  | [], _ => Nat.zero_le _
  | t :: ts, h => by
    have h1 := h t (.head _)
    have h2 := sum_len (ts := ts) fun u hu => h u (.tail _ hu)
    simp only [List.map_cons, List.sum_cons, List.length_cons, Nat.mul_succ]
    omega
theorem sp_len1 : (Str.ofString " ").length = 1 := by decide +kernel
theorem join_space {ts : List Str} (hl : ts.length ≤ 64) (h : ∀ t, t ∈ ts → t.length ≤ 8) : JoinOk (Str.ofString " ") ts = true := by
  have := sum_len h
  refine PyProof.Rows.joinOk_of ?_
  rw [sp_len1]
  omega
def sp_listed (K : PySem.W.Frag) : Sp := fun vs H Q _ => ∃ (a : Addr) (ts : List Str), vs = [.ref a, .str ""] ∧ SqL K H a (ts.map V.str) ∧ (ts.length ≤ 64 ∧ ∀ t, t ∈ ts → t.length ≤ 8) ∧ Q (.str (Str.join (Str.ofString " ") ts)) H
theorem ok_listed (B : Bi mg K w) (F : Fun K "listed" "listed" s_listed f fd) : FnOk P w K mg base CX0 1 f fd ["texts", "without"] (sp_listed K) := by
  refine F.ok S_listed (fun vs H Q E h => ?_) (fun cdv A outer s H vs Q E hr h => ?_)
  · obtain ⟨a, ts, rfl, _⟩ := h
    rfl
  obtain ⟨a, ts, rfl, hS, hl, q⟩ := h
  have S := S_listed
  refine ⟨_, ((pss_cons (ps_if (pt_cmpR op_eq (pe_callB call_len_seq rfl B.b_len PySem.boot_len (pa_cons (pv 0) pa_nil)) pe_int (nomark _)) (pss_one (ps_ret (pv 1))) pss_nil)
    (pss_one (ps_ret (pe_bm PySem.F.plainAttrs_str PySem.F.slot_str_join PySem.F.type_str_join mt_join pe_str (pa_cons (pv 0) pa_nil)))))), ?_⟩
  (first | refine hX _ _ ?_ | skip); (try dsimp only); try walk_at "dr1"
  refine ⟨_, .inl hS, ?_⟩
  rw [List.length_map]
  cases ts with
  | nil =>
    rw [if_pos (by rfl)]
    exact q
  | cons t ts =>
    rw [if_neg (by simp; omega)]
    refine ⟨rfl, _, a, _, rfl, rfl, hS, join_space hl.1 hl.2, ?_⟩
    rw [Tx.join_eq]
    exact q
def Tab_MADE (K : PySem.W.Frag) : Addr → Sp → Prop := fun g sp => (g = 469 ∧ sp = sp_made_poly K) ∨ (g = 476 ∧ sp = sp_made_times K) ∨ (g = 483 ∧ sp = sp_made_seen K) ∨ (g = 490 ∧ sp = sp_made_slope K)
def Tab_TOLD (K : PySem.W.Frag) : Addr → Sp → Prop := fun g sp => g = 497 ∧ sp = sp_told_show K
inductive Row : Str → List Kd → Addr → Prop
  | poly : Row "poly" [.new, .poly] 420
  | times : Row "times" [.new, .name, .name] 421
  | seen : Row "seen" [.new, .name, .number, .depth] 422
  | slope : Row "slope" [.new, .name] 423
  | drop : Row "drop" [.name] 424
  | names : Row "names" [] 425
  | shw : Row "show" [.name] 426
theorem Row.at {mg : Str → Option Value} {K : PySem.W.Frag} {w : World} {dw : Str} {ks : List Kd} {a : Addr} (r : Row dw ks a) (B : Bi mg K w) : atK l_WANTED dw = some (.ref a) ∧ KTup K a (ks.map fun k => V.str k.txt) := by
  cases r with
  | poly => exact ⟨w_WANTED_poly, B.tu_420⟩
  | times => exact ⟨w_WANTED_times, B.tu_421⟩
  | seen => exact ⟨w_WANTED_seen, B.tu_422⟩
  | slope => exact ⟨w_WANTED_slope, B.tu_423⟩
  | drop => exact ⟨w_WANTED_drop, B.tu_424⟩
  | names => exact ⟨w_WANTED_names, B.tu_425⟩
  | shw => exact ⟨w_WANTED_show, B.tu_426⟩
theorem Row.free {dw : Str} {ks : List Kd} {a : Addr} (r : Row dw ks a) : 32 ∉ dw.cps.toList := by
  cases r <;> decide +kernel
theorem Row.short {dw : Str} {ks : List Kd} {a : Addr} (r : Row dw ks a) : ks.length ≤ 4 := by
  cases r <;> simp
inductive Rr (kvs : List (Key × V)) : List Kd → List Str → Option Str → Prop
  | nil : Rr kvs [] [] none
  | cons {k : Kd} {z : Str} {ks : List Kd} {zs : List Str} {r : Option Str} : Wd kvs k z → Rr kvs ks zs r → Rr kvs (k :: ks) (z :: zs) r
  | stop {k : Kd} {z C : Str} {ks : List Kd} {zs : List Str} : Bad kvs k z C → ks.length = zs.length → Rr kvs (k :: ks) (z :: zs) (some C)
theorem Rr.len {kvs : List (Key × V)} {ks : List Kd} {zs : List Str} {r : Option Str} (h : Rr kvs ks zs r) : ks.length = zs.length := by
  induction h with
  | nil => rfl
  | cons _ _ ih => simp [ih]
  | stop _ e => simp [e]
theorem Wd.not_bad {kvs : List (Key × V)} {k : Kd} {z C : Str} (h : Wd kvs k z) (b : Bad kvs k z C) : False := by
  cases b with
  | name _ e =>
    cases h with
    | name _ e' => rw [e] at e'; cases e'
theorem Rr.not {kvs : List (Key × V)} {ks : List Kd} {zs : List Str} {C : Str} (h : Rr kvs ks zs (some C)) : ¬ Rr kvs ks zs none := by
  generalize eo : some C = o at h
  induction h with
  | nil => cases eo
  | cons w _ ih => exact fun z => by cases z with | cons _ z => exact ih eo z
  | stop b _ => exact fun z => by cases z with | cons w _ => exact w.not_bad b
theorem drop_at {α : Type} {l : List α} {i : Nat} {x : α} (h : l[i]? = some x) : l.drop i = x :: l.drop (i + 1) := by
  obtain ⟨hi, e⟩ := List.getElem?_eq_some_iff.mp h
  rw [List.drop_eq_getElem_cons hi, e]
structure Stand (K : PySem.W.Frag) (H : Hp) (kvs : List (Key × V)) (x : Str) (b : Addr) (f : List Int) : Prop where
  nm : Nm x
  val : valV kvs (Sum.inr x) = some (.ref b)
  sq : SqL K H b (f.map V.int)
  len : 0 < f.length ∧ f.length ≤ 13
  small : ∀ x, x ∈ f → x.natAbs < 10 ^ 60
theorem sm60 {x : Int} (h : x.natAbs < 10 ^ 60) : Dr.Sm x 200 := Nat.lt_of_lt_of_le h (by decide +kernel)
theorem Stand.bits {K : PySem.W.Frag} {H : Hp} {kvs : List (Key × V)} {x : Str} {b : Addr} {f : List Int} (h : Stand K H kvs x b f) : Dr.PolyB f 200 := fun x hx => sm60 (h.small x hx)
theorem slope_len {f : List Int} (h : 0 < f.length) : (Dr.pslope f).length ≤ f.length := by
  match f, h with
  | [x], _ => exact Nat.le_refl _
  | x :: y :: g, _ =>
    show (Dr.dm 1 (y :: g)).length ≤ _
    rw [Dr.dm_length]
    exact Nat.le_succ _
def KeptAs (K : PySem.W.Frag) (H : Hp) (kd : Addr) (kvs : List (Key × V)) (Q : VK) (E : XK) (z : Str) (r : List Int) : Prop :=
  ((∀ x, x ∈ r → x.natAbs < 10 ^ 60) → ∀ l H1, Same H H1 → H l = none → H1 l = some (.lst (r.map V.int)) → Q (.str "ok") (upd H1 kd (.dK (putK kvs (Sum.inr z) (.ref l))))) ∧ ((¬ ∀ x, x ∈ r → x.natAbs < 10 ^ 60) → ∀ H1, Same H H1 → E (.ref (clK K "TooGreat")) none H1)
inductive Deed (K : PySem.W.Frag) (H : Hp) (kd : Addr) (p : Int) (kvs : List (Key × V)) (Q : VK) (E : XK) : Str → List Kd → Addr → List Str → Prop
  | no {dw : Str} {ks : List Kd} {a : Addr} {ws : List Str} {C : Str} : Row dw ks a → (∀ w, w ∈ ws → 32 ∉ w.cps.toList) → Rr kvs ks ws (some C) → (∀ H', Same H H' → E (.ref (clK K C)) none H') → Deed K H kd p kvs Q E dw ks a ws
  | poly {z : Str} {f : List Int} : Nm z → f ≠ [] → f.length ≤ 13 → (∀ x, x ∈ f → x.natAbs < 10 ^ 60) → KeptAs K H kd kvs Q E z f → Deed K H kd p kvs Q E "poly" [.new, .poly] 420 [z, Tx.shown f]
  | times {z x y : Str} {b c : Addr} {f g : List Int} : Nm z → Stand K H kvs x b f → Stand K H kvs y c g → (14 < f.length + g.length → ∀ H', Same H H' → E (.ref (clK K "TooGreat")) none H') → (f.length + g.length ≤ 14 → ∀ r, Dr.IsProd f g r → KeptAs K H kd kvs Q E z r) → Deed K H kd p kvs Q E "times" [.new, .name, .name] 421 [z, x, y]
  | seen {z x : Str} {b : Addr} {f : List Int} {a N : Int} : Nm z → Stand K H kvs x b f → a.natAbs < 10 ^ 60 → (0 ≤ N ∧ N ≤ 60) → (∀ s, Dr.IsSeen f a (p ^ N.toNat) s → KeptAs K H kd kvs Q E z s) → Deed K H kd p kvs Q E "seen" [.new, .name, .number, .depth] 422 [z, x, Tx.tx a, Tx.tx N]
  | slope {z x : Str} {b : Addr} {f : List Int} : Nm z → Stand K H kvs x b f → KeptAs K H kd kvs Q E z (Dr.pslope f) → Deed K H kd p kvs Q E "slope" [.new, .name] 423 [z, x]
  | drop {x : Str} {b : Addr} {f : List Int} : Stand K H kvs x b f → (∀ H1, Same H H1 → Q (.str "ok") (upd H1 kd (.dK (dropK kvs (Sum.inr x))))) → Deed K H kd p kvs Q E "drop" [.name] 424 [x]
  | names {ss : List Str} : kvs.map (·.1) = ss.map Sum.inr → ss.length < 64 → (∀ s, s ∈ ss → s.length ≤ 8) → (∀ zs H1, zs.Perm ss → PyProof.Rows.sortedS zs = true → Same H H1 → Q (.str (Str.join (Str.ofString " ") zs)) H1) → Deed K H kd p kvs Q E "names" [] 425 []
  | shw {x : Str} {b : Addr} {f : List Int} : Stand K H kvs x b f → (∀ H1, Same H H1 → Q (.str (Tx.shown f)) H1) → Deed K H kd p kvs Q E "show" [.name] 426 [x]
section
variable {H : Hp} {kd : Addr} {p : Int} {kvs : List (Key × V)} {Q : VK} {E : XK} {dw : Str} {ks : List Kd} {a : Addr} {ws : List Str}
theorem Deed.row (r : Deed K H kd p kvs Q E dw ks a ws) : Row dw ks a := by
  cases r with
  | no r => exact r
  | poly => exact .poly
  | times => exact .times
  | seen => exact .seen
  | slope => exact .slope
  | drop => exact .drop
  | names => exact .names
  | shw => exact .shw
theorem Deed.free (r : Deed K H kd p kvs Q E dw ks a ws) : ∀ w, w ∈ dw :: ws → 32 ∉ w.cps.toList := by
  intro w hw
  rcases List.mem_cons.mp hw with rfl | hm
  · exact r.row.free
  clear hw
  cases r with
  | no _ h => exact h w hm
  | poly hn =>
    simp only [List.mem_cons, List.not_mem_nil, or_false] at hm
    rcases hm with rfl | rfl
    · exact nm_free hn
    · exact Tx.shown_free _
  | times hn hs ht =>
    simp only [List.mem_cons, List.not_mem_nil, or_false] at hm
    rcases hm with rfl | rfl | rfl
    · exact nm_free hn
    · exact nm_free hs.nm
    · exact nm_free ht.nm
  | seen hn hs =>
    simp only [List.mem_cons, List.not_mem_nil, or_false] at hm
    rcases hm with rfl | rfl | rfl | rfl
    · exact nm_free hn
    · exact nm_free hs.nm
    · exact Tx.tx_free _
    · exact Tx.tx_free _
  | slope hn hs =>
    simp only [List.mem_cons, List.not_mem_nil, or_false] at hm
    rcases hm with rfl | rfl
    · exact nm_free hn
    · exact nm_free hs.nm
  | drop hs =>
    rw [List.mem_singleton.mp hm]
    exact nm_free hs.nm
  | names => cases hm
  | shw hs =>
    rw [List.mem_singleton.mp hm]
    exact nm_free hs.nm
theorem Deed.rr (r : Deed K H kd p kvs Q E dw ks a ws) : ∃ o, Rr kvs ks ws o ∧ ∀ C, o = some C → ∀ H', Same H H' → E (.ref (clK K C)) none H' := by
  have key : ∀ {ks : List Kd} {ws : List Str}, Rr kvs ks ws none → ∃ o, Rr kvs ks ws o ∧ ∀ C, o = some C → ∀ H', Same H H' → E (.ref (clK K C)) none H' := fun h => ⟨none, h, fun _ z => nomatch z⟩
  cases r with
  | no _ _ h q => exact ⟨_, h, fun C z => by cases z; exact q⟩
  | poly hn h0 hf hb => exact key (.cons (.new hn) (.cons (wd_poly h0 hf hb) .nil))
  | times hn hs ht => exact key (.cons (.new hn) (.cons (.name hs.nm hs.val) (.cons (.name ht.nm ht.val) .nil)))
  | seen hn hs ha hN => exact key (.cons (.new hn) (.cons (.name hs.nm hs.val) (.cons (wd_number ha) (.cons (wd_depth hN) .nil))))
  | slope hn hs => exact key (.cons (.new hn) (.cons (.name hs.nm hs.val) .nil))
  | drop hs => exact key (.cons (.name hs.nm hs.val) .nil)
  | names => exact key .nil
  | shw hs => exact key (.cons (.name hs.nm hs.val) .nil)
end
def sp_say (K : PySem.W.Frag) : Sp := fun vs H Q E => ∃ (d dx kd : Addr) (p : Int) (kvs : List (Key × V)) (dw : Str) (ks : List Kd) (a : Addr) (ws : List Str), vs = [.ref d, .str (Str.join (Str.ofString " ") (dw :: ws))] ∧ DeskAt K H d dx kd p kvs ∧ p ∈ Dr.primes ∧ kvs.length < 900 ∧ (Str.join (Str.ofString " ") (dw :: ws)).length ≤ 2000 ∧ Deed K H kd p kvs Q E dw ks a ws
theorem ok_say (B : Bi mg K w) (t_TOLD : TabOk P w K mg base CX0 2 (Tab_TOLD K)) (t_MADE : TabOk P w K mg base (CXE P w) 3 (Tab_MADE K)) (d_words_of : Def P w K mg base "words_of" 1 ["row"] (sp_words_of K)) (d_listed : Def P w K mg base "listed" 1 ["texts", "without"] (sp_listed K)) (d_thing_of : Met P w K mg base (CXE P w) (clK K "Desk") "thing_of" 5 ["self", "wanted", "word"] (sp_thing_of K)) (d_keep : Met P w K mg base (CXE P w) (clK K "Desk") "keep" 3 ["self", "name", "polynomial"] (sp_keep K)) (F : Fun K "say" "Desk.say" s_say f fd) : FnOk P w K mg base (CXE P w) 6 f fd ["self", "row"] (sp_say K) := by
  refine F.okE S_say (fun vs H Q E h => ?_) (fun cdv A outer s H vs Q E hr h => ?_)
  · obtain ⟨d, dx, kd, p, kvs, dw, ks, a, ws, rfl, _⟩ := h
    rfl
  obtain ⟨d, dx, kd, p, kvs, dw, ks, at0, ws, rfl, hd, hp, hk, hl, r⟩ := h
  have S := S_say
  refine ⟨_, ((pss_cons (ps_set (i := 2) S.nd rfl (Or.inl rfl) (pe_def d_words_of hr rfl (pa_cons (pv 1) pa_nil)))
    (pss_cons (ps_set (i := 3) S.nd rfl (Or.inl rfl) (pe_ix ix_list (pv 2) pe_int (fun _ _ => rfl)))
    (pss_cons (ps_comp2E rfl rfl rfl rfl [0] ["self"] rfl S.nd (k := 4) rfl rfl rfl rfl ⟨rfl, trivial⟩ ⟨rfl, rfl, rfl, rfl, trivial⟩ rfl rfl (by decide) (by decide) rfl rfl rfl (by decide) (pi_zipT rfl B.b_zip (pe_kget B.kd_WANTED rfl B.gd_WANTED (pv 3) (fun _ _ => rfl)) (pe_slice sl_list (pv 2) (po_some pe_int) po_none)) (fun _ _ _ _ => pts_nil) (fun _ _ _ _ _ hx => (pe_met hx B.cl_Desk d_thing_of hr (pv 2) (pa_cons (pv 0) (pa_cons (pv 1) pa_nil)))))
    (pss_cons (ps_if (pt_cmp (pc_kin B.kd_MADE rfl B.gd_MADE (pv 3))) (pss_one (ps_ret (pe_met passE B.cl_Desk d_keep hr (pv 0) (pa_cons (pe_ix ix_list (pv 2) pe_int (fun _ _ => rfl)) (pa_cons (pe_callV t_MADE (pe_kget B.kd_MADE rfl B.gd_MADE (pv 3) (fun _ _ => rfl)) hr passE (pa_cons (pe_fld (pv 0) rfl) (pa_cons (pv 4) pa_nil))) pa_nil))))) pss_nil)
    (pss_cons (ps_if (pt_cmp (pc_kin B.kd_TOLD rfl B.gd_TOLD (pv 3))) (pss_one (ps_ret (pe_callV t_TOLD (pe_kget B.kd_TOLD rfl B.gd_TOLD (pv 3) (fun _ _ => rfl)) hr pass0 (pa_cons (pe_fld (pv 0) rfl) (pa_cons (pv 4) pa_nil))))) pss_nil)
    (pss_cons (ps_if (pt_cmpR op_eq (pv 3) pe_str (nomark _)) (pss_cons (ps_expr (pe_dpop1 (pe_fld (pv 0) rfl) (pe_ix ix_list (pv 2) pe_int (fun _ _ => rfl)) ⟨rfl, rfl, rfl, rfl⟩))
    (pss_one (ps_ret pe_str))) pss_nil)
    (pss_one (ps_ret (pe_def d_listed hr rfl (pa_cons (pe_callB (call_sortedS rfl) rfl B.b_sorted bt_sorted (pa_cons (pe_fld (pv 0) rfl) pa_nil)) (pa_cons pe_str pa_nil)))))))))))), ?_⟩
  obtain ⟨hat, htu⟩ := r.row.at B
  have hfr := r.free
  obtain ⟨o, hrr, hoE⟩ := r.rr
  have hlen := hrr.len
  have hk5 := r.row.short
  have hsp : Txt.split (Str.join (Str.ofString " ") (dw :: ws)) (Str.ofString " ") = dw :: ws := by
    rw [Tx.space_is]
    exact Tx.split_of (by simp) hfr
  (try dsimp only); (first | refine hX _ _ ?_ | skip); (try dsimp only); (first | refine seqX (fun X hX => ?_) | skip); try walk_at "dr2"; (try simp only [sp_words_of, sp_listed, sp_thing_of, sp_keep]); try walk_at "dr2"
  refine ⟨hl, _, _, hsp, _, hat, _, htu, by rw [List.length_map]; exact hlen, fun l1 H1 g1 n1 k1 => ?_⟩
  (try dsimp only); (first | refine hX _ _ ?_ | skip); (try dsimp only); (first | refine seqX (fun X hX => ?_) | skip); try walk_at "dr2"; (try simp only [sp_words_of, sp_listed, sp_thing_of, sp_keep]); try walk_at "dr2"
  refine ⟨_, SqL.of k1, _, atI_nat (j := 0) rfl, ?_⟩
  (try dsimp only); (first | refine hX _ _ ?_ | skip); (try dsimp only); (first | refine seqX (fun X hX => ?_) | skip); try walk_at "dr2"; (try simp only [sp_words_of, sp_listed, sp_thing_of, sp_keep]); try walk_at "dr2"
  refine ⟨_, hat, _, SqL.of k1, ?_⟩
  intro l2 n_l2; generalize e_l2 : upd _ l2 _ = H2; obtain ⟨g2, k2⟩ := newH e_l2 n_l2; clear e_l2
  have k2 : H2 l2 = some (.lst (ws.map V.str)) := by
    rw [k2, show V.str dw :: ws.map V.str = (dw :: ws).map V.str from rfl, cut_from V.str (dw :: ws) (by decide)]
    rfl
  refine ⟨⟨_, htu.sq _⟩, ⟨_, SqL.of k2⟩, ?_⟩
  have hd2 := (hd.same g1).same g2
  obtain ⟨Pc, hPc⟩ : ∃ Pc : Nat → List V → Hp → Prop, ∀ i ys H3, Pc i ys H3 ↔ (Same H2 H3 ∧ Rl kvs H2 H3 (ks.take i) (ws.take i) ys ∧ Rr kvs (ks.drop i) (ws.drop i) o) := ⟨_, fun _ _ _ => Iff.rfl⟩
  refine comp2ZT (ks.map fun k => V.str k.txt) (ws.map V.str) Pc (by rw [List.length_map]; exact Nat.le_trans hk5 (by decide)) (by rw [List.length_map, List.length_map]; exact hlen) ((hPc _ _ _).mpr ⟨Same.refl _, .nil, hrr⟩) (fun i ys H3 pc => ⟨htu.sq _, SqL.of (((hPc _ _ _).mp pc).1 _ _ k2)⟩) (fun i x y ys H3 H4 hx' hy' pc g4 => ?_) (fun ys H3 pc l n_l => ?_)
  · obtain ⟨g3, hrl, hr⟩ := (hPc _ _ _).mp pc
    have hd4 := (hd2.same g3).same g4
    rw [List.getElem?_map] at hx' hy'
    cases ek : ks[i]? with
    | none => rw [ek] at hx'; cases hx'
    | some k =>
      cases ew : ws[i]? with
      | none => rw [ew] at hy'; cases hy'
      | some z =>
        rw [ek] at hx'
        rw [ew] at hy'
        cases hx'
        cases hy'
        rw [drop_at ek, drop_at ew] at hr
        (first | refine hX _ _ ?_ | skip); (try dsimp only); try walk_at "dr1"; (try simp only [sp_words_of, sp_listed, sp_thing_of, sp_keep]); try walk_at "dr1"
        refine ⟨_, _, hd4.ins, look_no (by decide +kernel) (by decide +kernel), dx, kd, p, kvs, k, rfl, hd4, ?_⟩
        cases hr with
        | cons w hr =>
          refine .inl ⟨w, fun v H' g5 rs => (hPc _ _ _).mpr ⟨g3.trans (g4.trans g5), ?_, hr⟩⟩
          rw [take_next ek, take_next ew]
          exact (hrl.same (g4.trans g5)).snoc (rs.same (g3.trans g4) (Same.refl _))
        | stop b _ => exact .inr ⟨_, b, fun H' g5 => hoE _ rfl H' (g1.trans (g2.trans (g3.trans (g4.trans g5))))⟩
  obtain ⟨g3, hrl, hr⟩ := (hPc _ _ _).mp pc
  rw [List.length_map, List.take_length, hlen, List.take_length] at hrl
  rw [List.length_map, List.drop_length, hlen, List.drop_length] at hr
  cases hr
  have g5 := newS n_l (o := HO.lst ys)
  have k5 : upd H3 l (HO.lst ys) l = some (HO.lst ys) := upd_same
  generalize upd H3 l (HO.lst ys) = H5 at g5 k5 ⊢
  have hd5 := ((hd2.same g3).same g5)
  have hrl := hrl.same g5
  have G2 := g1.trans g2
  have G5 := G2.trans (g3.trans g5)
  have k15 := g5 _ _ (g3 _ _ (g2 _ _ k1))
  clear pc hPc
  have p2 := Dr.primes_ge hp
  cases r with
  | no _ _ h q => exact absurd hrr h.not
  | poly hn h0 hf hb q =>
    obtain ⟨v1, _, rfl, r1, hrl⟩ := hrl.inv
    obtain ⟨v2, _, rfl, r2, hrl⟩ := hrl.inv
    obtain rfl := hrl.inv0
    obtain rfl := r1.new_inv
    obtain ⟨ms, c, rfl, e, nc, kc⟩ := r2.poly_inv
    rw [Tx.shown_poly h0 hf hb] at e
    cases e
    (try dsimp only); (first | refine hX _ _ ?_ | skip); (try dsimp only); (first | refine seqX (fun X hX => ?_) | skip); try walk_at "dr2"; (try simp only [sp_words_of, sp_listed, sp_thing_of, sp_keep]); try walk_at "dr2"
    rw [w_MADE_poly, if_pos (by rfl)]
    refine ⟨_, _, hd5.ins, look_no (by decide +kernel) (by decide +kernel), _, SqL.of k15, _, atI_nat (j := 1) rfl, _, rfl, _, .inl ⟨rfl, rfl⟩, _, _, _, hd5.ins, B.cl_Desk, B.na_prime, _, look_prime, ?_⟩
    unfold sp_made_poly
    refine ⟨p, l, _, _, _, rfl, SqL.of k5, ?_⟩
    refine ⟨dx, kd, _, _, kvs, _, rfl, rfl, hd5.ins, look_kept, hd5.kept, by omega, _, SqL.of kc, by omega, fun _ H6 g6 => ?_, fun z => absurd hb z⟩
    exact q.1 hb _ H6 (G5.trans g6) (none_of G2 nc) (g6 _ _ kc)
  | times hn hs ht q1 q2 =>
    obtain ⟨v1, _, rfl, r1, hrl⟩ := hrl.inv
    obtain ⟨v2, _, rfl, r2, hrl⟩ := hrl.inv
    obtain ⟨v3, _, rfl, r3, hrl⟩ := hrl.inv
    obtain rfl := hrl.inv0
    obtain rfl := r1.new_inv
    have e2 := r2.name_inv
    rw [hs.val] at e2
    cases e2
    have e3 := r3.name_inv
    rw [ht.val] at e3
    cases e3
    have lf := hs.len
    have lg := ht.len
    (try dsimp only); (first | refine hX _ _ ?_ | skip); (try dsimp only); (first | refine seqX (fun X hX => ?_) | skip); try walk_at "dr2"; (try simp only [sp_words_of, sp_listed, sp_thing_of, sp_keep]); try walk_at "dr2"
    rw [w_MADE_times, if_pos (by rfl)]
    refine ⟨_, _, hd5.ins, look_no (by decide +kernel) (by decide +kernel), _, SqL.of k15, _, atI_nat (j := 1) rfl, _, rfl, _, .inr (.inl ⟨rfl, rfl⟩), _, _, _, hd5.ins, B.cl_Desk, B.na_prime, _, look_prime, ?_⟩
    unfold sp_made_times
    refine ⟨p, l, _, _, _, _, _, 200, rfl, SqL.of k5, G5.seq hs.sq, G5.seq ht.sq, by omega, hs.bits, ht.bits, by decide, fun z H6 g6 => q1 z H6 (G5.trans g6), fun z c r H6 h6 n6 g6 k6 => ?_⟩
    have hd6 := hd5.same g6
    have lr := h6.len
    refine ⟨dx, kd, _, _, kvs, _, rfl, rfl, hd6.ins, look_kept, hd6.kept, by omega, r, SqL.of k6, by omega, fun hb H7 g7 => ?_, fun hb H7 g7 => (q2 z r h6).2 hb H7 (G5.trans (g6.trans g7))⟩
    exact (q2 z r h6).1 hb _ H7 (G5.trans (g6.trans g7)) (none_of G5 n6) (g7 _ _ k6)
  | seen hn hs ha hN q =>
    obtain ⟨v1, _, rfl, r1, hrl⟩ := hrl.inv
    obtain ⟨v2, _, rfl, r2, hrl⟩ := hrl.inv
    obtain ⟨v3, _, rfl, r3, hrl⟩ := hrl.inv
    obtain ⟨v4, _, rfl, r4, hrl⟩ := hrl.inv
    obtain rfl := hrl.inv0
    obtain rfl := r1.new_inv
    have e2 := r2.name_inv
    rw [hs.val] at e2
    cases e2
    obtain rfl := r3.number_inv ha
    obtain rfl := r4.depth_inv hN
    have lf := hs.len
    (try dsimp only); (first | refine hX _ _ ?_ | skip); (try dsimp only); (first | refine seqX (fun X hX => ?_) | skip); try walk_at "dr2"; (try simp only [sp_words_of, sp_listed, sp_thing_of, sp_keep]); try walk_at "dr2"
    rw [w_MADE_seen, if_pos (by rfl)]
    refine ⟨_, _, hd5.ins, look_no (by decide +kernel) (by decide +kernel), _, SqL.of k15, _, atI_nat (j := 1) rfl, _, rfl, _, .inr (.inr (.inl ⟨rfl, rfl⟩)), _, _, _, hd5.ins, B.cl_Desk, B.na_prime, _, look_prime, ?_⟩
    unfold sp_made_seen
    refine ⟨p, l, _, _, _, _, _, 700, 700, rfl, SqL.of k5, G5.seq hs.sq, by omega, by omega, by omega, (fun x hx => (hs.bits x hx).mono (by decide)), (sm60 ha).mono (by decide), by omega, fun c s H6 h6 n6 g6 k6 => ?_⟩
    have hd6 := hd5.same g6
    have ls := h6.len
    refine ⟨dx, kd, _, _, kvs, _, rfl, rfl, hd6.ins, look_kept, hd6.kept, by omega, s, SqL.of k6, by omega, fun hb H7 g7 => ?_, fun hb H7 g7 => (q s h6).2 hb H7 (G5.trans (g6.trans g7))⟩
    exact (q s h6).1 hb _ H7 (G5.trans (g6.trans g7)) (none_of G5 n6) (g7 _ _ k6)
  | slope hn hs q =>
    obtain ⟨v1, _, rfl, r1, hrl⟩ := hrl.inv
    obtain ⟨v2, _, rfl, r2, hrl⟩ := hrl.inv
    obtain rfl := hrl.inv0
    obtain rfl := r1.new_inv
    have e2 := r2.name_inv
    rw [hs.val] at e2
    cases e2
    have lf := hs.len
    (try dsimp only); (first | refine hX _ _ ?_ | skip); (try dsimp only); (first | refine seqX (fun X hX => ?_) | skip); try walk_at "dr2"; (try simp only [sp_words_of, sp_listed, sp_thing_of, sp_keep]); try walk_at "dr2"
    rw [w_MADE_slope, if_pos (by rfl)]
    refine ⟨_, _, hd5.ins, look_no (by decide +kernel) (by decide +kernel), _, SqL.of k15, _, atI_nat (j := 1) rfl, _, rfl, _, .inr (.inr (.inr ⟨rfl, rfl⟩)), _, _, _, hd5.ins, B.cl_Desk, B.na_prime, _, look_prime, ?_⟩
    unfold sp_made_slope
    refine ⟨p, l, _, _, _, 200, rfl, SqL.of k5, G5.seq hs.sq, by omega, hs.bits, by decide, fun c H6 n6 g6 k6 => ?_⟩
    have hd6 := hd5.same g6
    have ls := slope_len hs.len.1
    refine ⟨dx, kd, _, _, kvs, _, rfl, rfl, hd6.ins, look_kept, hd6.kept, by omega, _, SqL.of k6, by omega, fun hb H7 g7 => ?_, fun hb H7 g7 => q.2 hb H7 (G5.trans (g6.trans g7))⟩
    exact q.1 hb _ H7 (G5.trans (g6.trans g7)) (none_of G5 n6) (g7 _ _ k6)
  | drop hs q =>
    (try dsimp only); (first | refine hX _ _ ?_ | skip); (try dsimp only); (first | refine seqX (fun X hX => ?_) | skip); try walk_at "dr2"; (try simp only [sp_words_of, sp_listed, sp_thing_of, sp_keep]); try walk_at "dr2"
    rw [w_MADE_drop, if_neg (by intro z; cases z)]
    (try dsimp only); (first | refine hX _ _ ?_ | skip); (try dsimp only); (first | refine seqX (fun X hX => ?_) | skip); try walk_at "dr2"; (try simp only [sp_words_of, sp_listed, sp_thing_of, sp_keep]); try walk_at "dr2"
    rw [w_TOLD_drop, if_neg (by intro z; cases z)]
    (first | refine hX _ _ ?_ | skip); (try dsimp only); try walk_at "dr1"; (try simp only [sp_words_of, sp_listed, sp_thing_of, sp_keep]); try walk_at "dr1"
    exact ⟨_, _, _, hd5.ins, B.cl_Desk, B.na_kept, _, look_kept, kd, rfl, .inl ⟨_, .inl hd5.kept⟩, _, SqL.of k15, _, atI_nat (j := 1) rfl, _, hd5.kept, Sum.inr _, rfl, ⟨_, hs.val⟩, q H5 G5⟩
  | names h1 h2 h3 q =>
    (try dsimp only); (first | refine hX _ _ ?_ | skip); (try dsimp only); (first | refine seqX (fun X hX => ?_) | skip); try walk_at "dr2"; (try simp only [sp_words_of, sp_listed, sp_thing_of, sp_keep]); try walk_at "dr2"
    rw [w_MADE_names, if_neg (by intro z; cases z)]
    (try dsimp only); (first | refine hX _ _ ?_ | skip); (try dsimp only); (first | refine seqX (fun X hX => ?_) | skip); try walk_at "dr2"; (try simp only [sp_words_of, sp_listed, sp_thing_of, sp_keep]); try walk_at "dr2"
    rw [w_TOLD_names, if_neg (by intro z; cases z)]
    (try dsimp only); (first | refine hX _ _ ?_ | skip); (try dsimp only); (first | refine seqX (fun X hX => ?_) | skip); try walk_at "dr2"; (try simp only [sp_words_of, sp_listed, sp_thing_of, sp_keep]); try walk_at "dr2"
    rw [if_neg (by decide +kernel)]
    (first | refine hX _ _ ?_ | skip); (try dsimp only); try walk_at "dr1"; (try simp only [sp_words_of, sp_listed, sp_thing_of, sp_keep]); try walk_at "dr1"
    refine ⟨_, _, _, hd5.ins, B.cl_Desk, B.na_kept, _, look_kept, kd, rfl, _, hd5.kept, _, h1, h2, fun zs hz hs l6 n6 => ⟨zs, SqL.of upd_same, ?_, fun t ht => h3 t (hz.mem_iff.mp ht), q zs _ hz hs (G5.trans (newS n6))⟩⟩
    rw [hz.length_eq]
    exact Nat.le_of_lt h2
  | shw hs q =>
    obtain ⟨v1, _, rfl, r1, hrl⟩ := hrl.inv
    obtain rfl := hrl.inv0
    have e1 := r1.name_inv
    rw [hs.val] at e1
    cases e1
    have lf := hs.len
    (try dsimp only); (first | refine hX _ _ ?_ | skip); (try dsimp only); (first | refine seqX (fun X hX => ?_) | skip); try walk_at "dr2"; (try simp only [sp_words_of, sp_listed, sp_thing_of, sp_keep]); try walk_at "dr2"
    rw [w_MADE_show, if_neg (by intro z; cases z)]
    (try dsimp only); (first | refine hX _ _ ?_ | skip); (try dsimp only); (first | refine seqX (fun X hX => ?_) | skip); try walk_at "dr2"; (try simp only [sp_words_of, sp_listed, sp_thing_of, sp_keep]); try walk_at "dr2"
    rw [w_TOLD_show, if_pos (by rfl)]
    refine ⟨_, rfl, _, ⟨rfl, rfl⟩, _, _, _, hd5.ins, B.cl_Desk, B.na_prime, _, look_prime, ?_⟩
    unfold sp_told_show
    exact ⟨p, l, _, _, rfl, SqL.of k5, G5.seq hs.sq, by omega, fun x hx => Nat.lt_of_lt_of_le (hs.small x hx) (Nat.pow_le_pow_right (by decide) (by decide)), fun H6 g6 => q H6 (G5.trans g6)⟩
def sp__law_times (K : PySem.W.Frag) : Sp := fun vs H Q _ => ∃ (a b : Addr) (f g : List Int) (m n : Nat), vs = [.ref a, .ref b] ∧ SqL K H a (f.map V.int) ∧ SqL K H b (g.map V.int) ∧ (0 < f.length ∧ f.length ≤ 60 ∧ 0 < g.length ∧ g.length ≤ 60) ∧ Dr.PolyB f m ∧ Dr.PolyB g n ∧ (m ≤ 1000000 ∧ n ≤ 1000000) ∧
  ∀ (c : Addr) (r : List Int) (H' : Hp), Dr.IsProd f g r → Dr.PolyB r (m + n + 12) → H c = none → Same H H' → H' c = some (.lst (r.map V.int)) → Q (.ref c) H'
theorem ok__law_times (B : Bi mg K w) (F : Fun K "_law_times" "_law_times" s__law_times f fd) : FnOk P w K mg base CX0 1 f fd ["f", "g"] (sp__law_times K) := by
  refine F.ok S__law_times (fun vs H Q E h => ?_) (fun cdv A outer s H vs Q E hr h => ?_)
  · obtain ⟨a, b, f, g, m, n, rfl, _⟩ := h
    rfl
  obtain ⟨a, b, f, g, m, n, rfl, hS, hS', hl, hf, hg, hmn, q⟩ := h
  have S := S__law_times
  refine ⟨_, ((pss_cons (ps_set (i := 2) S.nd rfl (Or.inl rfl) (pe_op op_rep (pe_lst (pa_cons pe_int pa_nil)) (pe_op op_sub (pe_op op_add (pe_callB call_len_seq rfl B.b_len PySem.boot_len (pa_cons (pv 0) pa_nil)) (pe_callB call_len_seq rfl B.b_len PySem.boot_len (pa_cons (pv 1) pa_nil))) pe_int)))
    (pss_cons (ps_for PassesOwn.never rfl (pi_range1 rfl B.b_range (pa_cons (pe_callB call_len_seq rfl B.b_len PySem.boot_len (pa_cons (pv 0) pa_nil)) pa_nil)) (pg_name (i := 3) S.nd rfl (Or.inl rfl)) (pss_one (ps_for PassesOwn.never rfl (pi_range1 rfl B.b_range (pa_cons (pe_callB call_len_seq rfl B.b_len PySem.boot_len (pa_cons (pv 1) pa_nil)) pa_nil)) (pg_name (i := 4) S.nd rfl (Or.inl rfl)) (pss_one (ps_asg (pe_op op_add (pe_ix ix_list (pv 2) (pe_op op_add (pv 3) (pv 4)) (fun _ _ => rfl)) (pe_op op_mulW (pe_ix ix_list (pv 0) (pv 3) (fun _ _ => rfl)) (pe_ix ix_list (pv 1) (pv 4) (fun _ _ => rfl)))) (pg_sub (pv 2) (pe_op op_add (pv 3) (pv 4)) set_list))))))
    (pss_one (ps_ret (pv 2)))))), ?_⟩
  (first | refine hX _ _ ?_ | skip); (try dsimp only); try walk_at "dr1"
  refine ⟨by decide, ?_⟩
  intro l0 n_l0; generalize e_l0 : upd _ l0 _ = H1; obtain ⟨g1, k1⟩ := newH e_l0 n_l0; clear e_l0
  refine ⟨_, .inl (g1.seq hS), _, .inl (g1.seq hS'), ?_⟩
  simp only [List.length_map]
  refine ⟨_, k1, by omega, by omega, by simp only [List.length_cons, List.length_nil]; unfold sizeLine; omega, ?_⟩
  intro l n_l; generalize e_l : upd _ l _ = H2; obtain ⟨g2, k2⟩ := newH e_l n_l; clear e_l
  rw [rep_zero] at k2
  have g12 := g1.trans g2
  have nl : H l = none := g1.free n_l
  refine ⟨_, .inl (g12.seq hS), by simp only [List.length_map]; omega, by simp only [List.length_map]; omega, ?_⟩
  obtain ⟨M, hM⟩ : ∃ M : Nat, M = 2 ^ (m + n) := ⟨_, rfl⟩
  obtain ⟨Pv, hPv⟩ : ∃ Pv : Nat → St → Hp → Prop, ∀ i σ H3, Pv i σ H3 ↔ (Same H H3 ∧ ∃ (r : List Int) (t3 t4 : Option V), r.length + 1 = f.length + g.length ∧ (∀ c, c ∈ r → c.natAbs ≤ i * g.length * M) ∧ (∀ x, Dr.pev r x = Dr.pev (f.take i) x * Dr.pev g x) ∧ H3 l = some (.lst (r.map V.int)) ∧ σ = [some (.ref a), some (.ref b), some (.ref l), t3, t4]) := ⟨_, fun _ _ _ => Iff.rfl⟩
  (first | refine hX _ _ ?_ | skip); refine forR Pv ((hPv _ _ _).mpr ⟨g12, _, none, none, by rw [List.length_replicate]; omega, fun c hc => by rw [(List.mem_replicate.mp hc).2]; simp, fun x => by rw [Dr.pev_zeros]; simp [Dr.pev], k2, rfl⟩) ?_ ?_
  · intro i σ H3 hi z
    obtain ⟨g3, r, t3, t4, hrl, hrb, hre, k3, rfl⟩ := (hPv _ _ _).mp z
    simp only [List.length_map, Int.toNat_natCast] at hi
    obtain ⟨c, hc⟩ : ∃ c, f[i]? = some c := ⟨_, List.getElem?_eq_getElem hi⟩
    have ac : atI (f.map V.int) (0 + (i : Int)) = some (.int c) := by
      rw [Int.zero_add]
      exact atI_nat (by rw [List.getElem?_map, hc]; rfl)
    (first | refine hX _ _ ?_ | skip); (try dsimp only); try walk_at "dr1"
    refine ⟨_, .inl (g3.seq hS'), by simp only [List.length_map]; omega, by simp only [List.length_map]; omega, ?_⟩
    obtain ⟨Pw, hPw⟩ : ∃ Pw : Nat → St → Hp → Prop, ∀ j σ H5, Pw j σ H5 ↔ (Same H H5 ∧ ∃ (r : List Int) (t4 : Option V), r.length + 1 = f.length + g.length ∧ (∀ c, c ∈ r → c.natAbs ≤ (i * g.length + j) * M) ∧ (∀ x, Dr.pev r x = Dr.pev (f.take i) x * Dr.pev g x + c * x ^ i * Dr.pev (g.take j) x) ∧ H5 l = some (.lst (r.map V.int)) ∧ σ = [some (.ref a), some (.ref b), some (.ref l), some (.int (0 + (i : Int))), t4]) := ⟨_, fun _ _ _ => Iff.rfl⟩
    (first | refine hX _ _ ?_ | skip); refine forR Pw ((hPw _ _ _).mpr ⟨g3, r, t4, hrl, hrb, fun x => by rw [hre]; simp [Dr.pev], k3, rfl⟩) ?_ ?_
    · intro j σ H5 hj z
      obtain ⟨g5, r, t4, hrl, hrb, hre, k5, rfl⟩ := (hPw _ _ _).mp z
      simp only [List.length_map, Int.toNat_natCast] at hj
      obtain ⟨d, hd⟩ : ∃ d, g[j]? = some d := ⟨_, List.getElem?_eq_getElem hj⟩
      have ad : atI (g.map V.int) (0 + (j : Int)) = some (.int d) := by
        rw [Int.zero_add]
        exact atI_nat (by rw [List.getElem?_map, hd]; rfl)
      obtain ⟨v, e1, e2, e3, _⟩ := get_int (fs := r) (k := 0 + (i : Int) + (0 + (j : Int))) (by omega) (by omega)
      have hcd : (c * d).natAbs ≤ M := by
        rw [hM]
        exact Nat.le_of_lt ((hf c (List.mem_of_getElem? hc)).mul (hg d (List.mem_of_getElem? hd)))
      (first | refine hX _ _ ?_ | skip); (try dsimp only); try walk_at "dr1"
      refine ⟨_, SqL.of k5, _, e2, _, g5.seq hS, _, ac, _, g5.seq hS', _, ad, c, rfl, d, rfl, mulSm (hf c (List.mem_of_getElem? hc)) (hg d (List.mem_of_getElem? hd)) (by omega), v, rfl, _, k5, _, e3, ?_⟩
      rw [set_int]
      have eij : (0 + (i : Int) + (0 + (j : Int))).toNat = i + j := by omega
      rw [eij] at e1 ⊢
      refine (hPw _ _ _).mpr ⟨g5.up nl _, _, _, by rw [List.length_set]; exact hrl, fun e he => ?_, fun x => ?_, upd_same, rfl⟩
      · rcases mem_set he with w | w
        · exact Nat.le_trans (hrb e w) (Nat.mul_le_mul_right _ (Nat.le_succ _))
        · rw [w]
          exact steps (hrb v (List.mem_of_getElem? e1)) hcd
      · rw [Dr.pev_set x (c * d) r (i + j) v e1, hre, Dr.pev_take_succ hd, Dr.pow_add']
        generalize x ^ i = X
        generalize x ^ j = Y
        grind
    · intro σ H5 z
      obtain ⟨g5, r, t4, hrl, hrb, hre, k5, rfl⟩ := (hPw _ _ _).mp z
      simp only [List.length_map, Int.toNat_natCast] at hrb hre
      refine (hPv _ _ _).mpr ⟨g5, r, _, _, hrl, fun c hc => ?_, fun x => ?_, k5, rfl⟩
      · rw [Nat.succ_mul]
        exact hrb c hc
      · rw [hre, List.take_length, Dr.pev_take_succ hc]
        grind
  · intro σ H3 z
    obtain ⟨g3, r, t3, t4, hrl, hrb, hre, k3, rfl⟩ := (hPv _ _ _).mp z
    simp only [List.length_map, Int.toNat_natCast] at hrb hre
    (first | refine hX _ _ ?_ | skip); (try dsimp only); try walk_at "dr1"
    rw [List.take_length] at hre
    refine q l r H3 ⟨hrl, hre⟩ (fun c hc => ?_) nl g3 k3
    have h1 := hrb c hc
    have h2 : f.length * g.length * M ≤ 3600 * M := Nat.mul_le_mul_right _ (Nat.mul_le_mul (show f.length ≤ 60 by omega) (show g.length ≤ 60 by omega))
    show c.natAbs < 2 ^ (m + n + 12)
    rw [Nat.pow_add, ← hM]
    have : (2 : Nat) ^ 12 = 4096 := by decide
    have : 0 < M := by rw [hM]; exact Nat.pow_pos (by decide)
    omega
def cellv (ns : List Int) (k : Int) : Int := if k < ns.length then ns.getD k.toNat 0 else 3 * k * k + 17 * k + 4
def sp__law_cell (K : PySem.W.Frag) : Sp := fun vs H Q _ => ∃ (a : Addr) (ns : List Int) (k : Int), vs = [.ref a, .int k] ∧ SqL K H a (ns.map V.int) ∧ ns.length ≤ 63 ∧ (0 ≤ k ∧ k < 1000) ∧ Q (.int (cellv ns k)) H
theorem ok__law_cell (B : Bi mg K w) (F : Fun K "_law_cell" "_law_cell" s__law_cell f fd) : FnOk P w K mg base CX0 1 f fd ["script", "k"] (sp__law_cell K) := by
  refine F.ok S__law_cell (fun vs H Q E h => ?_) (fun cdv A outer s H vs Q E hr h => ?_)
  · obtain ⟨a, ns, k, rfl, _⟩ := h
    rfl
  obtain ⟨a, ns, k, rfl, hS, hl, hk, q⟩ := h
  have S := S__law_cell
  refine ⟨_, ((pss_cons (ps_if (pt_cmpR op_lt (pv 1) (pe_callB call_len_seq rfl B.b_len PySem.boot_len (pa_cons (pv 0) pa_nil)) (nomark _)) (pss_one (ps_ret (pe_ix ix_list (pv 0) (pv 1) (fun _ _ => rfl)))) pss_nil)
    (pss_one (ps_ret (pe_op op_add (pe_op op_add (pe_op op_mulW (pe_op op_mulW pe_int (pv 1)) (pv 1)) (pe_op op_mulW pe_int (pv 1))) pe_int))))), ?_⟩
  refine ⟨_, rfl, _, rfl, a, _, rfl, .inl hS, _, _, rfl, rfl, _, rfl, ?_⟩
  have hm : (((ns.map V.int).length : Nat) : Int) = (ns.length : Int) := by rw [List.length_map]
  refine ite2 (fun c => ?_) (fun c => ?_)
  · have c' : k < (ns.length : Int) := by rw [← hm]; exact of_decide_eq_true c
    have hk' : k.toNat < ns.length := by omega
    have ek : k = ((k.toNat : Nat) : Int) := by omega
    have g : atI (ns.map V.int) ((k.toNat : Nat) : Int) = some (.int (ns.getD k.toNat 0)) := atI_nat (by rw [List.getElem?_map, List.getElem?_eq_getElem hk', List.getD_eq_getElem?_getD, List.getElem?_eq_getElem hk']; rfl)
    rw [← ek] at g
    refine ⟨_, rfl, _, rfl, a, _, _, _, rfl, rfl, hS, g, ?_⟩
    unfold cellv at q
    rw [if_pos c'] at q
    exact q
  · have c' : ¬ k < (ns.length : Int) := fun z => c (decide_eq_true (by rw [hm]; exact z))
    unfold cellv at q
    rw [if_neg c'] at q
    have b1 : IntMulOk 3 k := IntMulOk.of_left (by decide)
    have b2 : IntMulOk (3 * k) k := IntMulOk.of_right (intBits_le_64 (by omega) (by omega))
    have b3 : IntMulOk 17 k := IntMulOk.of_left (by decide)
    exact ⟨_, rfl, _, _, rfl, rfl, b1, _, rfl, _, _, rfl, rfl, b2, _, rfl, _, _, rfl, rfl, b3, _, _, rfl, rfl, _, _, rfl, rfl, q⟩
def sp__law_prime (_ : PySem.W.Frag) : Sp := fun vs H Q _ => ∃ (c : Int), vs = [.int c] ∧ ∀ (p : Int) (H' : Hp), p ∈ Dr.primes → Same H H' → Q (.int p) H'
theorem body__law_prime : ∃ (s1 s2 s3 : Stmt) (e1 : List Expr) (p1 p2 p3 p4 p5 p6 p7 p8 p9 p10 p11 p12 p13 p14 p15 p16 p17 p18 p19 p20 p21 p22 p23 p24 p25 : Pos), defBody s__law_prime = [s1, s2, s3] ∧
    s1 = .Assign [.Name "some" p1] (.List e1 p2) p3 ∧ cInts e1 = some Dr.primes ∧
    s2 = .If (.Compare (.BinOp (.Name "cell" p4) .Mod (.Constant (.int 2) 0 p5) p6) [.Eq] [.Constant (.int 0) 0 p7] p8) [.Return (some (.Subscript (.Name "some" p9) (.BinOp (.BinOp (.Name "cell" p10) .FloorDiv (.Constant (.int 2) 0 p11) p12) .Mod (.Constant (.int 4) 0 p13) p14) p15)) p16] [] p17 ∧
    s3 = .Return (some (.Subscript (.Name "some" p18) (.BinOp (.BinOp (.Name "cell" p19) .FloorDiv (.Constant (.int 2) 0 p20) p21) .Mod (.Constant (.int 25) 0 p22) p23) p24)) p25 :=
  ⟨_, _, _, _, _, _, _, _, _, _, _, _, _, _, _, _, _, _, _, _, _, _, _, _, _, _, _, _, _, rfl, rfl, rfl, rfl, rfl⟩
theorem ok__law_prime (B : Bi mg K w) (F : Fun K "_law_prime" "_law_prime" s__law_prime f fd) : FnOk P w K mg base CX0 1 f fd ["cell"] (sp__law_prime K) := by
  refine F.ok S__law_prime (fun vs H Q E h => ?_) (fun cdv A outer s H vs Q E hr h => ?_)
  · obtain ⟨c, rfl, _⟩ := h
    rfl
  obtain ⟨c, rfl, q⟩ := h
  have S := S__law_prime
  obtain ⟨s1, s2, s3, e1, p1, p2, p3, p4, p5, p6, p7, p8, p9, p10, p11, p12, p13, p14, p15, p16, p17, p18, p19, p20, p21, p22, p23, p24, p25, hb, h1, c1, h2, h3⟩ := body__law_prime
  rw [hb]
  refine ⟨_, (pss_cons (ps_setInts (i := 1) h1 c1 S.nd rfl (Or.inl rfl) (Or.inr rfl))
    (pss_cons (ps_eq h2 (ps_if (pt_cmpR op_eq (pe_op op_mod (pv 0) pe_int) pe_int (nomark _)) (pss_one (ps_ret (pe_ix ix_list (pv 1) (pe_op op_mod (pe_op op_fdivW (pv 0) pe_int) pe_int) (fun _ _ => rfl)))) pss_nil))
    (pss_one (ps_eq h3 (ps_ret (pe_ix ix_list (pv 1) (pe_op op_mod (pe_op op_fdivW (pv 0) pe_int) pe_int) (fun _ _ => rfl))))))), ?_⟩
  refine ⟨(by show 25 ≤ sizeLine; decide), fun l hl => ?_⟩
  refine ⟨_, rfl, _, _, rfl, rfl, (show (0 : Int) < 2 by decide), rfl, _, rfl, ?_⟩
  refine ite2 (fun _ => ?_) (fun _ => ?_)
  · have m := mod_in (c / 2) (show (0 : Int) < 4 by decide)
    refine ⟨_, rfl, _, rfl, _, _, rfl, rfl, ⟨by decide, by decide⟩, _, _, rfl, rfl, (show (0 : Int) < 4 by decide), l, _, _, _, rfl, rfl, SqL.of upd_same, atI_ints (ns := Dr.primes) m.1 (by have := m.2; show _ < (25 : Int); omega), ?_⟩
    exact q _ _ (getD_in (ns := Dr.primes) m.1 (by have := m.2; show _ < (25 : Int); omega)) (same_new hl _)
  · have m := mod_in (c / 2) (show (0 : Int) < 25 by decide)
    refine ⟨_, rfl, _, rfl, _, _, rfl, rfl, ⟨by decide, by decide⟩, _, _, rfl, rfl, (show (0 : Int) < 25 by decide), l, _, _, _, rfl, rfl, SqL.of upd_same, atI_ints (ns := Dr.primes) m.1 m.2, ?_⟩
    exact q _ _ (getD_in (ns := Dr.primes) m.1 m.2) (same_new hl _)
def sp__law_power (_ : PySem.W.Frag) : Sp := fun vs H Q _ => ∃ (p e : Int), vs = [.int p, .int e] ∧ (2 ≤ p ∧ p < 1000) ∧ (0 ≤ e ∧ e < 100000) ∧ Q (.int (p ^ e.toNat)) H
theorem ok__law_power (B : Bi mg K w) (F : Fun K "_law_power" "_law_power" s__law_power f fd) : FnOk P w K mg base CX0 1 f fd ["p", "e"] (sp__law_power K) := by
  refine F.ok S__law_power (fun vs H Q E h => ?_) (fun cdv A outer s H vs Q E hr h => ?_)
  · obtain ⟨p, e, rfl, _⟩ := h
    rfl
  obtain ⟨p, e, rfl, hp, he, q⟩ := h
  have S := S__law_power
  refine ⟨_, ((pss_cons (ps_set (i := 2) S.nd rfl (Or.inl rfl) pe_int)
    (pss_cons (ps_for PassesOwn.never rfl (pi_range1 rfl B.b_range (pa_cons (pv 1) pa_nil)) (pg_name (i := 3) S.nd rfl (Or.inl rfl)) (pss_one (ps_set (i := 2) S.nd rfl (Or.inl rfl) (pe_op op_mulW (pv 2) (pv 0)))))
    (pss_one (ps_ret (pv 2)))))), ?_⟩
  refine ⟨_, rfl, e, rfl, by omega, by omega, ?_⟩
  refine for_range (n := e.toNat) (fun i σ H' => H' = H ∧ ∃ t, σ = [some (.int p), some (.int e), some (.int (p ^ i)), t]) ⟨rfl, none, by rw [Int.pow_zero]; rfl⟩ ?_ ?_
  · rintro i σ H' hi ⟨rfl, t, rfl⟩
    refine ⟨_, rfl, _, rfl, _, _, rfl, rfl, IntMulOk.of_right (intBits_le_64 (by omega) (by omega)), rfl, some (.int (0 + (i : Int))), ?_⟩
    rw [Int.pow_succ]
    rfl
  · rintro σ H' ⟨rfl, t, rfl⟩
    exact ⟨_, rfl, q⟩
def sp__law_shown (K : PySem.W.Frag) : Sp := fun vs H Q _ => ∃ (a : Addr) (ms : List Int), vs = [.ref a] ∧ SqL K H a (ms.map V.int) ∧ ms.length ≤ 14 ∧ (∀ x, x ∈ ms → x.natAbs < 10 ^ 190) ∧ ∀ H', Same H H' → Q (.str (Tx.shown ms)) H'
theorem ok__law_shown (B : Bi mg K w) (F : Fun K "_law_shown" "_law_shown" s__law_shown f fd) : FnOk P w K mg base CX0 1 f fd ["f"] (sp__law_shown K) := by
  refine F.ok S__law_shown (fun vs H Q E h => ?_) (fun cdv A outer s H vs Q E hr h => ?_)
  · obtain ⟨a, ms, rfl, _⟩ := h
    rfl
  obtain ⟨a, ms, rfl, hS, hl, hb, q⟩ := h
  have S := S__law_shown
  refine ⟨_, ((pss_one (ps_ret (pe_bm PySem.F.plainAttrs_str PySem.F.slot_str_join PySem.F.type_str_join mt_join pe_str (pa_cons (pe_comp [] [] rfl rfl trivial trivial rfl rfl (by decide) (by decide) rfl rfl (by decide) (pi_list (pv 0)) (fun _ _ _ _ => pts_nil) (fun _ _ _ _ => (pe_callTy call_str_int rfl B.b_str L2.bt_str (pa_cons (pv 0) pa_nil)))) pa_nil))))), ?_⟩
  (first | refine hX _ _ ?_ | skip); (try dsimp only); try walk_at "dr1"
  refine ⟨rfl, ⟨_, hS⟩, ?_⟩
  obtain ⟨Pv, hPv⟩ : ∃ Pv : Nat → List V → Hp → Prop, ∀ i ys H', Pv i ys H' ↔ (H' = H ∧ ys = (((ms.take i).map fun x => Str.ofString (toString x)).map V.str)) := ⟨_, fun _ _ _ => Iff.rfl⟩
  (first | refine hX _ _ ?_ | skip); refine compI ms Pv (Nat.le_trans hl (by decide)) ((hPv _ _ _).mpr ⟨rfl, rfl⟩) (fun i ys H2 p => ?_) (fun i x ys H2 hx p => ?_) (fun ys H2 p l n_l => ?_)
  · obtain ⟨rfl, _⟩ := (hPv _ _ _).mp p
    exact hS
  · obtain ⟨rfl, rfl⟩ := (hPv _ _ _).mp p
    (first | refine hX _ _ ?_ | skip); (try dsimp only); try walk_at "dr1"
    refine ⟨log_big (hb x (List.mem_of_getElem? hx)), (hPv _ _ _).mpr ⟨rfl, ?_⟩⟩
    rw [take_next hx, List.map_append, List.map_append]
    rfl
  · obtain ⟨rfl, rfl⟩ := (hPv _ _ _).mp p
    rw [List.take_length]
    exact ⟨_, l, _, rfl, rfl, SqL.of upd_same, join_big hl hb, q _ (newS n_l)⟩
theorem mul_j {n : Int} (h : 0 ≤ n ∧ n ≤ 7) : MulOk (Str.ofString "j") n ∧ (Txt.mul (Str.ofString "j") n).length = n.toNat ∧ ∀ c, c ∈ (Txt.mul (Str.ofString "j") n).cps.toList → c ∈ (Str.ofString "abcdefghijklmnopqrstuvwxyz").cps.toList := by
  have l1 : (Str.ofString "j").length = 1 := by decide +kernel
  have key : ∀ m : Fin 8, (Txt.mul (Str.ofString "j") (m.val : Int)).length = m.val ∧ ∀ c, c ∈ (Txt.mul (Str.ofString "j") (m.val : Int)).cps.toList → c ∈ (Str.ofString "abcdefghijklmnopqrstuvwxyz").cps.toList := by decide +kernel
  have e : n = ((⟨n.toNat, by omega⟩ : Fin 8).val : Int) := by show n = (n.toNat : Int); omega
  refine ⟨⟨?_, fun h1 _ => ?_, fun _ _ => ?_⟩, ?_⟩
  · simp only [Bool.or_eq_false_iff, decide_eq_false_iff_not]
    omega
  · rw [l1]
    have h2 : (1 : Int) ≤ (2 ^ 63 - 1) / n := (Int.le_ediv_iff_mul_le (by omega)).mpr (by omega)
    exact Int.not_lt.mpr h2
  · rw [l1]
    unfold Builtin.Str.tooLong
    have : 1 * n.toNat ≤ 7 := by omega
    generalize 1 * n.toNat = m at this
    revert m
    decide
  · rw [e]
    exact key _
def sp__law_name (_ : PySem.W.Frag) : Sp := fun vs H Q _ => ∃ c : Int, vs = [.int c] ∧ ∀ z, Nm z → Q (.str z) H
theorem ok__law_name (B : Bi mg K w) (F : Fun K "_law_name" "_law_name" s__law_name f fd) : FnOk P w K mg base CX0 1 f fd ["cell"] (sp__law_name K) := by
  refine F.ok S__law_name (fun vs H Q E h => ?_) (fun cdv A outer s H vs Q E hr h => ?_)
  · obtain ⟨c, rfl, _⟩ := h
    rfl
  obtain ⟨c, rfl, q⟩ := h
  have S := S__law_name
  refine ⟨_, ((pss_cons (ps_set (i := 1) S.nd rfl (Or.inl rfl) (pe_op op_add pe_int (pe_op op_mod (pv 0) pe_int)))
    (pss_cons (ps_set (i := 2) S.nd rfl (Or.inl rfl) (pe_op op_mod (pe_op op_fdivW (pv 0) pe_int) (pv 1)))
    (pss_cons (ps_set (i := 3) S.nd rfl (Or.inl rfl) (pe_ix ix_str pe_str (pe_op op_mod (pe_op op_fdivW (pv 0) pe_int) pe_int) (fun _ _ => rfl)))
    (pss_one (ps_ret (pe_op op_add_str (pe_op op_add_str (pe_op op_mulS pe_str (pv 2)) (pv 3)) (pe_op op_mulS pe_str (pe_op op_sub (pe_op op_sub (pv 1) (pv 2)) pe_int))))))))), ?_⟩
  (first | refine hX _ _ ?_ | skip); (try dsimp only); try walk_at "dr1"
  have h1 := mod_in c (show (0 : Int) < 8 by decide)
  have h2 := mod_in (c / 8) (show 0 < 1 + c % 8 by omega)
  have h3 := mod_in (c / 64) (show (0 : Int) < 26 by decide)
  generalize c / 8 % (1 + c % 8) = a at h2 ⊢
  generalize c % 8 = n at h1 h2 ⊢
  generalize c / 64 % 26 = i at h3 ⊢
  obtain ⟨m1, l1, c1⟩ := mul_j (n := a) (by omega)
  obtain ⟨m2, l2, c2⟩ := mul_j (n := 1 + n - a - 1) (by omega)
  have l26 : (Str.ofString "abcdefghijklmnopqrstuvwxyz").cps.toList.length = 26 := by decide +kernel
  have hi : i.toNat < (Str.ofString "abcdefghijklmnopqrstuvwxyz").cps.toList.length := by rw [l26]; omega
  have eat : atI (Str.ofString "abcdefghijklmnopqrstuvwxyz").cps.toList i = some (Str.ofString "abcdefghijklmnopqrstuvwxyz").cps.toList[i.toNat] := by
    have e : ((i.toNat : Nat) : Int) = i := by omega
    have := atI_nat (List.getElem?_eq_getElem hi)
    rw [e] at this
    exact this
  have hmem : (Str.ofString "abcdefghijklmnopqrstuvwxyz").cps.toList[i.toNat] ∈ (Str.ofString "abcdefghijklmnopqrstuvwxyz").cps.toList := List.getElem_mem hi
  generalize (Str.ofString "abcdefghijklmnopqrstuvwxyz").cps.toList[i.toNat] = ch at eat hmem
  have l3 : (⟨#[ch]⟩ : Str).length = 1 := rfl
  have sz : 100 ≤ sizeLine := by decide
  refine ⟨⟨by decide, by decide⟩, by omega, ⟨by decide, by decide⟩, _, _, ch, rfl, rfl, by decide +kernel, eat, m1, _, rfl, by omega, m2, ?_, q _ ⟨?_, ?_, ?_⟩⟩
  · rw [Str.length_append]
    omega
  · rw [Str.length_append, Str.length_append]
    omega
  · rw [Str.length_append, Str.length_append]
    omega
  · intro d hd
    rw [PyProof.Rows.mem_cps_append, PyProof.Rows.mem_cps_append] at hd
    rcases hd with (hd | hd) | hd
    · exact c1 d hd
    · rw [List.mem_singleton.mp hd]
      exact hmem
    · exact c2 d hd
def sp__law_mixed (_ : PySem.W.Frag) : Sp := fun vs H Q _ => ∃ c k : Int, vs = [.int c, .int k] ∧ (0 ≤ k ∧ k < 1000) ∧ ∀ n : Int, 0 ≤ n → n < 2 ^ 33 → Q (.int n) H
theorem ok__law_mixed (B : Bi mg K w) (F : Fun K "_law_mixed" "_law_mixed" s__law_mixed f fd) : FnOk P w K mg base CX0 1 f fd ["cell", "k"] (sp__law_mixed K) := by
  refine F.ok S__law_mixed (fun vs H Q E h => ?_) (fun cdv A outer s H vs Q E hr h => ?_)
  · obtain ⟨c, k, rfl, _⟩ := h
    rfl
  obtain ⟨c, k, rfl, hk, q⟩ := h
  have S := S__law_mixed
  refine ⟨_, ((pss_cons (ps_set (i := 2) S.nd rfl (Or.inl rfl) (pe_op op_mod (pe_op op_add (pe_op op_add (pe_op op_add (pe_op op_mulW (pv 0) pe_int) (pe_op op_mulW (pe_op op_mulW pe_int (pv 1)) (pv 1))) (pe_op op_mulW pe_int (pv 1))) pe_int) pe_int))
    (pss_one (ps_ret (pe_op op_add (pe_op op_mod (pe_op op_mulW (pv 2) (pv 2)) pe_int) (pv 2)))))), ?_⟩
  (first | refine hX _ _ ?_ | skip); (try dsimp only); try walk_at "dr1"
  have h1 := mod_in (c * 48271 + 104729 * k * k + 7919 * k + 1) (show (0 : Int) < 2147483647 by decide)
  generalize (c * 48271 + 104729 * k * k + 7919 * k + 1) % 2147483647 = n at h1 ⊢
  have h2 := mod_in (n * n) (show (0 : Int) < 2147483629 by decide)
  generalize n * n % 2147483629 = m at h2 ⊢
  exact ⟨IntMulOk.of_right (by decide), IntMulOk.of_left (by decide), IntMulOk.of_right (intBits_le_64 (by omega) (by omega)), IntMulOk.of_left (by decide), IntMulOk.of_right (intBits_le_64 (by omega) (by omega)), q _ (by omega) (by omega)⟩
def deepOf (n : Int) : Int := if n / 201 % 5 = 1 then n / 1005 % 61 else n / 1005 % 5
def sp__law_deep (_ : PySem.W.Frag) : Sp := fun vs H Q _ => ∃ n : Int, vs = [.int n] ∧ ((0 ≤ deepOf n ∧ deepOf n ≤ 60) → Q (.int (deepOf n)) H)
theorem deep_in (n : Int) : 0 ≤ deepOf n ∧ deepOf n ≤ 60 := by
  unfold deepOf
  split <;> omega
theorem ok__law_deep (B : Bi mg K w) (F : Fun K "_law_deep" "_law_deep" s__law_deep f fd) : FnOk P w K mg base CX0 1 f fd ["number"] (sp__law_deep K) := by
  refine F.ok S__law_deep (fun vs H Q E h => ?_) (fun cdv A outer s H vs Q E hr h => ?_)
  · obtain ⟨n, rfl, _⟩ := h
    rfl
  obtain ⟨n, rfl, q⟩ := h
  have S := S__law_deep
  refine ⟨_, ((pss_cons (ps_if (pt_cmpR op_eq (pe_op op_mod (pe_op op_fdivW (pv 0) pe_int) pe_int) pe_int (nomark _)) (pss_one (ps_ret (pe_op op_mod (pe_op op_fdivW (pv 0) pe_int) pe_int))) pss_nil)
    (pss_one (ps_ret (pe_op op_mod (pe_op op_fdivW (pv 0) pe_int) pe_int))))), ?_⟩
  (first | refine hX _ _ ?_ | skip); (try dsimp only); try walk_at "dr1"
  have q := q (deep_in n)
  unfold deepOf at q
  refine ⟨⟨by decide, by decide⟩, ite2 (fun c => ⟨⟨by decide, by decide⟩, ?_⟩) (fun c => ⟨⟨by decide, by decide⟩, ?_⟩)⟩
  · rw [if_pos c] at q
    exact q
  · rw [if_neg c] at q
    exact q
def sp__law_numbers (_ : PySem.W.Frag) : Sp := fun vs H Q _ => ∃ n : Int, vs = [.int n] ∧ ∀ (l : Addr) (f : List Int) (H' : Hp), f ≠ [] → f.length ≤ 7 → (∀ x, x ∈ f → x.natAbs < 10 ^ 60) → H l = none → Same H H' → H' l = some (.lst (f.map V.int)) → Q (.ref l) H'
theorem ok__law_numbers (B : Bi mg K w) (F : Fun K "_law_numbers" "_law_numbers" s__law_numbers f fd) : FnOk P w K mg base CX0 1 f fd ["number"] (sp__law_numbers K) := by
  refine F.ok S__law_numbers (fun vs H Q E h => ?_) (fun cdv A outer s H vs Q E hr h => ?_)
  · obtain ⟨n, rfl, _⟩ := h
    rfl
  obtain ⟨n, rfl, q⟩ := h
  have S := S__law_numbers
  refine ⟨_, ((pss_cons (ps_set (i := 1) S.nd rfl (Or.inl rfl) (pe_lst pa_nil))
    (pss_cons (ps_for PassesOwn.never rfl (pi_range1 rfl B.b_range (pa_cons (pe_op op_add pe_int (pe_op op_mod (pv 0) pe_int)) pa_nil)) (pg_name (i := 2) S.nd rfl (Or.inl rfl)) (pss_cons (ps_set (i := 0) S.nd rfl (Or.inl rfl) (pe_op op_mod (pe_op op_mulW (pv 0) pe_int) pe_int))
    (pss_one (ps_if (pt_cmpR op_eq (pe_op op_mod (pv 0) pe_int) pe_int (nomark _)) (pss_one (ps_expr (pe_bm PySem.F.plainAttrs_list PySem.F.slot_list_append PySem.F.type_list_append mt_append (pv 1) (pa_cons (pe_op op_add (pe_op op_sub (pe_op op_mod (pe_op op_mulW (pv 0) (pe_op op_add (pe_op op_pow pe_int pe_int) pe_int)) (pe_op op_sub (pe_op op_mulW pe_int (pe_op op_pow pe_int pe_int)) pe_int)) (pe_op op_pow pe_int pe_int)) pe_int) pa_nil)))) (pss_one (ps_expr (pe_bm PySem.F.plainAttrs_list PySem.F.slot_list_append PySem.F.type_list_append mt_append (pv 1) (pa_cons (pe_op op_sub (pe_op op_mod (pe_op op_fdivW (pv 0) pe_int) pe_int) pe_int) pa_nil))))))))
    (pss_one (ps_ret (pv 1)))))), ?_⟩
  (try dsimp only); (first | refine hX _ _ ?_ | skip); (try dsimp only); (first | refine seqX (fun X hX => ?_) | skip); try walk_at "dr2"
  refine ⟨by decide, ?_⟩
  intro l n_l; generalize e_l : upd _ l _ = H1; obtain ⟨g1, k1⟩ := newH e_l n_l; clear e_l
  (try dsimp only); (first | refine hX _ _ ?_ | skip); (try dsimp only); (first | refine seqX (fun X hX => ?_) | skip); try walk_at "dr2"
  have h7 := mod_in n (show (0 : Int) < 7 by decide)
  generalize n % 7 = m at h7 ⊢
  obtain ⟨Pv, hPv⟩ : ∃ Pv : Nat → St → Hp → Prop, ∀ i σ H2, Pv i σ H2 ↔ (Same H H2 ∧ ∃ (n : Int) (f : List Int) (t : Option V), f.length = i ∧ (∀ x, x ∈ f → x.natAbs < 10 ^ 60) ∧ H2 l = some (.lst (f.map V.int)) ∧ σ = [some (.int n), some (.ref l), t]) := ⟨_, fun _ _ _ => Iff.rfl⟩
  refine ⟨by omega, by omega, forR Pv ((hPv _ _ _).mpr ⟨g1, n, [], none, rfl, (fun x hx => nomatch hx), k1, rfl⟩) ?_ ?_⟩
  · intro i σ H2 hi z
    obtain ⟨g2, n, f, t, lf, hf, k2, rfl⟩ := (hPv _ _ _).mp z
    (first | refine hX _ _ ?_ | skip); (try dsimp only); try walk_at "dr1"
    have h5 := mod_in (n * 48271) (show (0 : Int) < 2147483647 by decide)
    generalize n * 48271 % 2147483647 = n2 at h5 ⊢
    have put : ∀ x : Int, x.natAbs < 10 ^ 60 → (f.map V.int).length < sizeLine ∧ Pv (i + 1) [some (V.int n2), some (V.ref l), some (V.int (0 + (i : Int)))] (upd H2 l (HO.lst (f.map V.int ++ [V.int x]))) := fun x hx => by
      refine ⟨by rw [List.length_map]; exact Nat.lt_of_lt_of_le (show f.length < 8 by omega) (by decide), (hPv _ _ _).mpr ⟨g2.up n_l _, n2, f ++ [x], _, by rw [List.length_append, lf]; rfl, fun y hy => ?_, by rw [upd_same, List.map_append]; rfl, rfl⟩⟩
      rcases List.mem_append.mp hy with hy | hy
      · exact hf y hy
      · rw [List.mem_singleton.mp hy]
        exact hx
    have p60 : (10 : Int) ^ Int.toNat 60 = ((10 ^ 60 : Nat) : Int) := by decide +kernel
    have b60 : 1000 < (10 : Nat) ^ 60 := by decide +kernel
    have b5 := mod_in (n2 / 5) (show (0 : Int) < 41 by decide)
    refine ⟨IntMulOk.of_right (by decide), ite2 (fun c => ⟨⟨_, SqL.of k2⟩, ⟨by decide, by decide, by decide⟩, IntMulOk.of_left (intBits_le_64 (by omega) (by omega)), ⟨by decide, by decide, by decide⟩, IntMulOk.of_left (by decide), ?_, ⟨by decide, by decide, by decide⟩, _, k2, put _ ?_⟩) (fun c => ⟨⟨_, SqL.of k2⟩, ⟨by decide, by decide⟩, _, k2, put _ ?_⟩)⟩
    · rw [p60]
      generalize (10 : Nat) ^ 60 = M at b60 ⊢
      omega
    · rw [p60]
      generalize n2 * (10 ^ Int.toNat 51 + 77) = y
      generalize (10 : Nat) ^ 60 = M at b60 ⊢
      have := mod_in y (show 0 < 2 * (M : Int) - 1 by omega)
      omega
    · generalize (10 : Nat) ^ 60 = M at b60 ⊢
      omega
  · intro σ H2 z
    obtain ⟨g2, n, f, t, lf, hf, k2, rfl⟩ := (hPv _ _ _).mp z
    (first | refine hX _ _ ?_ | skip); (try dsimp only); try walk_at "dr1"
    exact q l f H2 (fun z => by rw [z] at lf; simp at lf; omega) (by omega) hf n_l g2 k2
def sp__law_seen (K : PySem.W.Frag) : Sp := fun vs H Q _ => ∃ (p : Int) (b : Addr) (f : List Int) (a e : Int), vs = [.int p, .ref b, .int a, .int e] ∧ SqL K H b (f.map V.int) ∧ (0 < f.length ∧ f.length ≤ 13) ∧ (2 ≤ p ∧ p < 1000) ∧ (0 ≤ e ∧ e ≤ 60) ∧ Dr.PolyB f 200 ∧ (-100 ≤ a ∧ a ≤ 100) ∧
  ∀ (c : Addr) (s : List Int) (H' : Hp), Dr.IsSeen f a (p ^ e.toNat) s → H c = none → Same H H' → H' c = some (.lst (s.map V.int)) → Q (.ref c) H'
theorem ok__law_seen (B : Bi mg K w) (d__law_power : Def P w K mg base "_law_power" 1 ["p", "e"] (sp__law_power K)) (F : Fun K "_law_seen" "_law_seen" s__law_seen f fd) : FnOk P w K mg base CX0 2 f fd ["p", "f", "a", "e"] (sp__law_seen K) := by
  refine F.ok S__law_seen (fun vs H Q E h => ?_) (fun cdv A outer s H vs Q E hr h => ?_)
  · obtain ⟨p, b, f, a, e, rfl, _⟩ := h
    rfl
  obtain ⟨p, b, f, a, e, rfl, hS, hl, hp, he, hf, ha, q⟩ := h
  have S := S__law_seen
  refine ⟨_, ((pss_cons (ps_set (i := 4) S.nd rfl (Or.inl rfl) (pe_op op_rep (pe_lst (pa_cons pe_int pa_nil)) (pe_callB call_len_seq rfl B.b_len PySem.boot_len (pa_cons (pv 1) pa_nil))))
    (pss_cons (ps_for PassesOwn.never rfl (pi_list (pe_listRev rfl rfl B.b_list rfl B.b_reversed (pv 1))) (pg_name (i := 5) S.nd rfl (Or.inl rfl)) (pss_cons (ps_for PassesOwn.never rfl (pi_rangeD rfl B.b_range (pa_cons (pe_op op_sub (pe_callB call_len_seq rfl B.b_len PySem.boot_len (pa_cons (pv 4) pa_nil)) pe_int) (pa_cons pe_int (pa_cons (pe_un un_neg pe_int) pa_nil)))) (pg_name (i := 6) S.nd rfl (Or.inl rfl)) (pss_one (ps_asg (pe_op op_add (pe_op op_mulW (pe_ix ix_list (pv 4) (pv 6) (fun _ _ => rfl)) (pv 2)) (pe_ix ix_list (pv 4) (pe_op op_sub (pv 6) pe_int) (fun _ _ => rfl))) (pg_sub (pv 4) (pv 6) set_list))))
    (pss_one (ps_asg (pe_op op_add (pe_op op_mulW (pe_ix ix_list (pv 4) pe_int (fun _ _ => rfl)) (pv 2)) (pv 5)) (pg_sub (pv 4) pe_int set_list)))))
    (pss_cons (ps_set (i := 7) S.nd rfl (Or.inl rfl) (pe_def d__law_power hr rfl (pa_cons (pv 0) (pa_cons (pv 3) pa_nil))))
    (pss_cons (ps_set (i := 8) S.nd rfl (Or.inl rfl) pe_int)
    (pss_cons (ps_for PassesOwn.never rfl (pi_range1 rfl B.b_range (pa_cons (pe_callB call_len_seq rfl B.b_len PySem.boot_len (pa_cons (pv 4) pa_nil)) pa_nil)) (pg_name (i := 6) S.nd rfl (Or.inl rfl)) (pss_cons (ps_asg (pe_op op_mulW (pe_ix ix_list (pv 4) (pv 6) (fun _ _ => rfl)) (pv 8)) (pg_sub (pv 4) (pv 6) set_list))
    (pss_one (ps_set (i := 8) S.nd rfl (Or.inl rfl) (pe_op op_mulW (pv 8) (pv 7))))))
    (pss_one (ps_ret (pv 4))))))))), ?_⟩
  have ba : Dr.Sm a 7 := sm_of 100 (by omega) (by decide)
  (try dsimp only); (first | refine hX _ _ ?_ | skip); (try dsimp only); (first | refine seqX (fun X hX => ?_) | skip); try walk_at "dr2"; (try simp only [sp__law_power]); try walk_at "dr2"
  refine ⟨by decide, ?_⟩
  intro l0 n_l0; generalize e_l0 : upd _ l0 _ = H1; obtain ⟨g1, k1⟩ := newH e_l0 n_l0; clear e_l0
  refine ⟨_, .inl (g1.seq hS), ?_⟩
  simp only [List.length_map]
  refine ⟨_, k1, by omega, by omega, by simp only [List.length_cons, List.length_nil]; unfold sizeLine; omega, ?_⟩
  intro l n_l; generalize e_l : upd _ l _ = H2; obtain ⟨g2, k2⟩ := newH e_l n_l; clear e_l
  rw [Int.toNat_natCast, rep_zero] at k2
  have nl : H l = none := g1.free n_l
  have g12 := g1.trans g2
  (try dsimp only); (first | refine hX _ _ ?_ | skip); (try dsimp only); (first | refine seqX (fun X hX => ?_) | skip); try walk_at "dr2"; (try simp only [sp__law_power]); try walk_at "dr2"
  refine ⟨_, g12.seq hS, ?_⟩
  intro lr n_lr; generalize e_lr : upd _ lr _ = H3; obtain ⟨g3, k3⟩ := newH e_lr n_lr; clear e_lr
  have k3 : H3 lr = some (.lst (f.reverse.map V.int)) := by rw [List.map_reverse]; exact k3
  refine ⟨⟨_, SqL.of k3⟩, ?_⟩
  have nlr : lr ≠ l := fun z => by rw [z, k2] at n_lr; cases n_lr
  obtain ⟨Pv, hPv⟩ : ∃ Pv : Nat → St → Hp → Prop, ∀ i σ H4, Pv i σ H4 ↔ (Same H H4 ∧ H4 lr = some (.lst (f.reverse.map V.int)) ∧ ∃ (s : List Int) (t5 t6 : Option V), s.length = f.length ∧ Dr.PolyB s (200 + 16 * i) ∧ (∀ k u, i ≤ k → s[k]? = some u → u = 0) ∧ (∀ y, Dr.pev s y = Dr.pev (f.drop (f.length - i)) (a + y)) ∧ H4 l = some (.lst (s.map V.int)) ∧ σ = [some (.int p), some (.ref b), some (.int a), some (.int e), some (.ref l), t5, t6, none, none]) := ⟨_, fun _ _ _ => Iff.rfl⟩
  (first | refine hX _ _ ?_ | skip); refine forI f.reverse Pv ((hPv _ _ _).mpr ⟨g12.trans g3, k3, List.replicate f.length 0, none, none, List.length_replicate, fun c hc => by rw [(List.mem_replicate.mp hc).2]; exact Dr.Sm.zero _, fun k u _ h => (List.mem_replicate.mp (List.mem_of_getElem? h)).2, fun y => by rw [Dr.pev_zeros]; simp [Dr.pev], g3 _ _ k2, rfl⟩) (fun i σ H4 z => by obtain ⟨_, k, _⟩ := (hPv _ _ _).mp z; exact SqL.of k) ?_ ?_
  · intro i x σ H4 hx z
    obtain ⟨g4, kr, s, t5, t6, ls, bs, zs, es, k4, rfl⟩ := (hPv _ _ _).mp z
    have hi : i < f.length := by
      have := (List.getElem?_eq_some_iff.mp hx).1
      simpa using this
    have bx : Dr.Sm x 200 := hf x (List.mem_reverse.mp (List.mem_of_getElem? hx))
    (try dsimp only); (first | refine hX _ _ ?_ | skip); (try dsimp only); (first | refine seqX (fun X hX => ?_) | skip); try walk_at "dr2"; (try simp only [sp__law_power]); try walk_at "dr2"
    refine ⟨_, .inl (SqL.of k4), by rw [List.length_map]; omega, by rw [List.length_map]; omega, ?_⟩
    rw [List.length_map, ls]
    refine ⟨by decide, by decide, ?_⟩
    obtain ⟨Pw, hPw⟩ : ∃ Pw : Nat → St → Hp → Prop, ∀ t σ H5, Pw t σ H5 ↔ (Same H H5 ∧ H5 lr = some (.lst (f.reverse.map V.int)) ∧ ∃ (L : List Int) (t6 : Option V), L.length = f.length ∧ Dr.PolyB L (200 + 16 * i + 9) ∧ (∀ k u v, 1 ≤ k → f.length ≤ k + t → s[k]? = some u → (x :: s)[k]? = some v → L[k]? = some (u * a + v)) ∧ (∀ k, k + t < f.length → L[k]? = s[k]?) ∧ H5 l = some (.lst (L.map V.int)) ∧ σ = [some (.int p), some (.ref b), some (.int a), some (.int e), some (.ref l), some (.int x), t6, none, none]) := ⟨_, fun _ _ _ => Iff.rfl⟩
    (first | refine hX _ _ ?_ | skip); refine forC Pw ((hPw _ _ _).mpr ⟨g4, kr, s, t6, ls, fun c hc => (bs c hc).mono (by omega), fun k u v _ h1 h2 => absurd (List.getElem?_eq_some_iff.mp h2).1 (by omega), fun k _ => rfl, k4, rfl⟩) ?_ ?_
    · intro t σ H5 ht z
      obtain ⟨g5, kr5, L, t6, lL, bL, hL, oL, k5, rfl⟩ := (hPw _ _ _).mp z
      (first | refine hX _ _ ?_ | skip); (try dsimp only); try walk_at "dr1"; (try simp only [sp__law_power]); try walk_at "dr1"
      obtain ⟨kk, ekk⟩ : ∃ kk : Nat, kk + 1 + t + 1 = f.length := ⟨f.length - 2 - t, by omega⟩
      have e1 : (f.length : Int) - 1 + (t : Int) * -1 = ((kk + 1 : Nat) : Int) := by omega
      have e2 : (f.length : Int) - 1 + (t : Int) * -1 - 1 = ((kk : Nat) : Int) := by omega
      rw [e2, e1]
      obtain ⟨u, u1, u2, u3, _⟩ := get_int (fs := L) (k := ((kk + 1 : Nat) : Int)) (by omega) (by omega)
      obtain ⟨v, v1, v2, _, _⟩ := get_int (fs := L) (k := ((kk : Nat) : Int)) (by omega) (by omega)
      rw [Int.toNat_natCast] at u1 v1 u3
      have us := u1
      have vs := v1
      rw [oL _ (by omega)] at us vs
      have bu := bs u (List.mem_of_getElem? us)
      have bv := bs v (List.mem_of_getElem? vs)
      refine ⟨_, SqL.of k5, _, u2, u, rfl, mulSm bu ba (by omega), _, SqL.of k5, _, v2, v, rfl, _, k5, _, u3, ?_⟩
      rw [set_int]
      refine (hPw _ _ _).mpr ⟨g5.up nl _, by rw [upd_ne nlr]; exact kr5, _, _, by rw [List.length_set]; exact lL, fun c hc => ?_, fun k u' v' h1 h2 h3 h4 => ?_, fun k hk => ?_, upd_same, rfl⟩
      · rcases mem_set hc with w | w
        · exact bL c w
        · rw [w]
          exact ((bu.mul ba).add bv).mono (by omega)
      · by_cases ek : k = kk + 1
        · subst ek
          rw [us] at h3
          cases h3
          have h4 : s[kk]? = some v' := h4
          rw [vs] at h4
          cases h4
          rw [List.getElem?_set_self (by omega)]
        · rw [List.getElem?_set_ne (Ne.symm ek)]
          exact hL k u' v' h1 (by omega) h3 h4
      · rw [List.getElem?_set_ne (by omega)]
        exact oL k (by omega)
    · intro σ H5 z
      obtain ⟨g5, kr5, L, t6, lL, bL, hL, oL, k5, rfl⟩ := (hPw _ _ _).mp z
      (first | refine hX _ _ ?_ | skip); (try dsimp only); try walk_at "dr1"; (try simp only [sp__law_power]); try walk_at "dr1"
      obtain ⟨u, u1, u2, u3, _⟩ := get_int (fs := L) (k := 0) (by omega) (by omega)
      have u1 : L[0]? = some u := u1
      have us := u1
      rw [oL _ (by omega)] at us
      have bu := bs u (List.mem_of_getElem? us)
      refine ⟨_, SqL.of k5, _, u2, u, rfl, mulSm bu ba (by omega), _, k5, _, u3, ?_⟩
      rw [set_int]
      have nx : Dr.NextOf s a x (L.set 0 (u * a + x)) := ⟨by rw [List.length_set, lL, ls], fun k u' v' h1 h2 => by
        by_cases ek : k = 0
        · subst ek
          rw [us] at h1
          cases h1
          cases h2
          rw [List.getElem?_set_self (by omega)]
        · rw [List.getElem?_set_ne (Ne.symm ek)]
          exact hL k u' v' (by omega) (by have := (List.getElem?_eq_some_iff.mp h1).1; omega) h1 h2⟩
      have lst : s.getLastD x = 0 := by
        have h1 : s ≠ [] := List.ne_nil_of_length_pos (by omega)
        rw [List.getLastD_eq_getLast?, List.getLast?_eq_getElem?]
        have h2 : s[s.length - 1]? = some s[s.length - 1] := List.getElem?_eq_getElem (by omega)
        rw [h2]
        exact zs _ _ (by omega) h2
      refine (hPv _ _ _).mpr ⟨g5.up nl _, by rw [upd_ne nlr]; exact kr5, _, _, _, by rw [List.length_set]; exact lL, fun c hc => ?_, nx.top zs, fun y => ?_, upd_same, rfl⟩
      · rcases mem_set hc with w | w
        · exact (bL c w).mono (by omega)
        · have w : c = u * a + x := w
          rw [w]
          exact ((bu.mul ba).add bx).mono (by omega)
      · have := nx.ev lst y
        rw [es] at this
        rw [Dr.pev_rev hx, this, Int.mul_comm]
  · intro σ H4 z
    obtain ⟨g4, kr, s, t5, t6, ls, bs, zs, es, k4, rfl⟩ := (hPv _ _ _).mp z
    rw [List.length_reverse] at bs zs es
    rw [Nat.sub_self, List.drop_zero] at es
    have bW : Dr.Sm (p ^ e.toNat) 601 := (show Dr.Sm (p ^ e.toNat) (10 * e.toNat + 1) from pow_bits hp e.toNat).mono (by omega)
    (try dsimp only); (first | refine hX _ _ ?_ | skip); (try dsimp only); (first | refine seqX (fun X hX => ?_) | skip); try walk_at "dr2"; (try simp only [sp__law_power]); try walk_at "dr2"
    refine ⟨hp.1, hp.2, he.1, by omega, ?_⟩
    generalize p ^ e.toNat = W at q bW ⊢
    (try dsimp only); (first | refine hX _ _ ?_ | skip); (try dsimp only); (first | refine seqX (fun X hX => ?_) | skip); try walk_at "dr2"; (try simp only [sp__law_power]); try walk_at "dr2"
    (try dsimp only); (first | refine hX _ _ ?_ | skip); (try dsimp only); (first | refine seqX (fun X hX => ?_) | skip); try walk_at "dr2"; (try simp only [sp__law_power]); try walk_at "dr2"
    refine ⟨_, .inl (SqL.of k4), ?_⟩
    rw [List.length_map, ls]
    refine ⟨by omega, by omega, ?_⟩
    rw [Int.toNat_natCast]
    obtain ⟨Pu, hPu⟩ : ∃ Pu : Nat → St → Hp → Prop, ∀ t σ H5, Pu t σ H5 ↔ (Same H H5 ∧ ∃ (L : List Int) (t6 : Option V), L.length = f.length ∧ (∀ k u, s[k]? = some u → L[k]? = some (u * (if k < t then 1 * W ^ k else 1))) ∧ H5 l = some (.lst (L.map V.int)) ∧ σ = [some (.int p), some (.ref b), some (.int a), some (.int e), some (.ref l), t5, t6, some (.int W), some (.int (W ^ t))]) := ⟨_, fun _ _ _ => Iff.rfl⟩
    (first | refine hX _ _ ?_ | skip); refine forR Pu ((hPu _ _ _).mpr ⟨g4, s, t6, ls, fun k u h => by rw [if_neg (by omega), Int.mul_one]; exact h, k4, by rw [Int.pow_zero]⟩) ?_ ?_
    · intro t σ H5 ht z
      obtain ⟨g5, L, t6, lL, hL, k5, rfl⟩ := (hPu _ _ _).mp z
      (first | refine hX _ _ ?_ | skip); (try dsimp only); try walk_at "dr1"; (try simp only [sp__law_power]); try walk_at "dr1"
      rw [Int.zero_add]
      obtain ⟨u, u1, u2, u3, _⟩ := get_int (fs := L) (k := ((t : Nat) : Int)) (by omega) (by omega)
      rw [Int.toNat_natCast] at u1 u3
      have us : s[t]? = some s[t] := List.getElem?_eq_getElem (by omega)
      have e1 := hL t _ us
      rw [u1, if_neg (Nat.lt_irrefl _), Int.mul_one] at e1
      have e1 := Option.some.inj e1
      have bu : Dr.Sm u 408 := by
        rw [e1]
        exact (bs _ (List.getElem_mem _)).mono (by omega)
      have bt : Dr.Sm (W ^ t) 8000 := (bW.pow t).mono (by
        have : 601 * t ≤ 601 * 13 := Nat.mul_le_mul_left _ (by omega)
        omega)
      refine ⟨_, SqL.of k5, _, u2, u, rfl, mulSm bu bt (by omega), _, k5, _, u3, mulSm bt bW (by omega), ?_⟩
      rw [set_int]
      refine (hPu _ _ _).mpr ⟨g5.up nl _, _, _, by rw [List.length_set]; exact lL, fun k v h => ?_, upd_same, by rw [Int.pow_succ]⟩
      by_cases ek : k = t
      · subst ek
        rw [us] at h
        cases h
        rw [List.getElem?_set_self (by omega), if_pos (Nat.lt_succ_self _), e1, Int.one_mul]
      · rw [List.getElem?_set_ne (Ne.symm ek), hL k v h]
        by_cases c : k < t
        · rw [if_pos c, if_pos (by omega)]
        · rw [if_neg c, if_neg (by omega)]
    · intro σ H5 z
      obtain ⟨g5, L, t6, lL, hL, k5, rfl⟩ := (hPu _ _ _).mp z
      (first | refine hX _ _ ?_ | skip); (try dsimp only); try walk_at "dr1"; (try simp only [sp__law_power]); try walk_at "dr1"
      refine q l L H5 ⟨lL, fun y => ?_⟩ nl g5 k5
      rw [Dr.pev_scale W y s L 1 (by rw [lL, ls]) (fun k u h => by
        have := hL k u h
        rw [if_pos (by have := (List.getElem?_eq_some_iff.mp h).1; omega)] at this
        exact this), es, Int.one_mul]
inductive Made (p way n : Int) (f g : List Int) : List Int → Prop
  | times {r : List Int} : way = 3 → 0 < g.length → f.length + g.length ≤ 14 → Dr.IsProd f g r → Made p way n f g r
  | seen {s : List Int} : way = 4 → Dr.IsSeen f (n % 201 - 100) (p ^ (deepOf n).toNat) s → Made p way n f g s
  | slope : way = 5 → Made p way n f g (Dr.pslope f)
def sp__law_made (K : PySem.W.Frag) : Sp := fun vs H Q _ => ∃ (p way n : Int) (b c : Addr) (f g : List Int), vs = [.int p, .int way, .int n, .ref b, .ref c] ∧ (way = 3 ∨ way = 4 ∨ way = 5) ∧ SqL K H b (f.map V.int) ∧ SqL K H c (g.map V.int) ∧ (0 < f.length ∧ f.length ≤ 13) ∧ g.length ≤ 13 ∧ (way = 3 → 0 < g.length) ∧ (2 ≤ p ∧ p < 1000) ∧ Dr.PolyB f 200 ∧ Dr.PolyB g 200 ∧
  (way = 3 → 14 < f.length + g.length → Q .non H) ∧ ∀ (l : Addr) (r : List Int) (H' : Hp), Made p way n f g r → H l = none → Same H H' → H' l = some (.lst (r.map V.int)) → Q (.ref l) H'
theorem ok__law_made (B : Bi mg K w) (d__law_times : Def P w K mg base "_law_times" 1 ["f", "g"] (sp__law_times K)) (d__law_seen : Def P w K mg base "_law_seen" 2 ["p", "f", "a", "e"] (sp__law_seen K)) (d__law_deep : Def P w K mg base "_law_deep" 1 ["number"] (sp__law_deep K)) (F : Fun K "_law_made" "_law_made" s__law_made f fd) : FnOk P w K mg base CX0 3 f fd ["p", "way", "number", "one", "other"] (sp__law_made K) := by
  refine F.ok S__law_made (fun vs H Q E h => ?_) (fun cdv A outer s H vs Q E hr h => ?_)
  · obtain ⟨p, way, n, b, c, f, g, rfl, _⟩ := h
    rfl
  obtain ⟨p, way, n, b, c, f, g, rfl, hw, hb, hc, lf, lg, g0, hp, bf, bg, qN, q⟩ := h
  have S := S__law_made
  refine ⟨_, ((pss_cons (ps_if (pt_cmpR op_eq (pv 1) pe_int (nomark _)) (pss_cons (ps_if (pt_cmpR op_gt (pe_op op_add (pe_callB call_len_seq rfl B.b_len PySem.boot_len (pa_cons (pv 3) pa_nil)) (pe_callB call_len_seq rfl B.b_len PySem.boot_len (pa_cons (pv 4) pa_nil))) pe_int (nomark _)) (pss_one (ps_ret pe_non)) pss_nil)
    (pss_one (ps_ret (pe_def d__law_times hr rfl (pa_cons (pv 3) (pa_cons (pv 4) pa_nil)))))) pss_nil)
    (pss_cons (ps_if (pt_cmpR op_eq (pv 1) pe_int (nomark _)) (pss_one (ps_ret (pe_def d__law_seen hr rfl (pa_cons (pv 0) (pa_cons (pv 3) (pa_cons (pe_op op_sub (pe_op op_mod (pv 2) pe_int) pe_int) (pa_cons (pe_def d__law_deep hr rfl (pa_cons (pv 2) pa_nil)) pa_nil))))))) pss_nil)
    (pss_cons (ps_if (pt_cmpR op_eq (pe_callB call_len_seq rfl B.b_len PySem.boot_len (pa_cons (pv 3) pa_nil)) pe_int (nomark _)) (pss_one (ps_ret (pe_lst (pa_cons pe_int pa_nil)))) pss_nil)
    (pss_one (ps_ret (pe_comp [3] ["one"] rfl rfl ⟨rfl, trivial⟩ ⟨rfl, rfl, rfl, rfl, trivial⟩ rfl rfl (by decide) (by decide) rfl rfl (by decide) (pi_range2 rfl B.b_range (pa_cons pe_int (pa_cons (pe_callB call_len_seq rfl B.b_len PySem.boot_len (pa_cons (pv 3) pa_nil)) pa_nil))) (fun _ _ _ _ => pts_nil) (fun _ _ _ _ => (pe_op op_mulW (pv 0) (pe_ix (ix_listK (K := K) rfl) (pv 1) (pv 0) (fun _ _ => rfl))))))))))), ?_⟩
  (first | refine hX _ _ ?_ | skip); (try dsimp only); try walk_at "dr1"; (try simp only [sp__law_times, sp__law_seen, sp__law_deep]); try walk_at "dr1"
  have m201 := mod_in n (show (0 : Int) < 201 by decide)
  refine ite2 (fun c3 => ⟨_, .inl hb, _, .inl hc, ?_⟩) (fun n3 => ite2 (fun c4 => fun he => ⟨f, hb, lf.1, lf.2, hp.1, hp.2, he.1, he.2, bf, by omega, by omega, fun l s H' h1 h2 h3 h4 => q l s H' (.seen c4 h1) h2 h3 h4⟩) (fun n4 => ⟨_, .inl hb, ?_⟩))
  · simp only [List.length_map]
    have := g0 c3
    exact ite2 (fun z => qN c3 (by omega)) (fun z => ⟨f, hb, g, hc, by omega, by omega, by omega, by omega, 200, bf, 200, bg, by decide, by decide, fun l r H' h1 _ h3 h4 h5 => q l r H' (.times c3 this (by omega) h1) h3 h4 h5⟩)
  · have w5 : way = 5 := by omega
    refine ite2 (fun z => ⟨by decide, fun l hl => ?_⟩) (fun z => ⟨_, .inl hb, by decide, by decide, by rw [List.length_map]; omega, by rw [List.length_map]; omega, ?_⟩)
    · rw [List.length_map] at z
      obtain ⟨x, rfl⟩ : ∃ x, f = [x] := List.length_eq_one_iff.mp (by omega)
      exact q l _ _ (.slope w5) hl (newS hl) upd_same
    · rw [List.length_map] at z
      refine comp_dmI hb (by omega) rfl fun l hl => ?_
      have es : Dr.dm 1 f.tail = Dr.pslope f := by
        match f, lf with
        | [x], _ => exact absurd rfl z
        | x :: y :: g, _ => rfl
      rw [es]
      exact q l _ _ (.slope w5) hl (newS hl) upd_same
def Sk (kd : Addr) (H H' : Hp) : Prop := ∀ b o, b ≠ kd → H b = some o → H' b = some o
theorem Sk.refl (kd : Addr) (H : Hp) : Sk kd H H := fun _ _ _ h => h
theorem Sk.trans {kd : Addr} {H H1 H2 : Hp} (h : Sk kd H H1) (g : Sk kd H1 H2) : Sk kd H H2 := fun b o n e => g b o n (h b o n e)
theorem Sk.of {kd : Addr} {H H' : Hp} (g : Same H H') : Sk kd H H' := fun b o _ e => g b o e
theorem Sk.upd {kd : Addr} {H : Hp} {o : HO} : Sk kd H (L2.upd H kd o) := fun b o n e => by rw [upd_ne n]; exact e
theorem not_kd {H : Hp} {a kd : Addr} {xs : List V} {kvs : List (Key × V)} (h : H a = some (.lst xs)) (hk : H kd = some (.dK kvs)) : a ≠ kd := fun z => by
  rw [z, hk] at h
  cases h
theorem Sk.lst {kd a : Addr} {H H' : Hp} {xs : List V} {kvs : List (Key × V)} (g : Sk kd H H') (hk : H kd = some (.dK kvs)) (h : H a = some (.lst xs)) : H' a = some (.lst xs) := g _ _ (not_kd h hk) h
theorem Sk.seq {K : PySem.W.Frag} {kd a : Addr} {H H' : Hp} {xs : List V} {kvs : List (Key × V)} (g : Sk kd H H') (hk : H kd = some (.dK kvs)) (h : SqL K H a xs) : SqL K H' a xs := by
  rcases h with (z | ⟨o, z⟩) | z
  · exact .inl (.inl (g _ _ (not_kd z hk) z))
  · refine .inl (.inr ⟨o, g _ _ (fun e => ?_) z⟩)
    rw [e, hk] at z
    cases z
  · exact .inr z
structure Pl (H : Hp) (z : Str) (b c : Addr) (f : List Int) : Prop where
  nm : Nm z
  one : H b = some (.lst (f.map V.int))
  two : H c = some (.lst (f.map V.int))
  len : 0 < f.length ∧ f.length ≤ 13
  small : ∀ x, x ∈ f → x.natAbs < 10 ^ 60
inductive Tw (H : Hp) : List (Key × V) → List (Key × V) → Prop
  | nil : Tw H [] []
  | cons {z : Str} {b c : Addr} {f : List Int} {r r' : List (Key × V)} : Pl H z b c f → Tw H r r' → Tw H ((Sum.inr z, .ref b) :: r) ((Sum.inr z, .ref c) :: r')
section
variable {H H' : Hp} {r r' : List (Key × V)}
theorem Tw.sk {kd : Addr} {kvs : List (Key × V)} (t : Tw H r r') (g : Sk kd H H') (hk : H kd = some (.dK kvs)) : Tw H' r r' := by
  induction t with
  | nil => exact .nil
  | cons p _ ih => exact .cons ⟨p.nm, g.lst hk p.one, g.lst hk p.two, p.len, p.small⟩ ih
theorem Tw.same (t : Tw H r r') (g : Same H H') : Tw H' r r' := by
  induction t with
  | nil => exact .nil
  | cons p _ ih => exact .cons ⟨p.nm, g _ _ p.one, g _ _ p.two, p.len, p.small⟩ ih
theorem Tw.len (t : Tw H r r') : r.length = r'.length := by
  induction t with
  | nil => rfl
  | cons _ _ ih => simp [ih]
theorem Tw.any (t : Tw H r r') (k : Key) : (r.any fun kv => decide (kv.1 = k)) = r'.any fun kv => decide (kv.1 = k) := by
  induction t with
  | nil => rfl
  | cons _ _ ih => simp only [List.any_cons, ih]
theorem Tw.put {z : Str} {b c : Addr} {f : List Int} (t : Tw H r r') (p : Pl H z b c f) : Tw H (putK r (Sum.inr z) (.ref b)) (putK r' (Sum.inr z) (.ref c)) := by
  have h1 : Tw H (r.map fun kv => if kv.1 = Sum.inr z then (kv.1, V.ref b) else kv) (r'.map fun kv => if kv.1 = Sum.inr z then (kv.1, V.ref c) else kv) := by
    induction t with
    | nil => exact .nil
    | @cons y b' c' f' q q' p' _ ih =>
      simp only [List.map_cons]
      by_cases e : y = z
      · subst e
        rw [if_pos rfl, if_pos rfl]
        exact .cons p ih
      · have e' : ¬ (Sum.inr y : Key) = Sum.inr z := fun w => e (Sum.inr.inj w)
        rw [if_neg e', if_neg e']
        exact .cons p' ih
  have h2 : Tw H (r ++ [(Sum.inr z, V.ref b)]) (r' ++ [(Sum.inr z, V.ref c)]) := by
    clear h1
    induction t with
    | nil => exact .cons p .nil
    | cons p' _ ih => exact .cons p' ih
  unfold putK
  rw [← t.any]
  split
  · exact h1
  · exact h2
theorem Tw.drop {z : Str} (t : Tw H r r') : Tw H (dropK r (Sum.inr z)) (dropK r' (Sum.inr z)) := by
  induction t with
  | nil => exact .nil
  | @cons y b c f q q' p _ ih =>
    by_cases e : (Sum.inr y : Key) = Sum.inr z
    · rw [dropK_pos e, dropK_pos e]
      exact ih
    · rw [dropK_neg e, dropK_neg e]
      exact .cons p ih
theorem Tw.at (t : Tw H r r') (z : Str) : (valV r (Sum.inr z) = none ∧ valV r' (Sum.inr z) = none) ∨ ∃ b c f, valV r (Sum.inr z) = some (.ref b) ∧ valV r' (Sum.inr z) = some (.ref c) ∧ Pl H z b c f := by
  induction t with
  | nil => exact .inl ⟨rfl, rfl⟩
  | @cons y b c f q q' p _ ih =>
    by_cases e : y = z
    · subst e
      exact .inr ⟨b, c, f, valV_pos rfl, valV_pos rfl, p⟩
    · have e' : ¬ (Sum.inr y : Key) = Sum.inr z := fun w => e (Sum.inr.inj w)
      rw [valV_neg (p := (Sum.inr y, V.ref b)) e', valV_neg (p := (Sum.inr y, V.ref c)) e']
      exact ih
theorem Tw.keys (t : Tw H r r') : ∃ ss : List Str, r.map (·.1) = ss.map Sum.inr ∧ r'.map (·.1) = ss.map Sum.inr ∧ (∀ s, s ∈ ss → Nm s) ∧ ss.length = r.length := by
  induction t with
  | nil => exact ⟨[], rfl, rfl, (fun _ h => nomatch h), rfl⟩
  | @cons y b c f q q' p _ ih =>
    obtain ⟨ss, h1, h2, h3, h4⟩ := ih
    refine ⟨y :: ss, by simp [h1], by simp [h2], fun s hs => ?_, by simp [h4]⟩
    rcases List.mem_cons.mp hs with rfl | hs
    · exact p.nm
    · exact h3 s hs
end
def madeW (way n : Int) (z x y : Str) : List Str := if way = 3 then ["times", z, x, y] else if way = 4 then ["seen", z, x, Tx.tx (n % 201 - 100), Tx.tx (deepOf n)] else ["slope", z, x]
def smallF (f : List Int) : Prop := ∀ x, x ∈ f → x.natAbs < 10 ^ 60
inductive Outc (H : Hp) (p : Int) (r kvs kvs' : List (Key × V)) : List Str → Str → Prop
  | poly {z : Str} {f : List Int} {c : Addr} : Nm z → f ≠ [] → f.length ≤ 13 → smallF f → H c = some (.lst (f.map V.int)) → kvs' = putK kvs (Sum.inr z) (.ref c) → Outc H p r kvs kvs' ["poly", z, Tx.shown f] "ok"
  | shwN {x : Str} : Nm x → valV r (Sum.inr x) = none → kvs' = kvs → Outc H p r kvs kvs' ["show", x] "NoName"
  | shw {x : Str} {b c : Addr} {f : List Int} : valV r (Sum.inr x) = some (.ref b) → Pl H x b c f → kvs' = kvs → Outc H p r kvs kvs' ["show", x] (Tx.shown f)
  | dropN {x : Str} : Nm x → valV r (Sum.inr x) = none → kvs' = kvs → Outc H p r kvs kvs' ["drop", x] "NoName"
  | drop {x : Str} {b c : Addr} {f : List Int} : valV r (Sum.inr x) = some (.ref b) → Pl H x b c f → kvs' = dropK kvs (Sum.inr x) → Outc H p r kvs kvs' ["drop", x] "ok"
  | names {ss zs : List Str} : r.map (·.1) = ss.map Sum.inr → (∀ s, s ∈ ss → Nm s) → zs.Perm ss → PyProof.Rows.sortedS zs = true → kvs' = kvs → Outc H p r kvs kvs' ["names"] (Str.join (Str.ofString " ") zs)
  | madeN {way n : Int} {z x y : Str} : (way = 3 ∨ way = 4 ∨ way = 5) → Nm z → Nm x → Nm y → (valV r (Sum.inr x) = none ∨ (way = 3 ∧ valV r (Sum.inr y) = none)) → kvs' = kvs → Outc H p r kvs kvs' (madeW way n z x y) "NoName"
  | madeG {way n : Int} {z x y : Str} {b c b2 c2 : Addr} {f g m : List Int} : (way = 3 ∨ way = 4 ∨ way = 5) → Nm z → valV r (Sum.inr x) = some (.ref b) → Pl H x b c f → (way = 3 → valV r (Sum.inr y) = some (.ref b2) ∧ Pl H y b2 c2 g) → ((way = 3 ∧ 14 < f.length + g.length) ∨ (Made p way n f g m ∧ ¬ smallF m)) → kvs' = kvs → Outc H p r kvs kvs' (madeW way n z x y) "TooGreat"
  | made {way n : Int} {z x y : Str} {b c b2 c2 l : Addr} {f g m : List Int} : (way = 3 ∨ way = 4 ∨ way = 5) → Nm z → valV r (Sum.inr x) = some (.ref b) → Pl H x b c f → (way = 3 → valV r (Sum.inr y) = some (.ref b2) ∧ Pl H y b2 c2 g) → Made p way n f g m → smallF m → H l = some (.lst (m.map V.int)) → kvs' = putK kvs (Sum.inr z) (.ref l) → Outc H p r kvs kvs' (madeW way n z x y) "ok"
theorem app_assoc (a b c : Str) : a ++ b ++ c = a ++ (b ++ c) := congrArg Str.mk Array.append_assoc
theorem app_len (a b : Str) : (a ++ b).length = a.length + b.length := Array.size_append
theorem jn2 {t a s : Str} (h : t = a ++ Str.ofString " ") : t ++ s = Str.join (Str.ofString " ") [a, s] := by
  show _ = a ++ Str.ofString " " ++ s
  rw [h]
theorem jn3 {t a b s : Str} (h : t = a ++ Str.ofString " ") : t ++ b ++ Str.ofString " " ++ s = Str.join (Str.ofString " ") [a, b, s] := by
  show _ = a ++ Str.ofString " " ++ (b ++ Str.ofString " " ++ s)
  rw [h]
  simp only [app_assoc]
theorem jn4 {t a b c s : Str} (h : t = a ++ Str.ofString " ") : t ++ b ++ Str.ofString " " ++ c ++ Str.ofString " " ++ s = Str.join (Str.ofString " ") [a, b, c, s] := by
  show _ = a ++ Str.ofString " " ++ (b ++ Str.ofString " " ++ (c ++ Str.ofString " " ++ s))
  rw [h]
  simp only [app_assoc]
theorem jn5 {t a b c d s : Str} (h : t = a ++ Str.ofString " ") : t ++ b ++ Str.ofString " " ++ c ++ Str.ofString " " ++ d ++ Str.ofString " " ++ s = Str.join (Str.ofString " ") [a, b, c, d, s] := by
  show _ = a ++ Str.ofString " " ++ (b ++ Str.ofString " " ++ (c ++ Str.ofString " " ++ (d ++ Str.ofString " " ++ s)))
  rw [h]
  simp only [app_assoc]
theorem t_poly : Str.ofString "poly " = ("poly" : Str) ++ Str.ofString " " := by decide +kernel
theorem t_show : Str.ofString "show " = ("show" : Str) ++ Str.ofString " " := by decide +kernel
theorem t_drop : Str.ofString "drop " = ("drop" : Str) ++ Str.ofString " " := by decide +kernel
theorem t_times : Str.ofString "times " = ("times" : Str) ++ Str.ofString " " := by decide +kernel
theorem t_seen : Str.ofString "seen " = ("seen" : Str) ++ Str.ofString " " := by decide +kernel
theorem t_slope : Str.ofString "slope " = ("slope" : Str) ++ Str.ofString " " := by decide +kernel
theorem l_poly : (Str.ofString "poly ").length = 5 := by decide +kernel
theorem l_show : (Str.ofString "show ").length = 5 := by decide +kernel
theorem l_drop : (Str.ofString "drop ").length = 5 := by decide +kernel
theorem l_times : (Str.ofString "times ").length = 6 := by decide +kernel
theorem l_seen : (Str.ofString "seen ").length = 5 := by decide +kernel
theorem l_slope : (Str.ofString "slope ").length = 6 := by decide +kernel
theorem le_line {n : Nat} (h : n ≤ 4000) : n ≤ sizeLine := Nat.le_trans h (by decide)
theorem lt190 {x : Int} (h : x.natAbs < 10 ^ 60) : x.natAbs < 10 ^ 190 := Nat.lt_of_lt_of_le h (Nat.pow_le_pow_right (by decide) (by decide))
theorem ite3 {a b c A B : Prop} [Decidable a] [Decidable b] [Decidable c] (h : (a ∧ b) ∨ c → A) (g : ¬ ((a ∧ b) ∨ c) → B) : if a then (if b then A else if c then A else B) else if c then A else B := by
  by_cases x : a
  · rw [if_pos x]
    by_cases y : b
    · rw [if_pos y]
      exact h (.inl ⟨x, y⟩)
    · rw [if_neg y]
      by_cases w : c
      · rw [if_pos w]
        exact h (.inr w)
      · rw [if_neg w]
        exact g fun z => z.elim (fun z => y z.2) w
  · rw [if_neg x]
    by_cases w : c
    · rw [if_pos w]
      exact h (.inr w)
    · rw [if_neg w]
      exact g fun z => z.elim (fun z => x z.1) w
theorem dget_some {H : Hp} {a : Addr} {kvs : List (Key × V)} {z : Str} {v : V} (h : H a = some (.dK kvs)) (e : valV kvs (Sum.inr z) = some v) : DGet H a (.str z) (some v) := by
  rw [← e]
  exact DGet.k (k := Sum.inr z) h
theorem slope_pos {f : List Int} (h : 0 < f.length) : 0 < (Dr.pslope f).length := by
  match f, h with
  | [x], _ => exact Nat.succ_pos _
  | x :: y :: g, _ =>
    show 0 < (Dr.dm 1 (y :: g)).length
    rw [Dr.dm_length]
    exact Nat.succ_pos _
theorem Made.len {p way n : Int} {f g m : List Int} (h : Made p way n f g m) (hf : 0 < f.length ∧ f.length ≤ 13) : 0 < m.length ∧ m.length ≤ 13 := by
  cases h with
  | times _ h0 h1 h2 =>
    have := h2.len
    omega
  | seen _ h2 =>
    have := h2.len
    omega
  | slope => exact ⟨slope_pos hf.1, Nat.le_trans (slope_len hf.1) hf.2⟩
def sp__law_step (K : PySem.W.Frag) : Sp := fun vs H Q _ => ∃ (p n : Int) (qd ln : Addr) (r kvs : List (Key × V)) (nms : List Str), vs = [.int p, .int n, .ref qd, .ref ln] ∧ (2 ≤ p ∧ p < 1000) ∧ H qd = some (.dK kvs) ∧ Tw H r kvs ∧ kvs.length < 60 ∧ H ln = some (.lst (nms.map V.str)) ∧ nms.length = 5 ∧ (∀ z, z ∈ nms → Nm z) ∧
  ∀ (l : Addr) (ws : List Str) (due : Str) (kvs' : List (Key × V)) (H' : Hp), Outc H' p r kvs kvs' ws due → Sk qd H H' → H' qd = some (.dK kvs') → H' l = some (.lst [.str (Str.join (Str.ofString " ") ws), .str due]) → Q (.ref l) H'
theorem ok__law_step (B : Bi mg K w) (d__law_numbers : Def P w K mg base "_law_numbers" 1 ["number"] (sp__law_numbers K)) (d__law_shown : Def P w K mg base "_law_shown" 1 ["f"] (sp__law_shown K)) (d__law_made : Def P w K mg base "_law_made" 3 ["p", "way", "number", "one", "other"] (sp__law_made K)) (d__law_deep : Def P w K mg base "_law_deep" 1 ["number"] (sp__law_deep K)) (F : Fun K "_law_step" "_law_step" s__law_step f fd) : FnOk P w K mg base CX0 4 f fd ["p", "number", "kept", "names"] (sp__law_step K) := by
  refine F.ok S__law_step (fun vs H Q E h => ?_) (fun cdv A outer s H vs Q E hr h => ?_)
  · obtain ⟨p, n, qd, ln, r, kvs, nms, rfl, _⟩ := h
    rfl
  obtain ⟨p, n, qd, ln, r, kvs, nms, rfl, hp, kq, tw, lk, kn, ln5, hnm, q⟩ := h
  have S := S__law_step
  refine ⟨_, ((pss_cons (ps_set (i := 4) S.nd rfl (Or.inl rfl) (pe_op op_mod (pv 1) pe_int))
    (pss_cons (ps_asg (pe_lst (pa_cons (pe_ix ix_list (pv 3) (pe_op op_mod (pe_op op_fdivW (pv 1) pe_int) pe_int) (fun _ _ => rfl)) (pa_cons (pe_ix ix_list (pv 3) (pe_op op_mod (pe_op op_fdivW (pv 1) pe_int) pe_int) (fun _ _ => rfl)) (pa_cons (pe_ix ix_list (pv 3) (pe_op op_mod (pe_op op_fdivW (pv 1) pe_int) pe_int) (fun _ _ => rfl)) pa_nil)))) (pg_lst rfl (pgs_cons (pg_name (i := 5) S.nd rfl (Or.inl rfl)) (pgs_cons (pg_name (i := 6) S.nd rfl (Or.inl rfl)) (pgs_cons (pg_name (i := 7) S.nd rfl (Or.inl rfl)) pgs_nil)))))
    (pss_cons (ps_set (i := 1) S.nd rfl (Or.inl rfl) (pe_op op_fdivW (pv 1) pe_int))
    (pss_cons (ps_if (pt_cmpR op_lt (pv 4) pe_int (nomark _)) (pss_cons (ps_dput (hu1 hr.units) (pv 2) (pv 5) (pe_def d__law_numbers hr rfl (pa_cons (pv 1) pa_nil)) rfl)
    (pss_one (ps_ret (pe_lst (pa_cons (pe_op op_add_str (pe_op op_add_str (pe_op op_add_str pe_str (pv 5)) pe_str) (pe_def d__law_shown hr rfl (pa_cons (pe_dget (hu1 hr.units) (pv 2) (pv 5) (fun _ _ => rfl)) pa_nil))) (pa_cons pe_str pa_nil)))))) pss_nil)
    (pss_cons (ps_if (PW.pt (pw_or (PW.pt (pw_and (pt_cmpR op_eq (pv 4) pe_int (nomark _)) (pw_and1 (pt_cmpR op_gt (pe_op op_mod (pv 1) pe_int) pe_int (nomark _))))) (pw_or1 (pt_cmpR op_eq (pv 4) pe_int (nomark _))))) (pss_cons (ps_if (pt_cmp (pc_dnotin (hu1 hr.units) (pv 6) (pv 2))) (pss_one (ps_ret (pe_lst (pa_cons (pe_op op_add_str pe_str (pv 6)) (pa_cons pe_str pa_nil))))) pss_nil)
    (pss_one (ps_ret (pe_lst (pa_cons (pe_op op_add_str pe_str (pv 6)) (pa_cons (pe_def d__law_shown hr rfl (pa_cons (pe_dget (hu1 hr.units) (pv 2) (pv 6) (fun _ _ => rfl)) pa_nil)) pa_nil)))))) pss_nil)
    (pss_cons (ps_if (pt_cmpR op_eq (pv 4) pe_int (nomark _)) (pss_cons (ps_if (pt_cmp (pc_dnotin (hu1 hr.units) (pv 6) (pv 2))) (pss_one (ps_ret (pe_lst (pa_cons (pe_op op_add_str pe_str (pv 6)) (pa_cons pe_str pa_nil))))) pss_nil)
    (pss_cons (ps_expr (pe_dpop1 (pv 2) (pv 6) ⟨rfl, rfl, rfl, rfl⟩))
    (pss_one (ps_ret (pe_lst (pa_cons (pe_op op_add_str pe_str (pv 6)) (pa_cons pe_str pa_nil))))))) pss_nil)
    (pss_cons (ps_if (pt_cmpR op_gt (pv 4) pe_int (nomark _)) (pss_one (ps_ret (pe_lst (pa_cons pe_str (pa_cons (pe_bm PySem.F.plainAttrs_str PySem.F.slot_str_join PySem.F.type_str_join mt_join pe_str (pa_cons (pe_callB (call_sortedS rfl) rfl B.b_sorted bt_sorted (pa_cons (pv 2) pa_nil)) pa_nil)) pa_nil))))) pss_nil)
    (pss_cons (ps_set (i := 8) S.nd rfl (Or.inl rfl) (pe_lst (pa_cons (pe_op op_add_str (pe_op op_add_str (pe_op op_add_str (pe_op op_add_str (pe_op op_add_str pe_str (pv 5)) pe_str) (pv 6)) pe_str) (pv 7)) (pa_cons (pe_op op_add_str (pe_op op_add_str (pe_op op_add_str (pe_op op_add_str (pe_op op_add_str pe_str (pv 5)) pe_str) (pv 6)) pe_str) (pe_callTy call_str_int rfl B.b_str L2.bt_str (pa_cons (pe_op op_sub (pe_op op_mod (pv 1) pe_int) pe_int) pa_nil))) pa_nil))))
    (pss_cons (ps_set (i := 8) S.nd rfl (Or.inl rfl) (pe_ix ix_list (pe_op op_cat (pv 8) (pe_lst (pa_cons (pe_op op_add_str (pe_op op_add_str (pe_op op_add_str pe_str (pv 5)) pe_str) (pv 6)) pa_nil))) (pe_op op_sub (pv 4) pe_int) (fun _ _ => rfl)))
    (pss_cons (ps_join (ps_if (pt_cmpR op_eq (pv 4) pe_int (nomark _)) (pss_one (ps_set (i := 8) S.nd rfl (Or.inl rfl) (pe_op op_add_str (pe_op op_add_str (pv 8) pe_str) (pe_callTy call_str_int rfl B.b_str L2.bt_str (pa_cons (pe_def d__law_deep hr rfl (pa_cons (pv 1) pa_nil)) pa_nil))))) pss_nil))
    (pss_cons (ps_if (PW.pt (pw_or (pt_cmp (pc_dnotin (hu1 hr.units) (pv 6) (pv 2))) (pw_or1 (PW.pt (pw_and (pt_cmpR op_eq (pv 4) pe_int (nomark _)) (pw_and1 (pt_cmp (pc_dnotin (hu1 hr.units) (pv 7) (pv 2))))))))) (pss_one (ps_ret (pe_lst (pa_cons (pv 8) (pa_cons pe_str pa_nil))))) pss_nil)
    (pss_cons (ps_set (i := 9) S.nd rfl (Or.inl rfl) (pe_def d__law_made hr rfl (pa_cons (pv 0) (pa_cons (pv 4) (pa_cons (pv 1) (pa_cons (pe_dget (hu1 hr.units) (pv 2) (pv 6) (fun _ _ => rfl)) (pa_cons (pe_dget2 (hu1 hr.units) (pv 2) (pv 7) (pe_lst pa_nil) ⟨rfl, rfl, rfl, rfl⟩) pa_nil)))))))
    (pss_cons (ps_if (PW.pt (pw_or (pt_cmpR op_isN (pv 9) pe_non (nomark _)) (pw_or1 (pt_cmpR op_ge (pe_callB (call_maxL rfl) rfl B.b_max L2.bt_max (pa_cons (pe_comp [] [] rfl rfl trivial trivial rfl rfl (by decide) (by decide) rfl rfl (by decide) (pi_list (pv 9)) (fun _ _ _ _ => pts_nil) (fun _ _ _ _ => (pe_callB call_abs rfl B.b_abs bt_abs (pa_cons (pv 0) pa_nil)))) pa_nil)) (pe_op op_pow pe_int pe_int) (nomark _))))) (pss_one (ps_ret (pe_lst (pa_cons (pv 8) (pa_cons pe_str pa_nil))))) pss_nil)
    (pss_cons (ps_dput (hu1 hr.units) (pv 2) (pv 5) (pv 9) rfl)
    (pss_one (ps_ret (pe_lst (pa_cons (pv 8) (pa_cons pe_str pa_nil)))))))))))))))))))), ?_⟩
  have get : ∀ i : Int, 0 ≤ i → i < 5 → ∃ z, atI (nms.map V.str) i = some (.str z) ∧ Nm z := fun i h0 h5 => by
    have hi : i.toNat < nms.length := by omega
    refine ⟨nms[i.toNat], ?_, hnm _ (List.getElem_mem hi)⟩
    have e : ((i.toNat : Nat) : Int) = i := by omega
    have := atI_nat (xs := nms.map V.str) (j := i.toNat) (v := V.str nms[i.toNat]) (by rw [List.getElem?_map, List.getElem?_eq_getElem hi]; rfl)
    rw [e] at this
    exact this
  have m10 := mod_in n (show (0 : Int) < 10 by decide)
  have m1 := mod_in (n / 10) (show (0 : Int) < 5 by decide)
  have m2 := mod_in (n / 50) (show (0 : Int) < 5 by decide)
  have m3 := mod_in (n / 250) (show (0 : Int) < 5 by decide)
  obtain ⟨z, ez, nz⟩ := get _ m1.1 m1.2
  obtain ⟨x, ex, nx⟩ := get _ m2.1 m2.2
  obtain ⟨y, ey, ny⟩ := get _ m3.1 m3.2
  clear get
  (try dsimp only); (first | refine hX _ _ ?_ | skip); (try dsimp only); (first | refine seqX (fun X hX => ?_) | skip); try walk_at "dr2"; (try simp only [sp__law_numbers, sp__law_shown, sp__law_made, sp__law_deep]); try walk_at "dr2"
  (try dsimp only); (first | refine hX _ _ ?_ | skip); (try dsimp only); (first | refine seqX (fun X hX => ?_) | skip); try walk_at "dr2"; (try simp only [sp__law_numbers, sp__law_shown, sp__law_made, sp__law_deep]); try walk_at "dr2"
  refine ⟨⟨by decide, by decide⟩, _, SqL.of kn, _, ez, ⟨by decide, by decide⟩, _, SqL.of kn, _, ex, ⟨by decide, by decide⟩, _, SqL.of kn, _, ey, by decide, ?_⟩
  intro l1 n_l1; generalize e_l1 : upd _ l1 _ = H1; obtain ⟨g1, k1⟩ := newH e_l1 n_l1; clear e_l1
  refine ⟨_, SqL.of k1, rfl, _, _, rfl, _, _, rfl, _, _, rfl, rfl, ?_⟩
  have kq1 := g1 _ _ kq
  have tw1 := tw.same g1
  clear ez ex ey k1 m1 m2 m3 kn
  (try dsimp only); (first | refine hX _ _ ?_ | skip); (try dsimp only); (first | refine seqX (fun X hX => ?_) | skip); try walk_at "dr2"; (try simp only [sp__law_numbers, sp__law_shown, sp__law_made, sp__law_deep]); try walk_at "dr2"
  refine ⟨⟨by decide, by decide⟩, ?_⟩
  generalize n % 10 = way at m10 ⊢
  generalize n / 1250 = n2
  (try dsimp only); (first | refine hX _ _ ?_ | skip); (try dsimp only); (first | refine seqX (fun X hX => ?_) | skip); try walk_at "dr2"; (try simp only [sp__law_numbers, sp__law_shown, sp__law_made, sp__law_deep]); try walk_at "dr2"
  refine ite2 (fun c => ?_) (fun c3 => ?_)
  · have lz := nz.most
    (first | refine hX _ _ ?_ | skip); (try dsimp only); try walk_at "dr1"; (try simp only [sp__law_numbers, sp__law_shown, sp__law_made, sp__law_deep]); try walk_at "dr1"
    intro l f H2 f0 f7 fb nl g2 k2
    have kq2 := g2 _ _ kq1
    have ls := shown_len (ms := f) (by omega) (fun x hx => lt190 (fb x hx))
    refine ⟨_, DPut.k (k := Sum.inr z) kq2 (Nat.lt_of_lt_of_le lk (by decide)), le_line (by rw [l_poly]; omega), le_line (by rw [app_len, l_poly, sp_len1]; omega), .ref l, dget_some upd_same (by rw [valV_put, if_pos rfl]), l, rfl, f, SqL.of (Sk.upd.lst kq2 k2), by omega, (fun x hx => lt190 (fb x hx)), fun H3 g3 => ⟨le_line (by rw [app_len, app_len, l_poly, sp_len1]; omega), by decide, fun l4 n4 => ?_⟩⟩
    generalize e4 : upd H3 l4 _ = H4
    obtain ⟨g4, k4⟩ := newH e4 n4
    rw [jn3 t_poly] at k4
    exact q l4 _ _ _ H4 (.poly nz f0 (by omega) fb (g4 _ _ (g3 _ _ (Sk.upd.lst kq2 k2))) rfl) ((Sk.of (g1.trans g2)).trans (Sk.upd.trans (Sk.of (g3.trans g4)))) (g4 _ _ (g3 _ _ upd_same)) k4
  (try dsimp only); (first | refine hX _ _ ?_ | skip); (try dsimp only); (first | refine seqX (fun X hX => ?_) | skip); try walk_at "dr2"; (try simp only [sp__law_numbers, sp__law_shown, sp__law_made, sp__law_deep]); try walk_at "dr2"
  refine ite3 (fun c => ?_) (fun c6 => ?_)
  · have lx := nx.most
    (first | refine hX _ _ ?_ | skip); (try dsimp only); try walk_at "dr1"; (try simp only [sp__law_numbers, sp__law_shown, sp__law_made, sp__law_deep]); try walk_at "dr1"
    rcases tw1.at x with ⟨e1, e2⟩ | ⟨b, c, f, e1, e2, pl⟩
    · refine ⟨_, DGet.k (k := Sum.inr x) kq1, ?_⟩
      rw [e2, if_pos (by rfl)]
      refine ⟨le_line (by rw [l_show]; omega), by decide, fun l4 n4 => ?_⟩
      generalize e4 : upd H1 l4 _ = H4
      obtain ⟨g4, k4⟩ := newH e4 n4
      rw [jn2 t_show] at k4
      exact q l4 _ _ _ H4 (.shwN nx e1 rfl) (Sk.of (g1.trans g4)) (g4 _ _ kq1) k4
    · refine ⟨_, DGet.k (k := Sum.inr x) kq1, ?_⟩
      have lf := pl.len
      rw [e2, if_neg (by intro z; cases z)]
      refine ⟨le_line (by rw [l_show]; omega), _, dget_some kq1 e2, c, rfl, f, SqL.of pl.two, by omega, (fun x hx => lt190 (pl.small x hx)), fun H3 g3 => ⟨by decide, fun l4 n4 => ?_⟩⟩
      generalize e4 : upd H3 l4 _ = H4
      obtain ⟨g4, k4⟩ := newH e4 n4
      rw [jn2 t_show] at k4
      have G4 := g3.trans g4
      exact q l4 _ _ _ H4 (.shw e1 ⟨pl.nm, G4 _ _ pl.one, G4 _ _ pl.two, pl.len, pl.small⟩ rfl) (Sk.of (g1.trans G4)) (G4 _ _ kq1) k4
  (try dsimp only); (first | refine hX _ _ ?_ | skip); (try dsimp only); (first | refine seqX (fun X hX => ?_) | skip); try walk_at "dr2"; (try simp only [sp__law_numbers, sp__law_shown, sp__law_made, sp__law_deep]); try walk_at "dr2"
  refine ite2 (fun c => ?_) (fun c7 => ?_)
  · have lx := nx.most
    (first | refine hX _ _ ?_ | skip); (try dsimp only); try walk_at "dr1"; (try simp only [sp__law_numbers, sp__law_shown, sp__law_made, sp__law_deep]); try walk_at "dr1"
    rcases tw1.at x with ⟨e1, e2⟩ | ⟨b, c, f, e1, e2, pl⟩
    · refine ⟨_, DGet.k (k := Sum.inr x) kq1, ?_⟩
      rw [e2, if_pos (by rfl)]
      refine ⟨le_line (by rw [l_drop]; omega), by decide, fun l4 n4 => ?_⟩
      generalize e4 : upd H1 l4 _ = H4
      obtain ⟨g4, k4⟩ := newH e4 n4
      rw [jn2 t_drop] at k4
      exact q l4 _ _ _ H4 (.dropN nx e1 rfl) (Sk.of (g1.trans g4)) (g4 _ _ kq1) k4
    · refine ⟨_, DGet.k (k := Sum.inr x) kq1, ?_⟩
      rw [e2, if_neg (by intro z; cases z)]
      refine ⟨.inl ⟨_, .inl kq1⟩, kvs, kq1, Sum.inr x, rfl, ⟨_, e2⟩, le_line (by rw [l_drop]; omega), by decide, fun l4 n4 => ?_⟩
      generalize e4 : upd (upd H1 qd (HO.dK (dropK kvs (Sum.inr x)))) l4 _ = H4
      obtain ⟨g4, k4⟩ := newH e4 n4
      rw [jn2 t_drop] at k4
      exact q l4 _ _ _ H4 (.drop e1 ⟨pl.nm, g4 _ _ (Sk.upd.lst kq1 pl.one), g4 _ _ (Sk.upd.lst kq1 pl.two), pl.len, pl.small⟩ rfl) ((Sk.of g1).trans (Sk.upd.trans (Sk.of g4))) (g4 _ _ upd_same) k4
  (try dsimp only); (first | refine hX _ _ ?_ | skip); (try dsimp only); (first | refine seqX (fun X hX => ?_) | skip); try walk_at "dr2"; (try simp only [sp__law_numbers, sp__law_shown, sp__law_made, sp__law_deep]); try walk_at "dr2"
  refine ite2 (fun c => ?_) (fun c8 => ?_)
  · (first | refine hX _ _ ?_ | skip); (try dsimp only); try walk_at "dr1"; (try simp only [sp__law_numbers, sp__law_shown, sp__law_made, sp__law_deep]); try walk_at "dr1"
    obtain ⟨ss, h1, h2, h3, h4⟩ := tw1.keys
    have hl := tw1.len
    refine ⟨rfl, kvs, kq1, ss, h2, by omega, fun zs hz hs l3 n3 => ?_⟩
    refine ⟨_, l3, zs, rfl, rfl, SqL.of upd_same, join_space (by rw [hz.length_eq]; omega) (fun t ht => (h3 t (hz.mem_iff.mp ht)).most), by decide, fun l4 n4 => ?_⟩
    rw [Tx.join_eq]
    have g3 := newS n3 (o := HO.lst (zs.map V.str))
    generalize upd H1 l3 (HO.lst (zs.map V.str)) = H3 at g3 n4 ⊢
    generalize e4 : upd H3 l4 _ = H4
    obtain ⟨g4, k4⟩ := newH e4 n4
    have G4 := g3.trans g4
    exact q l4 _ _ _ H4 (.names h1 h3 hz hs rfl) (Sk.of (g1.trans G4)) (G4 _ _ kq1) k4
  have w345 : way = 3 ∨ way = 4 ∨ way = 5 := by omega
  have lx := nx.most
  have ly := ny.most
  have lz := nz.most
  have sz : 4000 ≤ sizeLine := by decide
  have m201 := mod_in n2 (show (0 : Int) < 201 by decide)
  have b201 : (n2 % 201 - 100).natAbs < 10 ^ 60 := Nat.lt_of_le_of_lt (show (n2 % 201 - 100).natAbs ≤ 1000 by omega) (by decide +kernel)
  have t201 : (Str.ofString (toString (n2 % 201 - 100))).length ≤ 191 := str_big (lt190 b201)
  have dp := deep_in n2
  have bdp : (deepOf n2).natAbs < 10 ^ 60 := small_val dp
  have tdp : (Str.ofString (toString (deepOf n2))).length ≤ 191 := str_big (lt190 bdp)
  (try dsimp only); (first | refine hX _ _ ?_ | skip); (try dsimp only); (first | refine seqX (fun X hX => ?_) | skip); try walk_at "dr2"; (try simp only [sp__law_numbers, sp__law_shown, sp__law_made, sp__law_deep]); try walk_at "dr2"
  simp only [app_len, l_times, l_seen, sp_len1]
  refine ⟨by omega, by omega, by omega, by omega, by omega, by omega, by omega, by omega, by omega, log_big (lt190 b201), by omega, by decide, ?_⟩
  intro l2 n_l2; generalize e_l2 : upd _ l2 _ = H2; obtain ⟨g2, k2⟩ := newH e_l2 n_l2; clear e_l2
  (try dsimp only); (first | refine hX _ _ ?_ | skip); (try dsimp only); (first | refine seqX (fun X hX => ?_) | skip); try walk_at "dr2"; (try simp only [sp__law_numbers, sp__law_shown, sp__law_made, sp__law_deep]); try walk_at "dr2"
  simp only [app_len, l_slope, sp_len1]
  refine ⟨by omega, by omega, by omega, by decide, ?_⟩
  intro l3 n_l3; generalize e_l3 : upd _ l3 _ = H3; obtain ⟨g3, k3⟩ := newH e_l3 n_l3; clear e_l3
  refine ⟨_, g3 _ _ k2, _, k3, by show 2 + 1 ≤ sizeLine; decide, ?_⟩
  intro l5 n_l5; generalize e_l5 : upd _ l5 _ = H5; obtain ⟨g5, k5⟩ := newH e_l5 n_l5; clear e_l5
  obtain ⟨t0, e0, h0, h4, hl0⟩ : ∃ t0 : Str, atI [V.str (Str.ofString "times " ++ z ++ Str.ofString " " ++ x ++ Str.ofString " " ++ y), V.str (Str.ofString "seen " ++ z ++ Str.ofString " " ++ x ++ Str.ofString " " ++ Str.ofString (toString (n2 % 201 - 100))), V.str (Str.ofString "slope " ++ z ++ Str.ofString " " ++ x)] (way - 3) = some (.str t0) ∧ (way ≠ 4 → t0 = Str.join (Str.ofString " ") (madeW way n2 z x y)) ∧ (way = 4 → t0 ++ Str.ofString " " ++ Str.ofString (toString (deepOf n2)) = Str.join (Str.ofString " ") (madeW way n2 z x y)) ∧ t0.length ≤ 300 := by
    rcases w345 with rfl | rfl | rfl
    · refine ⟨_, atI_nat (j := 0) rfl, fun _ => jn4 t_times, (fun z => absurd z (by decide)), ?_⟩
      simp only [app_len, l_times, sp_len1]
      omega
    · refine ⟨_, atI_nat (j := 1) rfl, (fun z => absurd rfl z), fun _ => jn5 t_seen, ?_⟩
      simp only [app_len, l_seen, sp_len1]
      omega
    · refine ⟨_, atI_nat (j := 2) rfl, fun _ => jn3 t_slope, (fun z => absurd z (by decide)), ?_⟩
      simp only [app_len, l_slope, sp_len1]
      omega
  refine ⟨_, SqL.of k5, _, e0, ?_⟩
  have G5 := g2.trans (g3.trans g5)
  have kq5 := G5 _ _ kq1
  have tw5 := tw1.same G5
  clear k2 k3 k5 e0 m201 t201
  (first | refine hX _ _ ?_ | skip); refine seqI ?_
  obtain ⟨R, hR⟩ : ∃ R : St → Hp → Prop, ∀ σ' H6, R σ' H6 ↔ (H6 = H5 ∧ σ' = [some (.int p), some (.int n2), some (.ref qd), some (.ref ln), some (.int way), some (.str z), some (.str x), some (.str y), some (.str (Str.join (Str.ofString " ") (madeW way n2 z x y))), none]) := ⟨_, fun _ _ => Iff.rfl⟩
  (first | refine hX _ _ ?_ | skip); refine joinB R ?_ ?_
  · (first | refine hX _ _ ?_ | skip); (try dsimp only); try walk_at "dr1"; (try simp only [sp__law_numbers, sp__law_shown, sp__law_made, sp__law_deep]); try walk_at "dr1"
    refine ite2 (fun c => ?_) (fun c => (hR _ _).mpr ⟨rfl, by rw [h0 c]⟩)
    refine ⟨by rw [sp_len1]; omega, fun _ => ⟨log_big (lt190 bdp), by rw [app_len, sp_len1]; omega, (hR _ _).mpr ⟨rfl, by rw [h4 c]⟩⟩⟩
  intro σ' H6 w
  refine byX fun X hX => ?_; obtain ⟨rfl, rfl⟩ := (hR _ _).mp w; refine hX ?_; clear hX X
  clear hR w h0 h4 hl0
  (try dsimp only); (first | refine hX _ _ ?_ | skip); (try dsimp only); (first | refine seqX (fun X hX => ?_) | skip); try walk_at "dr2"; (try simp only [sp__law_numbers, sp__law_shown, sp__law_made, sp__law_deep]); try walk_at "dr2"
  have no : (valV r (Sum.inr x) = none ∨ (way = 3 ∧ valV r (Sum.inr y) = none)) → 0 + 1 + 1 ≤ sizeLine ∧ ∀ l : Addr, H6 l = none → Q (.ref l) (upd H6 l (HO.lst [V.str ((Str.ofString " ").join (madeW way n2 z x y)), V.str (Str.ofString "NoName")])) := fun h => ⟨by decide, fun l7 n7 => by
    have g7 := newS n7 (o := HO.lst [V.str ((Str.ofString " ").join (madeW way n2 z x y)), V.str (Str.ofString "NoName")])
    exact q l7 _ _ _ _ (.madeN w345 nz nx ny h rfl) (Sk.of (g1.trans (G5.trans g7))) (g7 _ _ kq5) upd_same⟩
  refine ⟨_, DGet.k (k := Sum.inr x) kq5, ?_⟩
  rcases tw5.at x with ⟨e1, e2⟩ | ⟨b, c, f, e1, e2, pl⟩
  · rw [e2, if_pos (by rfl)]
    exact no (.inl e1)
  rw [e2, if_neg (by intro z; cases z)]
  obtain ⟨XX, hXX⟩ : ∃ XX : Prop, XX = X [some (V.int p), some (V.int n2), some (V.ref qd), some (V.ref ln), some (V.int way), some (V.str z), some (V.str x), some (V.str y), some (V.str ((Str.ofString " ").join (madeW way n2 z x y))), none] H6 := ⟨_, rfl⟩
  rw [← hXX]
  have hy : (¬ (way = 3 ∧ valV r (Sum.inr y) = none) → XX) → (if way = 3 then ∃ x_2, DGet H6 qd (V.str y) x_2 ∧ if x_2.isSome = false then 0 + 1 + 1 ≤ sizeLine ∧ ∀ l : Addr, H6 l = none → Q (.ref l) (upd H6 l (HO.lst [V.str ((Str.ofString " ").join (madeW way n2 z x y)), V.str (Str.ofString "NoName")])) else XX else XX) := fun h => by
    by_cases c3 : way = 3
    · rw [if_pos c3]
      refine ⟨_, DGet.k (k := Sum.inr y) kq5, ?_⟩
      rcases tw5.at y with ⟨f1, f2⟩ | ⟨b', c', f', f1, f2, _⟩
      · rw [f2, if_pos (by rfl)]
        exact no (.inr ⟨c3, f1⟩)
      · rw [f2, if_neg (by intro z; cases z)]
        exact h fun z => by rw [f1] at z; cases z.2
    · rw [if_neg c3]
      exact h fun z => c3 z.1
  refine hy fun hno => ?_
  rw [hXX]
  clear hy hXX no
  (try dsimp only); (first | refine hX _ _ ?_ | skip); (try dsimp only); (first | refine seqX (fun X hX => ?_) | skip); try walk_at "dr2"; (try simp only [sp__law_numbers, sp__law_shown, sp__law_made, sp__law_deep]); try walk_at "dr2"
  refine ⟨_, dget_some kq5 e2, .inl ⟨_, .inl kq5⟩, Nat.zero_le _, ?_⟩
  intro l7 n_l7; generalize e_l7 : upd _ l7 _ = H7; obtain ⟨g7, k7⟩ := newH e_l7 n_l7; clear e_l7
  have kq7 := g7 _ _ kq5
  have G7 := g1.trans (G5.trans g7)
  have pl7 : Pl H7 x b c f := ⟨pl.nm, g7 _ _ pl.one, g7 _ _ pl.two, pl.len, pl.small⟩
  obtain ⟨o, b2, c2, g, ho, h1, h2, h3, h4, h5⟩ : ∃ (o : Option V) (b2 c2 : Addr) (g : List Int), valV kvs (Sum.inr y) = o ∧ o.getD (V.ref l7) = V.ref c2 ∧ H7 c2 = some (.lst (g.map V.int)) ∧ g.length ≤ 13 ∧ Dr.PolyB g 200 ∧ (way = 3 → valV r (Sum.inr y) = some (.ref b2) ∧ Pl H7 y b2 c2 g) := by
    rcases tw5.at y with ⟨f1, f2⟩ | ⟨b2, c2, g, f1, f2, pl2⟩
    · exact ⟨none, l7, l7, [], f2, rfl, k7, by decide, (fun x hx => nomatch hx), fun w3 => absurd ⟨w3, f1⟩ hno⟩
    · exact ⟨_, b2, c2, g, f2, rfl, g7 _ _ pl2.two, pl2.len.2, (fun x hx => sm60 (pl2.small x hx)), fun _ => ⟨f1, ⟨pl2.nm, g7 _ _ pl2.one, g7 _ _ pl2.two, pl2.len, pl2.small⟩⟩⟩
  refine ⟨o, by rw [← ho]; exact DGet.k (k := Sum.inr y) kq7, c, rfl, c2, h1, w345, f, SqL.of pl7.two, g, SqL.of h2, pl.len.1, pl.len.2, h3, fun w3 => (h5 w3).2.len.1, hp.1, hp.2, (fun x hx => sm60 (pl.small x hx)), h4, fun w3 h14 => ?_, fun l8 m H8 md n8 g8 k8 => ?_⟩
  · (try dsimp only); (first | refine hX _ _ ?_ | skip); (try dsimp only); (first | refine seqX (fun X hX => ?_) | skip); try walk_at "dr2"; (try simp only [sp__law_numbers, sp__law_shown, sp__law_made, sp__law_deep]); try walk_at "dr2"
    refine ⟨by decide, fun l9 n9 => ?_⟩
    have g9 := newS n9 (o := HO.lst [V.str ((Str.ofString " ").join (madeW way n2 z x y)), V.str (Str.ofString "TooGreat")])
    exact q l9 _ _ _ _ (.madeG (m := []) w345 nz e1 ⟨pl7.nm, g9 _ _ pl7.one, g9 _ _ pl7.two, pl7.len, pl7.small⟩ (fun w3 => ⟨(h5 w3).1, ⟨(h5 w3).2.nm, g9 _ _ (h5 w3).2.one, g9 _ _ (h5 w3).2.two, (h5 w3).2.len, (h5 w3).2.small⟩⟩) (.inl ⟨w3, h14⟩) rfl) (Sk.of (G7.trans g9)) (g9 _ _ kq7) upd_same
  · have G8 := G7.trans g8
    have kq8 := g8 _ _ kq7
    have lm := md.len pl.len
    (try dsimp only); (first | refine hX _ _ ?_ | skip); (try dsimp only); (first | refine seqX (fun X hX => ?_) | skip); try walk_at "dr2"; (try simp only [sp__law_numbers, sp__law_shown, sp__law_made, sp__law_deep]); try walk_at "dr2"
    refine ⟨⟨_, SqL.of k8⟩, ?_⟩
    obtain ⟨Pc, hPc⟩ : ∃ Pc : Nat → List V → Hp → Prop, ∀ i ys H9, Pc i ys H9 ↔ (H9 = H8 ∧ ys = ((m.take i).map fun x => if x < 0 then -x else x).map V.int) := ⟨_, fun _ _ _ => Iff.rfl⟩
    (first | refine hX _ _ ?_ | skip); refine compI m Pc (Nat.le_trans lm.2 (by decide)) ((hPc _ _ _).mpr ⟨rfl, rfl⟩) (fun i ys H9 w => ?_) (fun i v ys H9 hv w => ?_) (fun ys H9 w l9 n9 => ?_)
    · obtain ⟨rfl, _⟩ := (hPc _ _ _).mp w
      exact SqL.of k8
    · obtain ⟨rfl, rfl⟩ := (hPc _ _ _).mp w
      (first | refine hX _ _ ?_ | skip); (try dsimp only); try walk_at "dr1"; (try simp only [sp__law_numbers, sp__law_shown, sp__law_made, sp__law_deep]); try walk_at "dr1"
      refine (hPc _ _ _).mpr ⟨rfl, ?_⟩
      rw [take_next hv, List.map_append, List.map_append]
      rfl
    obtain ⟨rfl, rfl⟩ := (hPc _ _ _).mp w
    rw [List.take_length]
    refine ⟨l9, rfl, _, SqL.of upd_same, by rw [List.length_map]; exact lm.1, fun M hM hmax => ⟨⟨by decide, by decide, by decide⟩, ?_⟩⟩
    have g9 := newS n9 (o := HO.lst ((m.map fun x => if x < 0 then -x else x).map V.int))
    generalize upd H9 l9 (HO.lst ((m.map fun x => if x < 0 then -x else x).map V.int)) = H10 at g9 ⊢
    have hM60 : (10 : Int) ^ Int.toNat 60 = ((10 ^ 60 : Nat) : Int) := by decide +kernel
    rw [hM60]
    have sm : smallF m ↔ ¬ ((10 ^ 60 : Nat) : Int) ≤ M := by
      unfold smallF
      generalize (10 ^ 60 : Nat) = T
      constructor
      · intro h c
        obtain ⟨v, hv, e⟩ := List.mem_map.mp hM
        have := h v hv
        split at e <;> omega
      · intro h v hv
        have := hmax _ (List.mem_map.mpr ⟨v, hv, rfl⟩)
        split at this <;> omega
    have G9 := g8.trans g9
    refine ite2 (fun c => ?_) (fun c => ?_)
    · refine ⟨by decide, fun l11 n11 => ?_⟩
      have g11 := newS n11 (o := HO.lst [V.str ((Str.ofString " ").join (madeW way n2 z x y)), V.str (Str.ofString "TooGreat")])
      have G11 := G9.trans g11
      exact q l11 _ _ _ _ (.madeG w345 nz e1 ⟨pl7.nm, G11 _ _ pl7.one, G11 _ _ pl7.two, pl7.len, pl7.small⟩ (fun w3 => ⟨(h5 w3).1, ⟨(h5 w3).2.nm, G11 _ _ (h5 w3).2.one, G11 _ _ (h5 w3).2.two, (h5 w3).2.len, (h5 w3).2.small⟩⟩) (.inr ⟨md, fun z => sm.mp z c⟩) rfl) (Sk.of (G7.trans G11)) (G11 _ _ kq7) upd_same
    · have kq10 := G9 _ _ kq7
      (first | refine hX _ _ ?_ | skip); (try dsimp only); try walk_at "dr1"; (try simp only [sp__law_numbers, sp__law_shown, sp__law_made, sp__law_deep]); try walk_at "dr1"
      refine ⟨_, DPut.k (k := Sum.inr z) kq10 (Nat.lt_of_lt_of_le lk (by decide)), by decide, fun l11 n11 => ?_⟩
      have g11 := newS n11 (o := HO.lst [V.str ((Str.ofString " ").join (madeW way n2 z x y)), V.str (Str.ofString "ok")])
      have G11 : Sk qd H7 _ := (Sk.of G9).trans (Sk.upd.trans (Sk.of g11))
      exact q l11 _ _ _ _ (.made w345 nz e1 ⟨pl7.nm, G11.lst kq7 pl7.one, G11.lst kq7 pl7.two, pl7.len, pl7.small⟩ (fun w3 => ⟨(h5 w3).1, ⟨(h5 w3).2.nm, G11.lst kq7 (h5 w3).2.one, G11.lst kq7 (h5 w3).2.two, (h5 w3).2.len, (h5 w3).2.small⟩⟩) md (sm.mpr c) (g11 _ _ (Sk.upd.lst kq10 (g9 _ _ k8))) rfl) ((Sk.of G7).trans G11) (g11 _ _ upd_same) upd_same
section
variable {H : Hp} {kd : Addr} {p : Int} {r kvs kvs' : List (Key × V)} {Q : VK} {E : XK}
theorem KeptAs.mono {Q' : VK} {E' : XK} {z : Str} {f : List Int} (h : KeptAs K H kd r Q E z f) (hQ : ∀ v H1, Q v H1 → Q' v H1) (hE : ∀ c x H1, E c x H1 → E' c x H1) : KeptAs K H kd r Q' E' z f := ⟨fun s l H1 g n k => hQ _ _ (h.1 s l H1 g n k), fun s H1 g => hE _ _ _ (h.2 s H1 g)⟩
theorem Deed.mono {Q' : VK} {E' : XK} {dw : Str} {ks : List Kd} {a : Addr} {ws : List Str} (d : Deed K H kd p r Q E dw ks a ws) (hQ : ∀ v H1, Q v H1 → Q' v H1) (hE : ∀ c x H1, E c x H1 → E' c x H1) : Deed K H kd p r Q' E' dw ks a ws := by
  cases d with
  | no h1 h2 h3 q => exact .no h1 h2 h3 fun H' g => hE _ _ _ (q H' g)
  | poly h1 h2 h3 h4 q => exact .poly h1 h2 h3 h4 (q.mono hQ hE)
  | times h1 h2 h3 q1 q2 => exact .times h1 h2 h3 (fun z H' g => hE _ _ _ (q1 z H' g)) fun z m hm => (q2 z m hm).mono hQ hE
  | seen h1 h2 h3 h4 q => exact .seen h1 h2 h3 h4 fun s hs => (q s hs).mono hQ hE
  | slope h1 h2 q => exact .slope h1 h2 (q.mono hQ hE)
  | drop h1 q => exact .drop h1 fun H1 g => hQ _ _ (q H1 g)
  | names h1 h2 h3 q => exact .names h1 h2 h3 fun zs H1 a b c => hQ _ _ (q zs H1 a b c)
  | shw h1 q => exact .shw h1 fun H1 g => hQ _ _ (q H1 g)
structure Wish (K : PySem.W.Frag) (H : Hp) (kd : Addr) (r kvs' : List (Key × V)) (due : Str) (Q : VK) (E : XK) : Prop where
  text : due ≠ "NoName" → due ≠ "TooGreat" → ∀ H1 r', Sk kd H H1 → H1 kd = some (.dK r') → r'.length ≤ r.length + 1 → Tw H1 r' kvs' → Q (.str due) H1
  name : due = "NoName" → ∀ H1, Same H H1 → Tw H1 r kvs' → E (.ref (clK K "NoName")) none H1
  great : due = "TooGreat" → ∀ H1, Same H H1 → Tw H1 r kvs' → E (.ref (clK K "TooGreat")) none H1
theorem ok_no : (Str.ofString "ok" ≠ "NoName") ∧ (Str.ofString "ok" ≠ "TooGreat") := by decide +kernel
theorem putK_len (kvs : List (Key × V)) (k : Key) (v : V) : (putK kvs k v).length ≤ kvs.length + 1 := by
  unfold putK
  split
  · rw [List.length_map]; omega
  · rw [List.length_append]; exact Nat.le_refl _
theorem kept_ok {z : Str} {m : List Int} {l : Addr} (w : Wish K H kd r kvs' "ok" Q E) (hk : H kd = some (.dK r)) (tw : Tw H r kvs) (nz : Nm z) (lm : 0 < m.length ∧ m.length ≤ 13) (sm : smallF m) (kl : H l = some (.lst (m.map V.int))) (e : kvs' = putK kvs (Sum.inr z) (.ref l)) : KeptAs K H kd r Q E z m := by
  subst e
  refine ⟨fun _ c H1 g n k => ?_, fun h => absurd sm h⟩
  have hk1 := g _ _ hk
  exact w.text ok_no.1 ok_no.2 _ _ ((Sk.of g).trans Sk.upd) upd_same (putK_len ..) (((tw.same g).sk Sk.upd hk1).put ⟨nz, Sk.upd.lst hk1 k, Sk.upd.lst hk1 (g _ _ kl), lm, sm⟩)
theorem kept_no {z : Str} {m : List Int} (w : Wish K H kd r kvs' "TooGreat" Q E) (tw : Tw H r kvs) (sm : ¬ smallF m) (e : kvs' = kvs) : KeptAs K H kd r Q E z m := by
  subst e
  exact ⟨fun h => absurd h sm, fun _ H1 g => w.great rfl H1 g (tw.same g)⟩
theorem num201 (n : Int) : (n % 201 - 100).natAbs < 10 ^ 60 := by
  have := mod_in n (show (0 : Int) < 201 by decide)
  exact Nat.lt_of_le_of_lt (show (n % 201 - 100).natAbs ≤ 1000 by omega) (by decide +kernel)
theorem shown_not (f : List Int) : Tx.shown f ≠ Str.ofString "NoName" ∧ Tx.shown f ≠ Str.ofString "TooGreat" := by
  have key : ∀ c, c ∈ (Tx.shown f).cps.toList → c ≤ 60 := fun c z => by
    unfold Tx.shown at z
    rw [Tx.join_eq, Tx.comma_is] at z
    exact Tx.join_signs (c := 44) (P := fun x => x ≤ 60) (by decide) (f.map Tx.tx) (fun w hw x hx => by
      obtain ⟨y, _, rfl⟩ := List.mem_map.mp hw
      rcases Tx.tx_signs y x hx with e | e <;> omega) c z
  constructor
  · intro e
    have := key 78 (by rw [e]; decide +kernel)
    omega
  · intro e
    have := key 84 (by rw [e]; decide +kernel)
    omega
theorem names_not {zs : List Str} (h : ∀ s, s ∈ zs → Nm s) : Str.join (Str.ofString " ") zs ≠ Str.ofString "NoName" ∧ Str.join (Str.ofString " ") zs ≠ Str.ofString "TooGreat" := by
  have key : ∀ c, c ∈ (Str.join (Str.ofString " ") zs).cps.toList → c ≠ 78 ∧ c ≠ 84 := fun c z => by
    rw [Tx.space_is] at z
    exact Tx.join_signs (c := 32) (P := fun x => x ≠ 78 ∧ x ≠ 84) (by decide) zs (fun w hw x hx => by
      have := (h w hw).all x hx
      constructor <;> (intro e; subst e; revert this; decide +kernel)) c z
  constructor
  · intro e
    exact (key 78 (by rw [e]; decide +kernel)).1 rfl
  · intro e
    exact (key 84 (by rw [e]; decide +kernel)).2 rfl
theorem Pl.stand {x : Str} {b c : Addr} {f : List Int} (h : Pl H x b c f) (e : valV r (Sum.inr x) = some (.ref b)) : Stand K H r x b f := ⟨h.nm, e, SqL.of h.one, h.len, h.small⟩
theorem one_free {x : Str} (h : Nm x) : ∀ w, w ∈ [x] → 32 ∉ w.cps.toList := fun w hw => by
  rw [List.mem_singleton.mp hw]
  exact nm_free h
theorem Outc.deed {ws : List Str} {due : Str} (o : Outc H p r kvs kvs' ws due) (hk : H kd = some (.dK r)) (tw : Tw H r kvs) (lk : kvs.length < 60) (w : Wish K H kd r kvs' due Q E) : ∃ dw ks a ws', ws = dw :: ws' ∧ Deed K H kd p r Q E dw ks a ws' := by
  cases o with
  | poly nz f0 lf sm kc e =>
    have l0 := List.length_pos_iff.mpr f0
    exact ⟨_, _, _, _, rfl, .poly nz f0 lf sm (kept_ok w hk tw nz ⟨l0, lf⟩ sm kc e)⟩
  | shwN nx e1 e =>
    subst e
    exact ⟨_, _, _, _, rfl, .no .shw (one_free nx) (.stop (.name nx e1) rfl) fun H1 g => w.name rfl H1 g (tw.same g)⟩
  | shw e1 pl e =>
    subst e
    obtain ⟨n1, n2⟩ := shown_not _
    exact ⟨_, _, _, _, rfl, .shw (pl.stand e1) fun H1 g => w.text n1 n2 H1 r (Sk.of g) (g _ _ hk) (Nat.le_succ _) (tw.same g)⟩
  | dropN nx e1 e =>
    subst e
    exact ⟨_, _, _, _, rfl, .no .drop (one_free nx) (.stop (.name nx e1) rfl) fun H1 g => w.name rfl H1 g (tw.same g)⟩
  | drop e1 pl e =>
    subst e
    refine ⟨_, _, _, _, rfl, .drop (pl.stand e1) fun H1 g => ?_⟩
    exact w.text ok_no.1 ok_no.2 _ _ ((Sk.of g).trans Sk.upd) upd_same (Nat.le_succ_of_le (dropK_le _ _)) (((tw.same g).sk Sk.upd (g _ _ hk)).drop)
  | @names ss zs h1 h2 hz hs e =>
    subst e
    have hl := tw.len
    have hl2 : ss.length = r.length := by
      have := congrArg List.length h1
      simpa using this.symm
    obtain ⟨n1, n2⟩ := names_not (zs := zs) fun s m => h2 s (hz.mem_iff.mp m)
    refine ⟨_, _, _, _, rfl, .names h1 (by omega) (fun s m => (h2 s m).most) fun zs' H1 hz' hs' g => ?_⟩
    rw [sortedS_one hz' hz hs' hs]
    exact w.text n1 n2 H1 r (Sk.of g) (g _ _ hk) (Nat.le_succ _) (tw.same g)
  | @madeN way n z x y w345 nz nx ny h e =>
    subst e
    have hn := fun H1 (g : Same H H1) => w.name rfl H1 g (tw.same g)
    have fr : ∀ {u v : Str}, Nm u → Nm v → ∀ w, w ∈ [u, v] → 32 ∉ w.cps.toList := fun hu hv w hw => by
      simp only [List.mem_cons, List.not_mem_nil, or_false] at hw
      rcases hw with rfl | rfl
      · exact nm_free hu
      · exact nm_free hv
    rcases w345 with rfl | rfl | rfl
    · refine ⟨_, _, _, _, rfl, .no .times (fun w hw => ?_) ?_ hn⟩
      · simp only [List.mem_cons, List.not_mem_nil, or_false] at hw
        rcases hw with rfl | rfl | rfl
        · exact nm_free nz
        · exact nm_free nx
        · exact nm_free ny
      · cases hx : valV r (Sum.inr x) with
        | none => exact .cons (.new nz) (.stop (.name nx hx) rfl)
        | some v =>
          rcases h with h | h
          · rw [h] at hx
            cases hx
          · exact .cons (.new nz) (.cons (.name nx hx) (.stop (.name ny h.2) rfl))
    · have hx : valV r (Sum.inr x) = none := h.elim id fun z => absurd z.1 (by decide)
      refine ⟨_, _, _, _, rfl, .no .seen (fun w hw => ?_) (.cons (.new nz) (.stop (.name nx hx) rfl)) hn⟩
      simp only [List.mem_cons, List.not_mem_nil, or_false] at hw
      rcases hw with rfl | rfl | rfl | rfl
      · exact nm_free nz
      · exact nm_free nx
      · exact Tx.tx_free _
      · exact Tx.tx_free _
    · have hx : valV r (Sum.inr x) = none := h.elim id fun z => absurd z.1 (by decide)
      exact ⟨_, _, _, _, rfl, .no .slope (fr nz nx) (.cons (.new nz) (.stop (.name nx hx) rfl)) hn⟩
  | @madeG way n z x y b c b2 c2 f g m w345 nz e1 pl h2 h3 e => 
    have hn := fun H1 (g : Same H H1) => w.great rfl H1 g (e ▸ tw.same g)
    rcases w345 with rfl | rfl | rfl
    · obtain ⟨e2, pl2⟩ := h2 rfl
      refine ⟨_, _, _, _, rfl, .times nz (pl.stand e1) (pl2.stand e2) (fun _ => hn) fun h14 m' hm' => ?_⟩
      rcases h3 with h3 | ⟨md, sm⟩
      · omega
      · cases md with
        | times _ _ _ hm => exact kept_no w tw (hm.uniq hm' ▸ sm) e
        | seen z => exact absurd z (by decide)
        | slope z => exact absurd z (by decide)
    · rcases h3 with h3 | ⟨md, sm⟩
      · exact absurd h3.1 (by decide)
      cases md with
      | times z => exact absurd z (by decide)
      | slope z => exact absurd z (by decide)
      | seen _ hm => exact ⟨_, _, _, _, rfl, .seen nz (pl.stand e1) (num201 n) (deep_in n) fun s hs => kept_no w tw (hm.uniq hs ▸ sm) e⟩
    · rcases h3 with h3 | ⟨md, sm⟩
      · exact absurd h3.1 (by decide)
      cases md with
      | times z => exact absurd z (by decide)
      | seen z => exact absurd z (by decide)
      | slope _ => exact ⟨_, _, _, _, rfl, .slope nz (pl.stand e1) (kept_no w tw sm e)⟩
  | @made way n z x y b c b2 c2 l f g m w345 nz e1 pl h2 md sm kl e =>
    have lm := md.len pl.len
    rcases w345 with rfl | rfl | rfl
    · obtain ⟨e2, pl2⟩ := h2 rfl
      cases md with
      | seen z => exact absurd z (by decide)
      | slope z => exact absurd z (by decide)
      | times _ _ h14 hm => exact ⟨_, _, _, _, rfl, .times nz (pl.stand e1) (pl2.stand e2) (fun z => by omega) fun _ m' hm' => hm.uniq hm' ▸ kept_ok w hk tw nz lm sm kl e⟩
    · cases md with
      | times z => exact absurd z (by decide)
      | slope z => exact absurd z (by decide)
      | seen _ hm => exact ⟨_, _, _, _, rfl, .seen nz (pl.stand e1) (num201 n) (deep_in n) fun s hs => hm.uniq hs ▸ kept_ok w hk tw nz lm sm kl e⟩
    · cases md with
      | times z => exact absurd z (by decide)
      | seen z => exact absurd z (by decide)
      | slope _ => exact ⟨_, _, _, _, rfl, .slope nz (pl.stand e1) (kept_ok w hk tw nz lm sm kl e)⟩
end
def bNo : List Bool := [true, false, false]
def bGr : List Bool := [false, true, false]
def sp__law_ask (K : PySem.W.Frag) : Sp := fun vs H Q _ => ∃ (d dx kd : Addr) (p : Int) (r kvs kvs' : List (Key × V)) (ws : List Str) (due : Str), vs = [.ref d, .str (Str.join (Str.ofString " ") ws)] ∧ DeskAt K H d dx kd p r ∧ p ∈ Dr.primes ∧ kvs.length < 60 ∧ Tw H r kvs ∧ (Str.join (Str.ofString " ") ws).length ≤ 2000 ∧ Outc H p r kvs kvs' ws due ∧
  (due ≠ "NoName" → due ≠ "TooGreat" → ∀ H1 r', Sk kd H H1 → H1 kd = some (.dK r') → r'.length ≤ r.length + 1 → Tw H1 r' kvs' → Q (.str due) H1) ∧
  (due = "NoName" → ∀ l H1, Same H H1 → Tw H1 r kvs' → H1 l = some (.lst (bNo.map V.bl)) → Q (.ref l) H1) ∧
  (due = "TooGreat" → ∀ l H1, Same H H1 → Tw H1 r kvs' → H1 l = some (.lst (bGr.map V.bl)) → Q (.ref l) H1)
theorem ok__law_ask (B : Bi mg K w) (d_say : Met P w K mg base (CXE P w) (clK K "Desk") "say" 6 ["self", "row"] (sp_say K)) (F : Fun K "_law_ask" "_law_ask" s__law_ask f fd) : FnOk P w K mg base CX0 7 f fd ["desk", "row"] (sp__law_ask K) := by
  refine F.ok S__law_ask (fun vs H Q E h => ?_) (fun cdv A outer s H vs Q E hr h => ?_)
  · obtain ⟨d, dx, kd, p, r, kvs, kvs', ws, due, rfl, _⟩ := h
    rfl
  obtain ⟨d, dx, kd, p, r, kvs, kvs', ws, due, rfl, hd, hp, lk, tw, hl, o, q1, q2, q3⟩ := h
  have S := S__law_ask
  refine ⟨_, ((pss_cons (ps_set (i := 2) S.nd rfl (Or.inl rfl) pe_non)
    (pss_cons (ps_join (ps_tryAs rfl rfl rfl B.c_RestError S.nd (i := 3) rfl rfl (fun _ _ _ hx => (pss_one (ps_set (i := 2) S.nd rfl (Or.inl rfl) (pe_metX hx B.cl_Desk d_say hr (pv 0) (pa_cons (pv 1) pa_nil))))) (fun _ => (pss_one (ps_set (i := 2) S.nd rfl (Or.inl rfl) (pe_lst (pa_cons (pe_callB (call_isiX (K := K) rfl) rfl B.b_isinstance L2.bt_isinstance (pa_cons (pv 3) (pa_cons (pe_glob (v := .ref _) rfl B.c_NoName rfl) pa_nil))) (pa_cons (pe_callB (call_isiX (K := K) rfl) rfl B.b_isinstance L2.bt_isinstance (pa_cons (pv 3) (pa_cons (pe_glob (v := .ref _) rfl B.c_TooGreat rfl) pa_nil))) (pa_cons (pe_callB (call_isiT (K := K) rfl) rfl B.b_isinstance L2.bt_isinstance (pa_cons (pv 3) (pa_cons (pe_tup (pa_cons (pe_glob (v := .ref _) rfl B.c_NoRow rfl) (pa_cons (pe_glob (v := .ref _) rfl B.c_NoText rfl) (pa_cons (pe_glob (v := .ref _) rfl B.c_TooDeep rfl) pa_nil)))) pa_nil))) pa_nil)))))))))
    (pss_one (ps_ret (pv 2)))))), ?_⟩
  (try dsimp only); (first | refine hX _ _ ?_ | skip); (try dsimp only); (first | refine seqX (fun X hX => ?_) | skip); try walk_at "dr2"; (try simp only [sp_say]); try walk_at "dr2"
  (first | refine hX _ _ ?_ | skip); refine seqI ?_
  obtain ⟨R, hR⟩ : ∃ R : St → Hp → Prop, ∀ σ' H2, R σ' H2 ↔ (∃ (v : V) (t3 : Option V), σ' = [some (.ref d), some (.str (Str.join (Str.ofString " ") ws)), some v, t3] ∧ Q v H2) := ⟨_, fun _ _ => Iff.rfl⟩
  (first | refine hX _ _ ?_ | skip); refine joinB R ?_ ?_
  · (try dsimp only); (first | refine hX _ _ ?_ | skip); (try dsimp only); (first | refine seqX (fun X hX => ?_) | skip); try walk_at "dr2"; (try simp only [sp_say]); try walk_at "dr2"
    have ll := tw.len
    obtain ⟨dw, ks, a, ws', rfl, dd⟩ := o.deed (Q := fun v H1 => R [some (.ref d), some (.str (Str.join (Str.ofString " ") ws)), some v, none] H1) (E := fun c _ H1 => (c = .ref (clK K "NoName") ∧ ∀ l H', Same H1 H' → H' l = some (.lst (bNo.map V.bl)) → Q (.ref l) H') ∨ (c = .ref (clK K "TooGreat") ∧ ∀ l H', Same H1 H' → H' l = some (.lst (bGr.map V.bl)) → Q (.ref l) H')) hd.kept tw lk ⟨fun n1 n2 H1 r' h1 h2 h3 h4 => (hR _ _).mpr ⟨_, _, rfl, q1 n1 n2 H1 r' h1 h2 h3 h4⟩, fun e H1 g t => .inl ⟨rfl, fun l H' g' k => q2 e l H' (g.trans g') (t.same g') k⟩, fun e H1 g t => .inr ⟨rfl, fun l H' g' k => q3 e l H' (g.trans g') (t.same g') k⟩⟩
    refine ⟨_, _, hd.ins, look_no (by decide +kernel) (by decide +kernel), dx, kd, p, r, _, _, _, _, rfl, hd, hp, by omega, hl, dd.mono (fun v H1 qv => qv) (fun c x H1 hc => ?_)⟩
    rcases hc with ⟨ec, qe⟩ | ⟨ec, qe⟩
    · subst ec
      refine ⟨B.m_NoName_RestError, _, rfl, fun ea n_ea => ?_⟩
      generalize e_ea : upd _ ea _ = H3
      obtain ⟨g3, k3⟩ := newH e_ea n_ea
      clear e_ea
      refine ⟨_, k3, B.f_NoName, _, B.i_NoName_NoName, _, k3, B.f_NoName, _, B.i_NoName_TooGreat, by decide, ?_⟩
      intro b1 n_b1; generalize e_b1 : upd _ b1 _ = H4; obtain ⟨g4, k4⟩ := newH e_b1 n_b1; clear e_b1
      refine ⟨[clK K "NoRow", clK K "NoText", clK K "TooDeep"], _, g4 _ _ k3, B.f_NoName, k4, fun c hc => ?_, by decide, ?_⟩
      · simp only [List.mem_cons, List.not_mem_nil, or_false] at hc
        rcases hc with rfl | rfl | rfl
        · exact B.i_NoName_NoRow
        · exact B.i_NoName_NoText
        · exact B.i_NoName_TooDeep
      intro b2 n_b2; generalize e_b2 : upd _ b2 _ = H5; obtain ⟨g5, k5⟩ := newH e_b2 n_b2; clear e_b2
      exact (hR _ _).mpr ⟨_, _, rfl, qe b2 H5 (g3.trans (g4.trans g5)) k5⟩
    · subst ec
      refine ⟨B.m_TooGreat_RestError, _, rfl, fun ea n_ea => ?_⟩
      generalize e_ea : upd _ ea _ = H3
      obtain ⟨g3, k3⟩ := newH e_ea n_ea
      clear e_ea
      refine ⟨_, k3, B.f_TooGreat, _, B.i_TooGreat_NoName, _, k3, B.f_TooGreat, _, B.i_TooGreat_TooGreat, by decide, ?_⟩
      intro b1 n_b1; generalize e_b1 : upd _ b1 _ = H4; obtain ⟨g4, k4⟩ := newH e_b1 n_b1; clear e_b1
      refine ⟨[clK K "NoRow", clK K "NoText", clK K "TooDeep"], _, g4 _ _ k3, B.f_TooGreat, k4, fun c hc => ?_, by decide, ?_⟩
      · simp only [List.mem_cons, List.not_mem_nil, or_false] at hc
        rcases hc with rfl | rfl | rfl
        · exact B.i_TooGreat_NoRow
        · exact B.i_TooGreat_NoText
        · exact B.i_TooGreat_TooDeep
      intro b2 n_b2; generalize e_b2 : upd _ b2 _ = H5; obtain ⟨g5, k5⟩ := newH e_b2 n_b2; clear e_b2
      exact (hR _ _).mpr ⟨_, _, rfl, qe b2 H5 (g3.trans (g4.trans g5)) k5⟩
  intro σ' H2 z
  obtain ⟨v, t3, rfl, qv⟩ := (hR _ _).mp z
  (first | refine hX _ _ ?_ | skip); (try dsimp only); try walk_at "dr1"; (try simp only [sp_say]); try walk_at "dr1"
  exact qv
def sp__law_told (_ : PySem.W.Frag) : Sp := fun vs H Q _ => ∃ due : Str, vs = [.str due] ∧ (due ≠ "NoName" → due ≠ "TooGreat" → Q (.str due) H) ∧
  (due = "NoName" → ∀ l H1, Same H H1 → H1 l = some (.lst (bNo.map V.bl)) → Q (.ref l) H1) ∧ (due = "TooGreat" → ∀ l H1, Same H H1 → H1 l = some (.lst (bGr.map V.bl)) → Q (.ref l) H1)
theorem ok__law_told (B : Bi mg K w) (F : Fun K "_law_told" "_law_told" s__law_told f fd) : FnOk P w K mg base CX0 1 f fd ["due"] (sp__law_told K) := by
  refine F.ok S__law_told (fun vs H Q E h => ?_) (fun cdv A outer s H vs Q E hr h => ?_)
  · obtain ⟨due, rfl, _⟩ := h
    rfl
  obtain ⟨due, rfl, q1, q2, q3⟩ := h
  have S := S__law_told
  refine ⟨_, ((pss_cons (ps_if (PW.pt (pw_or (pt_cmpR op_eq (pv 0) pe_str (nomark _)) (pw_or1 (pt_cmpR op_eq (pv 0) pe_str (nomark _))))) (pss_one (ps_ret (pe_lst (pa_cons (pe_cmpR op_eq (pv 0) pe_str (nomark _)) (pa_cons (pe_cmpR op_eq (pv 0) pe_str (nomark _)) (pa_cons pe_bl pa_nil)))))) pss_nil)
    (pss_one (ps_ret (pv 0))))), ?_⟩
  (first | refine hX _ _ ?_ | skip); (try dsimp only); try walk_at "dr1"
  refine ite2 (fun c => ⟨by decide, fun l n => ?_⟩) (fun c => ite2 (fun c' => ⟨by decide, fun l n => ?_⟩) (fun c' => q1 c c'))
  · refine q2 c l _ (newS n) ?_
    subst c
    rw [upd_same]
    rfl
  · refine q3 c' l _ (newS n) ?_
    subst c'
    rw [upd_same]
    rfl
theorem neLB {K : PySem.W.Frag} {H : Hp} {a b : Addr} {Q : VK} (bs : List Bool) (h : SqL K H a (bs.map V.bl)) (h' : SqL K H b (bs.map V.bl)) (q : Q (.bl false) H) : rEqD K true (.ref a) (.ref b) H Q := by
  obtain ⟨d, e, h1, h2, h3, h4, h5⟩ := eqLB (Q := fun v _ => v = .bl true) bs h h' rfl
  refine ⟨d, e, h1, h2, h3, h4, ?_⟩
  have h5 : d.eqv e = true := by simpa using h5
  rw [h5]
  exact q
structure Side (K : PySem.W.Frag) (H : Hp) (d dx kd qd : Addr) (p : Int) (r kvs : List (Key × V)) (n : Nat) : Prop where
  desk : DeskAt K H d dx kd p r
  dict : H qd = some (.dK kvs)
  tw : Tw H r kvs
  len : kvs.length ≤ n
theorem Side.sk {K : PySem.W.Frag} {H H' : Hp} {d dx kd qd a : Addr} {p : Int} {r kvs kvs0 : List (Key × V)} {n m : Nat} (h : Side K H d dx kd qd p r kvs n) (g : Sk a H H') (ha : H a = some (.dK kvs0)) (n1 : kd ≠ a) (n2 : qd ≠ a) (hm : n ≤ m) : Side K H' d dx kd qd p r kvs m :=
  ⟨⟨g _ _ (fun z => by have := h.desk.ins; rw [z, ha] at this; cases this) h.desk.ins, g _ _ n1 h.desk.kept⟩, g _ _ n2 h.dict, h.tw.sk g ha, Nat.le_trans h.len hm⟩
theorem Side.same {K : PySem.W.Frag} {H H' : Hp} {d dx kd qd : Addr} {p : Int} {r kvs : List (Key × V)} {n : Nat} (h : Side K H d dx kd qd p r kvs n) (g : Same H H') : Side K H' d dx kd qd p r kvs n := ⟨h.desk.same g, g _ _ h.dict, h.tw.same g, h.len⟩
structure Fix (K : PySem.W.Frag) (H : Hp) (la ln lp ld lk : Addr) (ns : List Int) (nms : List Str) (p0 p1 : Int) (d0 d1 q0 q1 : Addr) : Prop where
  sq : SqL K H la (ns.map V.int)
  nm : H ln = some (.lst (nms.map V.str))
  pr : H lp = some (.lst [.int p0, .int p1])
  de : H ld = some (.lst [.ref d0, .ref d1])
  ke : H lk = some (.lst [.ref q0, .ref q1])
section
variable {H H' : Hp} {la ln lp ld lk : Addr} {ns : List Int} {nms : List Str} {p0 p1 : Int} {d0 d1 q0 q1 : Addr}
theorem Fix.sk {a : Addr} {kvs0 : List (Key × V)} (h : Fix K H la ln lp ld lk ns nms p0 p1 d0 d1 q0 q1) (g : Sk a H H') (ha : H a = some (.dK kvs0)) : Fix K H' la ln lp ld lk ns nms p0 p1 d0 d1 q0 q1 := ⟨g.seq ha h.sq, g.lst ha h.nm, g.lst ha h.pr, g.lst ha h.de, g.lst ha h.ke⟩
theorem Fix.same (h : Fix K H la ln lp ld lk ns nms p0 p1 d0 d1 q0 q1) (g : Same H H') : Fix K H' la ln lp ld lk ns nms p0 p1 d0 d1 q0 q1 := ⟨g.seq h.sq, g _ _ h.nm, g _ _ h.pr, g _ _ h.de, g _ _ h.ke⟩
end
theorem Outc.more {H : Hp} {p : Int} {r kvs kvs' : List (Key × V)} {ws : List Str} {due : Str} (o : Outc H p r kvs kvs' ws due) : kvs'.length ≤ kvs.length + 1 := by
  cases o with
  | poly _ _ _ _ _ e => rw [e]; exact putK_len ..
  | shwN _ _ e => rw [e]; exact Nat.le_succ _
  | shw _ _ e => rw [e]; exact Nat.le_succ _
  | dropN _ _ e => rw [e]; exact Nat.le_succ _
  | drop _ _ e => rw [e]; exact Nat.le_succ_of_le (dropK_le _ _)
  | names _ _ _ _ e => rw [e]; exact Nat.le_succ _
  | madeN _ _ _ _ _ e => rw [e]; exact Nat.le_succ _
  | madeG _ _ _ _ _ _ e => rw [e]; exact Nat.le_succ _
  | made _ _ _ _ _ _ _ _ e => rw [e]; exact putK_len ..
theorem join_le {ws : List Str} {m : Nat} (h : ∀ w, w ∈ ws → w.length ≤ m) : (Str.join (Str.ofString " ") ws).length ≤ (m + 1) * ws.length := by
  have h1 := sum_len h
  have h2 := StrLaws.join_length_le (Str.ofString " ") ws
  rw [sp_len1] at h2
  rw [Nat.add_mul]
  omega
theorem tx_le {x : Int} (h : x.natAbs < 10 ^ 60) : (Tx.tx x).length ≤ 191 := str_big (lt190 h)
theorem Outc.short {H : Hp} {p : Int} {r kvs kvs' : List (Key × V)} {ws : List Str} {due : Str} (o : Outc H p r kvs kvs' ws due) : (Str.join (Str.ofString " ") ws).length ≤ 2000 := by
  have one : ∀ {a x : Str}, a.length ≤ 8 → Nm x → (Str.join (Str.ofString " ") [a, x]).length ≤ 2000 := fun ha nx => by
    refine Nat.le_trans (join_le (m := 8) fun w hw => ?_) (show 9 * 2 ≤ 2000 by decide)
    simp only [List.mem_cons, List.not_mem_nil, or_false] at hw
    rcases hw with rfl | rfl
    · exact ha
    · exact nx.most
  have mk : ∀ {way n : Int} {z x y : Str}, (way = 3 ∨ way = 4 ∨ way = 5) → Nm z → Nm x → (way = 3 → Nm y) → (Str.join (Str.ofString " ") (madeW way n z x y)).length ≤ 2000 := fun {way n z x y} w345 nz nx ny => by
    have l1 : (Str.ofString "times").length ≤ 191 := by decide +kernel
    have l2 : (Str.ofString "seen").length ≤ 191 := by decide +kernel
    have l3 : (Str.ofString "slope").length ≤ 191 := by decide +kernel
    have hz := nz.most
    have hx := nx.most
    have ha := tx_le (num201 n)
    have hN := tx_le (small_val (deep_in n))
    rcases w345 with rfl | rfl | rfl
    · have hy := (ny rfl).most
      refine Nat.le_trans (join_le (m := 191) fun w hw => ?_) (show 192 * 4 ≤ 2000 by decide)
      have hw : w ∈ [Str.ofString "times", z, x, y] := hw
      simp only [List.mem_cons, List.not_mem_nil, or_false] at hw
      rcases hw with rfl | rfl | rfl | rfl <;> omega
    · refine Nat.le_trans (join_le (m := 191) fun w hw => ?_) (show 192 * 5 ≤ 2000 by decide)
      have hw : w ∈ [Str.ofString "seen", z, x, Tx.tx (n % 201 - 100), Tx.tx (deepOf n)] := hw
      simp only [List.mem_cons, List.not_mem_nil, or_false] at hw
      rcases hw with rfl | rfl | rfl | rfl | rfl <;> omega
    · refine Nat.le_trans (join_le (m := 191) fun w hw => ?_) (show 192 * 3 ≤ 2000 by decide)
      have hw : w ∈ [Str.ofString "slope", z, x] := hw
      simp only [List.mem_cons, List.not_mem_nil, or_false] at hw
      rcases hw with rfl | rfl | rfl <;> omega
  cases o with
  | @poly z f c nz f0 lf sm kc e =>
    have h1 : (Tx.shown f).length ≤ 868 := Tx.join_len (by omega) sm
    have h2 : (Str.ofString "poly").length = 4 := by decide +kernel
    show (Str.ofString "poly" ++ Str.ofString " " ++ (z ++ Str.ofString " " ++ Tx.shown f)).length ≤ 2000
    have hz := nz.most
    simp only [app_len, sp_len1]
    omega
  | shwN nx => exact one (by decide +kernel) nx
  | shw _ pl => exact one (by decide +kernel) pl.nm
  | dropN nx => exact one (by decide +kernel) nx
  | drop _ pl => exact one (by decide +kernel) pl.nm
  | names => exact Nat.le_trans (join_le (m := 8) fun w hw => by rw [List.mem_singleton.mp hw]; decide +kernel) (by decide)
  | madeN w nz nx ny => exact mk w nz nx fun _ => ny
  | madeG w nz _ pl h2 => exact mk w nz pl.nm fun w3 => (h2 w3).2.nm
  | made w nz _ pl h2 => exact mk w nz pl.nm fun w3 => (h2 w3).2.nm
theorem desk_new {H H' : Hp} {d dx kd : Addr} {o1 o2 : HO} (nd : H d = none) (ndx : H dx = none) (nek : kd ≠ d) (nk : upd (upd H dx o1) d o2 kd = none) (old : ∀ b, b ≠ d → b ≠ kd → H' b = upd (upd H dx o1) d o2 b) : Same H H' ∧ H kd = none := by
  rw [upd_ne nek] at nk
  have nkx : kd ≠ dx := fun z => by rw [z, upd_same] at nk; cases nk
  rw [upd_ne nkx] at nk
  refine ⟨fun b o hb => ?_, nk⟩
  have h1 : b ≠ d := fun z => by rw [z, nd] at hb; cases hb
  have h2 : b ≠ dx := fun z => by rw [z, ndx] at hb; cases hb
  have h3 : b ≠ kd := fun z => by rw [z, nk] at hb; cases hb
  rw [old b h1 h3, upd_ne h1, upd_ne h2]
  exact hb
theorem ne_new {H : Hp} {a b : Addr} {o : HO} (h : H a = some o) (n : H b = none) : a ≠ b := fun z => by
  rw [z, n] at h
  cases h
theorem ok_law (B : Bi mg K w) (d___init__ : MkD P w K mg base (clK K "Desk") 2 ["self", "p"] (sp___init__ K)) (d__law_cell : Def P w K mg base "_law_cell" 1 ["script", "k"] (sp__law_cell K)) (d__law_prime : Def P w K mg base "_law_prime" 1 ["cell"] (sp__law_prime K)) (d__law_name : Def P w K mg base "_law_name" 1 ["cell"] (sp__law_name K)) (d__law_mixed : Def P w K mg base "_law_mixed" 1 ["cell", "k"] (sp__law_mixed K)) (d__law_shown : Def P w K mg base "_law_shown" 1 ["f"] (sp__law_shown K)) (d__law_step : Def P w K mg base "_law_step" 4 ["p", "number", "kept", "names"] (sp__law_step K)) (d__law_ask : Def P w K mg base "_law_ask" 7 ["desk", "row"] (sp__law_ask K)) (d__law_told : Def P w K mg base "_law_told" 1 ["due"] (sp__law_told K)) (F : Fun K "law" "law" s_law f fd) : FnOk P w K mg base CX0 8 f fd ["script"] (spLaw K) := by
  refine F.ok S_law (fun vs H Q E h => ?_) (fun cdv A outer s H vs Q E hr h => ?_)
  · obtain ⟨a, ns, rfl, _⟩ := h
    rfl
  obtain ⟨la, ns, rfl, hS, hl, hbits, q⟩ := h
  have S := S_law
  refine ⟨_, ((pss_cons (ps_comp [0] ["script"] rfl S.nd (k := 1) rfl rfl rfl rfl ⟨rfl, trivial⟩ ⟨rfl, rfl, rfl, rfl, trivial⟩ rfl rfl (by decide) (by decide) rfl rfl (by decide) (pi_range1 rfl B.b_range (pa_cons pe_int pa_nil)) (fun _ _ _ _ => pts_nil) (fun _ _ _ _ => (pe_def d__law_name hr rfl (pa_cons (pe_def d__law_cell hr rfl (pa_cons (pv 1) (pa_cons (pv 0) pa_nil))) pa_nil))))
    (pss_cons (ps_set (i := 2) S.nd rfl (Or.inl rfl) (pe_lst (pa_cons (pe_def d__law_prime hr rfl (pa_cons (pe_op op_fdivW (pe_def d__law_cell hr rfl (pa_cons (pv 0) (pa_cons pe_int pa_nil))) pe_int) pa_nil)) (pa_cons (pe_def d__law_prime hr rfl (pa_cons (pe_op op_fdivW (pe_def d__law_cell hr rfl (pa_cons (pv 0) (pa_cons pe_int pa_nil))) pe_int) pa_nil)) pa_nil))))
    (pss_cons (ps_set (i := 3) S.nd rfl (Or.inl rfl) (pe_lst (pa_cons (pe_mk d___init__ hr rfl B.c_Desk (pa_cons (pe_ix ix_list (pv 2) pe_int (fun _ _ => rfl)) pa_nil)) (pa_cons (pe_mk d___init__ hr rfl B.c_Desk (pa_cons (pe_ix ix_list (pv 2) pe_int (fun _ _ => rfl)) pa_nil)) pa_nil))))
    (pss_cons (ps_set (i := 4) S.nd rfl (Or.inl rfl) (pe_lst (pa_cons pe_dnewK (pa_cons pe_dnewK pa_nil))))
    (pss_cons (ps_for PassesOwn.never rfl (pi_range2 rfl B.b_range (pa_cons pe_int (pa_cons (pe_callB (call_max2 rfl) rfl B.b_max L2.bt_max (pa_cons pe_int (pa_cons (pe_callB (call_min2 rfl) rfl B.b_min L2.bt_min (pa_cons (pe_callB call_len_seq rfl B.b_len PySem.boot_len (pa_cons (pv 0) pa_nil)) (pa_cons pe_int pa_nil))) pa_nil))) pa_nil))) (pg_name (i := 5) S.nd rfl (Or.inl rfl)) (pss_cons (ps_set (i := 6) S.nd rfl (Or.inl rfl) (pe_def d__law_mixed hr rfl (pa_cons (pe_def d__law_cell hr rfl (pa_cons (pv 0) (pa_cons (pv 5) pa_nil))) (pa_cons (pv 5) pa_nil))))
    (pss_cons (ps_set (i := 7) S.nd rfl (Or.inl rfl) (pe_op op_mod (pv 6) pe_int))
    (pss_cons (ps_asg (pe_def d__law_step hr rfl (pa_cons (pe_ix ix_list (pv 2) (pv 7) (fun _ _ => rfl)) (pa_cons (pe_op op_fdivW (pv 6) pe_int) (pa_cons (pe_ix ix_list (pv 4) (pv 7) (fun _ _ => rfl)) (pa_cons (pv 1) pa_nil))))) (pg_lst rfl (pgs_cons (pg_name (i := 8) S.nd rfl (Or.inl rfl)) (pgs_cons (pg_name (i := 9) S.nd rfl (Or.inl rfl)) pgs_nil))))
    (pss_cons (ps_set (i := 10) S.nd rfl (Or.inl rfl) (pe_def d__law_ask hr rfl (pa_cons (pe_ix ix_list (pv 3) (pv 7) (fun _ _ => rfl)) (pa_cons (pv 8) pa_nil))))
    (pss_one (ps_if (pt_cmpR (op_two op_ne (op_neD hr.units)) (pv 10) (pe_def d__law_told hr rfl (pa_cons (pv 9) pa_nil)) (nomark _)) (pss_one (ps_ret pe_bl)) pss_nil)))))))
    (pss_cons (ps_for PassesOwn.never rfl (pi_range1 rfl B.b_range (pa_cons pe_int pa_nil)) (pg_name (i := 7) S.nd rfl (Or.inl rfl)) (pss_one (ps_for PassesOwn.never rfl (pi_list (pv 1)) (pg_name (i := 11) S.nd rfl (Or.inl rfl)) (pss_cons (ps_set (i := 9) S.nd rfl (Or.inl rfl) pe_str)
    (pss_cons (ps_join (ps_if (pt_cmp (pc_din (hu1 hr.units) (pv 11) (pe_ix ix_list (pv 4) (pv 7) (fun _ _ => rfl)))) (pss_one (ps_set (i := 9) S.nd rfl (Or.inl rfl) (pe_def d__law_shown hr rfl (pa_cons (pe_dget (hu1 hr.units) (pe_ix ix_list (pv 4) (pv 7) (fun _ _ => rfl)) (pv 11) (fun _ _ => rfl)) pa_nil)))) pss_nil))
    (pss_cons (ps_set (i := 10) S.nd rfl (Or.inl rfl) (pe_def d__law_ask hr rfl (pa_cons (pe_ix ix_list (pv 3) (pv 7) (fun _ _ => rfl)) (pa_cons (pe_op op_add_str pe_str (pv 11)) pa_nil))))
    (pss_one (ps_if (pt_cmpR (op_two op_ne (op_neD hr.units)) (pv 10) (pe_def d__law_told hr rfl (pa_cons (pv 9) pa_nil)) (nomark _)) (pss_one (ps_ret pe_bl)) pss_nil))))))))
    (pss_one (ps_ret pe_bl))))))))), ?_⟩
  (try dsimp only); (first | refine hX _ _ ?_ | skip); (try dsimp only); (first | refine seqX (fun X hX => ?_) | skip); try walk_at "dr2"; (try simp only [sp___init__, sp__law_cell, sp__law_prime, sp__law_name, sp__law_mixed, sp__law_shown, sp__law_step, sp__law_ask, sp__law_told]); try walk_at "dr2"
  refine ⟨by decide, by decide, ?_⟩
  obtain ⟨Pc, hPc⟩ : ∃ Pc : Nat → List V → Hp → Prop, ∀ i ys H1, Pc i ys H1 ↔ (H1 = H ∧ ∃ nms : List Str, ys = nms.map V.str ∧ nms.length = i ∧ ∀ z, z ∈ nms → Nm z) := ⟨_, fun _ _ _ => Iff.rfl⟩
  (first | refine hX _ _ ?_ | skip); refine compR Pc (by decide) ((hPc _ _ _).mpr ⟨rfl, [], rfl, rfl, (fun _ h => nomatch h)⟩) ?_ ?_
  · intro i ys H1 hi w
    obtain ⟨rfl, nms, rfl, hi2, hn⟩ := (hPc _ _ _).mp w
    have hi : i < 5 := hi
    (first | refine hX _ _ ?_ | skip); (try dsimp only); try walk_at "dr1"; (try simp only [sp___init__, sp__law_cell, sp__law_prime, sp__law_name, sp__law_mixed, sp__law_shown, sp__law_step, sp__law_ask, sp__law_told]); try walk_at "dr1"
    refine ⟨ns, hS, hl, by omega, by omega, fun z nz => (hPc _ _ _).mpr ⟨rfl, nms ++ [z], by simp, by simp [hi2], fun y hy => ?_⟩⟩
    rcases List.mem_append.mp hy with hy | hy
    · exact hn y hy
    · rw [List.mem_singleton.mp hy]
      exact nz
  intro ys H1 w ln n_ln
  obtain ⟨rfl, nms, rfl, ln5, hn⟩ := (hPc _ _ _).mp w
  have ln5 : nms.length = 5 := ln5
  clear hPc w
  have g2 := newS n_ln (o := HO.lst (nms.map V.str))
  have k2 : upd H1 ln (HO.lst (nms.map V.str)) ln = _ := upd_same
  generalize upd H1 ln (HO.lst (nms.map V.str)) = H2 at g2 k2 ⊢
  (try dsimp only); (first | refine hX _ _ ?_ | skip); (try dsimp only); (first | refine seqX (fun X hX => ?_) | skip); try walk_at "dr2"; (try simp only [sp___init__, sp__law_cell, sp__law_prime, sp__law_name, sp__law_mixed, sp__law_shown, sp__law_step, sp__law_ask, sp__law_told]); try walk_at "dr2"
  refine ⟨ns, g2.seq hS, hl, ⟨by decide, by decide⟩, fun p0 H3 hp0 g3 => ⟨ns, (g2.trans g3).seq hS, hl, ⟨by decide, by decide⟩, fun p1 H4 hp1 g4 => ⟨by decide, ?_⟩⟩⟩
  intro lp n_lp; generalize e_lp : upd _ lp _ = H5; obtain ⟨g5, k5⟩ := newH e_lp n_lp; clear e_lp
  (try dsimp only); (first | refine hX _ _ ?_ | skip); (try dsimp only); (first | refine seqX (fun X hX => ?_) | skip); try walk_at "dr2"; (try simp only [sp___init__, sp__law_cell, sp__law_prime, sp__law_name, sp__law_mixed, sp__law_shown, sp__law_step, sp__law_ask, sp__law_told]); try walk_at "dr2"
  refine ⟨_, SqL.of k5, _, atI_nat (j := 0) rfl, fun d0 dx0 nd ndx _ => ⟨dx0, p0, rfl, upd_same, hp0, fun kd0 H6 nek nk kI0 kD0 old => ?_⟩⟩
  obtain ⟨g6, nk0⟩ := desk_new nd ndx nek nk old
  clear nk old nek nd ndx
  refine ⟨_, SqL.of (g6 _ _ k5), _, atI_nat (j := 1) rfl, fun d1 dx1 nd ndx _ => ⟨dx1, p1, rfl, upd_same, hp1, fun kd1 H7 nek nk kI1 kD1 old => ?_⟩⟩
  obtain ⟨g7, nk1⟩ := desk_new nd ndx nek nk old
  clear nk old nek nd ndx
  refine ⟨by decide, ?_⟩
  intro ld n_ld; generalize e_ld : upd _ ld _ = H8; obtain ⟨g8, k8⟩ := newH e_ld n_ld; clear e_ld
  (try dsimp only); (first | refine hX _ _ ?_ | skip); (try dsimp only); (first | refine seqX (fun X hX => ?_) | skip); try walk_at "dr2"; (try simp only [sp___init__, sp__law_cell, sp__law_prime, sp__law_name, sp__law_mixed, sp__law_shown, sp__law_step, sp__law_ask, sp__law_told]); try walk_at "dr2"
  intro q0 n_q0; generalize e_q0 : upd _ q0 _ = H9; obtain ⟨g9, k9⟩ := newH e_q0 n_q0; clear e_q0
  intro q1 n_q1; generalize e_q1 : upd _ q1 _ = H10; obtain ⟨g10, k10⟩ := newH e_q1 n_q1; clear e_q1
  refine ⟨by decide, ?_⟩
  intro lk n_lk; generalize e_lk : upd _ lk _ = H11; obtain ⟨g11, k11⟩ := newH e_lk n_lk; clear e_lk
  have G5 := g5.trans (g6.trans (g7.trans (g8.trans (g9.trans (g10.trans g11)))))
  have G7 := g8.trans (g9.trans (g10.trans g11))
  have fx : Fix K H11 la ln lp ld lk ns nms p0 p1 d0 d1 q0 q1 := ⟨(g2.trans (g3.trans (g4.trans G5))).seq hS, G5 _ _ (g4 _ _ (g3 _ _ k2)), (g6.trans (g7.trans G7)) _ _ k5, (g9.trans (g10.trans g11)) _ _ k8, k11⟩
  have s0 : Side K H11 d0 dx0 kd0 q0 p0 [] [] 0 := ⟨⟨G7 _ _ (g7 _ _ kI0), G7 _ _ (g7 _ _ kD0)⟩, (g10.trans g11) _ _ k9, .nil, Nat.le_refl _⟩
  have s1 : Side K H11 d1 dx1 kd1 q1 p1 [] [] 0 := ⟨⟨G7 _ _ kI1, G7 _ _ kD1⟩, g11 _ _ k10, .nil, Nat.le_refl _⟩
  have n01 : kd0 ≠ kd1 := ne_new kD0 nk1
  have n02 : kd0 ≠ q0 := ne_new (g8 _ _ (g7 _ _ kD0)) n_q0
  have n03 : kd0 ≠ q1 := ne_new (g9 _ _ (g8 _ _ (g7 _ _ kD0))) n_q1
  have n12 : kd1 ≠ q0 := ne_new (g8 _ _ kD1) n_q0
  have n13 : kd1 ≠ q1 := ne_new (g9 _ _ (g8 _ _ kD1)) n_q1
  have n23 : q0 ≠ q1 := ne_new k9 n_q1
  clear k2 k5 k8 k9 k10 k11 g2 g3 g4 g5 g6 g7 g8 g9 g10 g11 kI0 kD0 kI1 kD1 nk0 nk1 n_q0 n_q1 G5 G7 hS
  (try dsimp only); (first | refine hX _ _ ?_ | skip); (try dsimp only); (first | refine seqX (fun X hX => ?_) | skip); try walk_at "dr2"; (try simp only [sp___init__, sp__law_cell, sp__law_prime, sp__law_name, sp__law_mixed, sp__law_shown, sp__law_step, sp__law_ask, sp__law_told]); try walk_at "dr2"
  refine ⟨_, .inl fx.sq, by decide, by decide, by split <;> first | omega | (split <;> omega), by split <;> first | omega | (split <;> omega), ?_⟩
  rw [List.length_map]
  have t55 : ((if (if 60 < (ns.length : Int) then 60 else (ns.length : Int)) > 9 then (if 60 < (ns.length : Int) then 60 else (ns.length : Int)) else 9) - 5).toNat ≤ 55 := by split <;> split <;> omega
  generalize ((if (if 60 < (ns.length : Int) then 60 else (ns.length : Int)) > 9 then (if 60 < (ns.length : Int) then 60 else (ns.length : Int)) else 9) - 5).toNat = many at t55 ⊢
  obtain ⟨Pv, hPv⟩ : ∃ Pv : Nat → St → Hp → Prop, ∀ i σ H12, Pv i σ H12 ↔ (Fix K H12 la ln lp ld lk ns nms p0 p1 d0 d1 q0 q1 ∧ (∃ r0 kvs0 r1 kvs1, Side K H12 d0 dx0 kd0 q0 p0 r0 kvs0 i ∧ Side K H12 d1 dx1 kd1 q1 p1 r1 kvs1 i) ∧ ∃ t5 t6 t7 t8 t9 t10 : Option V, σ = [some (.ref la), some (.ref ln), some (.ref lp), some (.ref ld), some (.ref lk), t5, t6, t7, t8, t9, t10, none]) := ⟨_, fun _ _ _ => Iff.rfl⟩
  (first | refine hX _ _ ?_ | skip); refine forR Pv ((hPv _ _ _).mpr ⟨fx, ⟨_, _, _, _, s0, s1⟩, none, none, none, none, none, none, rfl⟩) ?_ ?_
  · clear fx s0 s1
    intro i σ H12 hi z
    obtain ⟨fx, ⟨r0, kvs0, r1, kvs1, s0, s1⟩, t5, t6, t7, t8, t9, t10, rfl⟩ := (hPv _ _ _).mp z
    (try dsimp only); (first | refine hX _ _ ?_ | skip); (try dsimp only); (first | refine seqX (fun X hX => ?_) | skip); try walk_at "dr2"; (try simp only [sp___init__, sp__law_cell, sp__law_prime, sp__law_name, sp__law_mixed, sp__law_shown, sp__law_step, sp__law_ask, sp__law_told]); try walk_at "dr2"
    refine ⟨ns, fx.sq, hl, by omega, by omega, by omega, by omega, fun n n0 n33 => ?_⟩
    (try dsimp only); (first | refine hX _ _ ?_ | skip); (try dsimp only); (first | refine seqX (fun X hX => ?_) | skip); try walk_at "dr2"; (try simp only [sp___init__, sp__law_cell, sp__law_prime, sp__law_name, sp__law_mixed, sp__law_shown, sp__law_step, sp__law_ask, sp__law_told]); try walk_at "dr2"
    have m2 := mod_in n (show (0 : Int) < 2 by decide)
    generalize n % 2 = which at m2 ⊢
    obtain ⟨dA, dxA, kdA, qA, pA, rA, kvsA, dB, dxB, kdB, qB, pB, rB, kvsB, sA, sB, hpA, e1, e2, e3, m1, m3, m4, m5, m6, back⟩ : ∃ (dA dxA kdA qA : Addr) (pA : Int) (rA kvsA : List (Key × V)) (dB dxB kdB qB : Addr) (pB : Int) (rB kvsB : List (Key × V)), Side K H12 dA dxA kdA qA pA rA kvsA i ∧ Side K H12 dB dxB kdB qB pB rB kvsB i ∧ pA ∈ Dr.primes ∧ atI [V.int p0, V.int p1] which = some (.int pA) ∧ atI [V.ref q0, V.ref q1] which = some (.ref qA) ∧ atI [V.ref d0, V.ref d1] which = some (.ref dA) ∧ kdA ≠ qA ∧ kdB ≠ kdA ∧ kdB ≠ qA ∧ qB ≠ kdA ∧ qB ≠ qA ∧
        ∀ H' rA' kvsA' rB' kvsB' n', Side K H' dA dxA kdA qA pA rA' kvsA' n' → Side K H' dB dxB kdB qB pB rB' kvsB' n' → ∃ r0 kvs0 r1 kvs1, Side K H' d0 dx0 kd0 q0 p0 r0 kvs0 n' ∧ Side K H' d1 dx1 kd1 q1 p1 r1 kvs1 n' := by
      rcases (show which = 0 ∨ which = 1 by omega) with rfl | rfl
      · exact ⟨_, _, _, _, _, _, _, _, _, _, _, _, _, _, s0, s1, hp0, atI_nat (j := 0) rfl, atI_nat (j := 0) rfl, atI_nat (j := 0) rfl, n02, Ne.symm n01, n12, Ne.symm n03, Ne.symm n23, fun H' a b c d n' h1 h2 => ⟨_, _, _, _, h1, h2⟩⟩
      · exact ⟨_, _, _, _, _, _, _, _, _, _, _, _, _, _, s1, s0, hp1, atI_nat (j := 1) rfl, atI_nat (j := 1) rfl, atI_nat (j := 1) rfl, n13, n01, n03, Ne.symm n12, n23, fun H' a b c d n' h1 h2 => ⟨_, _, _, _, h2, h1⟩⟩
    clear s0 s1 n01 n02 n03 n12 n13 n23 hp0 hp1
    have lA := sA.len
    have p2 := Dr.primes_ge hpA
    (try dsimp only); (first | refine hX _ _ ?_ | skip); (try dsimp only); (first | refine seqX (fun X hX => ?_) | skip); try walk_at "dr2"; (try simp only [sp___init__, sp__law_cell, sp__law_prime, sp__law_name, sp__law_mixed, sp__law_shown, sp__law_step, sp__law_ask, sp__law_told]); try walk_at "dr2"
    refine ⟨_, SqL.of fx.pr, _, e1, ⟨by decide, by decide⟩, _, SqL.of fx.ke, _, e2, pA, rfl, qA, rfl, by omega, by omega, rA, kvsA, sA.dict, sA.tw, by omega, nms, fx.nm, ln5, hn, fun l13 ws due kvs' H13 oc sk13 kq13 kl13 => ⟨_, SqL.of kl13, rfl, _, _, rfl, _, _, rfl, rfl, ?_⟩⟩
    have dA13 : DeskAt K H13 dA dxA kdA pA rA := ⟨sk13 _ _ (fun z => by have := sA.desk.ins; rw [z, sA.dict] at this; cases this) sA.desk.ins, sk13 _ _ m1 sA.desk.kept⟩
    have tw13 := sA.tw.sk sk13 sA.dict
    have sB13 := sB.sk sk13 sA.dict m4 m6 (Nat.le_refl _)
    have fx13 := fx.sk sk13 sA.dict
    have more := oc.more
    have fin : ∀ H14 rA' t8 t9 t10, Sk kdA H13 H14 → H14 kdA = some (.dK rA') → Tw H14 rA' kvs' → ∀ H15, Same H14 H15 → Pv (i + 1) [some (.ref la), some (.ref ln), some (.ref lp), some (.ref ld), some (.ref lk), some (.int (5 + (i : Int))), some (.int n), some (.int which), t8, t9, t10, none] H15 := fun H14 rA' t8 t9 t10 sk14 kk14 tw14 H15 g15 => by
      have sA14 : Side K H14 dA dxA kdA qA pA rA' kvs' (i + 1) := ⟨⟨sk14 _ _ (fun z => by have := dA13.ins; rw [z, dA13.kept] at this; cases this) dA13.ins, kk14⟩, sk14 _ _ (Ne.symm m1) kq13, tw14, by omega⟩
      have sB14 := sB13.sk sk14 dA13.kept m3 m5 (Nat.le_succ _)
      exact (hPv _ _ _).mpr ⟨(fx13.sk sk14 dA13.kept).same g15, back _ _ _ _ _ _ (sA14.same g15) (sB14.same g15), _, _, _, _, _, _, rfl⟩
    (try dsimp only); (first | refine hX _ _ ?_ | skip); (try dsimp only); (first | refine seqX (fun X hX => ?_) | skip); try walk_at "dr2"; (try simp only [sp___init__, sp__law_cell, sp__law_prime, sp__law_name, sp__law_mixed, sp__law_shown, sp__law_step, sp__law_ask, sp__law_told]); try walk_at "dr2"
    refine ⟨_, SqL.of fx13.de, _, e3, dA, rfl, dxA, kdA, pA, rA, kvsA, kvs', ws, rfl, dA13, hpA, by omega, tw13, oc.short, due, oc, fun n1 n2 H14 r' h1 h2 _ h4 => ?_, fun e l14 H14 g14 t14 k14 => ?_, fun e l14 H14 g14 t14 k14 => ?_⟩
    · (first | refine hX _ _ ?_ | skip); (try dsimp only); try walk_at "dr1"; (try simp only [sp___init__, sp__law_cell, sp__law_prime, sp__law_name, sp__law_mixed, sp__law_shown, sp__law_step, sp__law_ask, sp__law_told]); try walk_at "dr1"
      refine ⟨fun _ _ => .inl ?_, fun z => absurd z n1, fun z => absurd z n2⟩
      exact fin H14 r' _ _ _ h1 h2 h4 H14 (Same.refl _)
    · have hno : due ≠ "TooGreat" := by rw [e]; decide +kernel
      (first | refine hX _ _ ?_ | skip); (try dsimp only); try walk_at "dr1"; (try simp only [sp___init__, sp__law_cell, sp__law_prime, sp__law_name, sp__law_mixed, sp__law_shown, sp__law_step, sp__law_ask, sp__law_told]); try walk_at "dr1"
      refine ⟨fun z => absurd e z, fun _ l15 H15 g15 k15 => .inr (neLB bNo (SqL.of (g15 _ _ k14)) (SqL.of k15) ⟨_, rfl, ?_⟩), fun z => absurd z hno⟩
      rw [if_neg (by decide)]
      exact fin H14 rA _ _ _ (Sk.of g14) (g14 _ _ dA13.kept) t14 H15 g15
    · have hno : due ≠ "NoName" := by rw [e]; decide +kernel
      (first | refine hX _ _ ?_ | skip); (try dsimp only); try walk_at "dr1"; (try simp only [sp___init__, sp__law_cell, sp__law_prime, sp__law_name, sp__law_mixed, sp__law_shown, sp__law_step, sp__law_ask, sp__law_told]); try walk_at "dr1"
      refine ⟨fun _ z => absurd e z, fun z => absurd z hno, fun _ l15 H15 g15 k15 => .inr (neLB bGr (SqL.of (g15 _ _ k14)) (SqL.of k15) ⟨_, rfl, ?_⟩)⟩
      rw [if_neg (by decide)]
      exact fin H14 rA _ _ _ (Sk.of g14) (g14 _ _ dA13.kept) t14 H15 g15
  · intro σ H12 z
    obtain ⟨fx, ⟨r0, kvs0, r1, kvs1, s0, s1⟩, t5, t6, t7, t8, t9, t10, rfl⟩ := (hPv _ _ _).mp z
    (try dsimp only); (first | refine hX _ _ ?_ | skip); (try dsimp only); (first | refine seqX (fun X hX => ?_) | skip); try walk_at "dr2"; (try simp only [sp___init__, sp__law_cell, sp__law_prime, sp__law_name, sp__law_mixed, sp__law_shown, sp__law_step, sp__law_ask, sp__law_told]); try walk_at "dr2"
    obtain ⟨Pu, hPu⟩ : ∃ Pu : Nat → St → Hp → Prop, ∀ u σ H13, Pu u σ H13 ↔ (Fix K H13 la ln lp ld lk ns nms p0 p1 d0 d1 q0 q1 ∧ (∃ r0 kvs0 r1 kvs1, Side K H13 d0 dx0 kd0 q0 p0 r0 kvs0 many ∧ Side K H13 d1 dx1 kd1 q1 p1 r1 kvs1 many) ∧ ∃ t5 t6 t7 t8 t9 t10 t11 : Option V, σ = [some (.ref la), some (.ref ln), some (.ref lp), some (.ref ld), some (.ref lk), t5, t6, t7, t8, t9, t10, t11]) := ⟨_, fun _ _ _ => Iff.rfl⟩
    refine ⟨by decide, by decide, forR Pu ((hPu _ _ _).mpr ⟨fx, ⟨_, _, _, _, s0, s1⟩, _, _, _, _, _, _, _, rfl⟩) ?_ ?_⟩
    · clear fx s0 s1
      intro u σ H13 hu z
      have hu : u < 2 := hu
      obtain ⟨fx, ⟨r0, kvs0, r1, kvs1, s0, s1⟩, t5, t6, t7, t8, t9, t10, t11, rfl⟩ := (hPu _ _ _).mp z
      (first | refine hX _ _ ?_ | skip); (try dsimp only); try walk_at "dr1"; (try simp only [sp___init__, sp__law_cell, sp__law_prime, sp__law_name, sp__law_mixed, sp__law_shown, sp__law_step, sp__law_ask, sp__law_told]); try walk_at "dr1"
      rw [Int.zero_add]
      refine ⟨⟨_, SqL.of fx.nm⟩, ?_⟩
      obtain ⟨Pn, hPn⟩ : ∃ Pn : Nat → St → Hp → Prop, ∀ j σ H14, Pn j σ H14 ↔ (Fix K H14 la ln lp ld lk ns nms p0 p1 d0 d1 q0 q1 ∧ (∃ r0 kvs0 r1 kvs1, Side K H14 d0 dx0 kd0 q0 p0 r0 kvs0 many ∧ Side K H14 d1 dx1 kd1 q1 p1 r1 kvs1 many) ∧ ∃ t5 t6 t8 t9 t10 t11 : Option V, σ = [some (.ref la), some (.ref ln), some (.ref lp), some (.ref ld), some (.ref lk), t5, t6, some (.int (u : Int)), t8, t9, t10, t11]) := ⟨_, fun _ _ _ => Iff.rfl⟩
      (first | refine hX _ _ ?_ | skip); refine forL (nms.map V.str) Pn ((hPn _ _ _).mpr ⟨fx, ⟨_, _, _, _, s0, s1⟩, _, _, _, _, _, _, rfl⟩) (fun j σ H14 _ z => SqL.of ((hPn _ _ _).mp z).1.nm) ?_ ?_
      · clear fx s0 s1
        intro j v σ H14 hv z
        obtain ⟨fx, ⟨r0, kvs0, r1, kvs1, s0, s1⟩, t5, t6, t8, t9, t10, t11, rfl⟩ := (hPn _ _ _).mp z
        obtain ⟨x, hx, rfl⟩ : ∃ x, nms[j]? = some x ∧ V.str x = v := by
          rw [List.getElem?_map] at hv
          cases ex : nms[j]? with
          | none => rw [ex] at hv; cases hv
          | some x => rw [ex] at hv; exact ⟨x, rfl, Option.some.inj hv⟩
        have nx := hn x (List.mem_of_getElem? hx)
        have lx := nx.most
        obtain ⟨dA, dxA, kdA, qA, pA, rA, kvsA, dB, dxB, kdB, qB, pB, rB, kvsB, sA, sB, hpA, e2, e3, m1, m3, m5, back⟩ : ∃ (dA dxA kdA qA : Addr) (pA : Int) (rA kvsA : List (Key × V)) (dB dxB kdB qB : Addr) (pB : Int) (rB kvsB : List (Key × V)), Side K H14 dA dxA kdA qA pA rA kvsA many ∧ Side K H14 dB dxB kdB qB pB rB kvsB many ∧ pA ∈ Dr.primes ∧ atI [V.ref q0, V.ref q1] (u : Int) = some (.ref qA) ∧ atI [V.ref d0, V.ref d1] (u : Int) = some (.ref dA) ∧ kdA ≠ qA ∧ kdB ≠ kdA ∧ qB ≠ kdA ∧
            ∀ H' rA' kvsA' rB' kvsB' n', Side K H' dA dxA kdA qA pA rA' kvsA' n' → Side K H' dB dxB kdB qB pB rB' kvsB' n' → ∃ r0 kvs0 r1 kvs1, Side K H' d0 dx0 kd0 q0 p0 r0 kvs0 n' ∧ Side K H' d1 dx1 kd1 q1 p1 r1 kvs1 n' := by
          rcases (show u = 0 ∨ u = 1 by omega) with rfl | rfl
          · exact ⟨_, _, _, _, _, _, _, _, _, _, _, _, _, _, s0, s1, hp0, atI_nat (j := 0) rfl, atI_nat (j := 0) rfl, n02, Ne.symm n01, Ne.symm n03, fun H' a b c d n' h1 h2 => ⟨_, _, _, _, h1, h2⟩⟩
          · exact ⟨_, _, _, _, _, _, _, _, _, _, _, _, _, _, s1, s0, hp1, atI_nat (j := 1) rfl, atI_nat (j := 1) rfl, n13, n01, Ne.symm n12, fun H' a b c d n' h1 h2 => ⟨_, _, _, _, h2, h1⟩⟩
        clear s0 s1
        have lA := sA.len
        (try dsimp only); (first | refine hX _ _ ?_ | skip); (try dsimp only); (first | refine seqX (fun X hX => ?_) | skip); try walk_at "dr2"; (try simp only [sp___init__, sp__law_cell, sp__law_prime, sp__law_name, sp__law_mixed, sp__law_shown, sp__law_step, sp__law_ask, sp__law_told]); try walk_at "dr2"
        (first | refine hX _ _ ?_ | skip); refine seqI ?_
        obtain ⟨R, hR⟩ : ∃ R : St → Hp → Prop, ∀ σ' H15, R σ' H15 ↔ (Same H14 H15 ∧ ∃ due : Str, Outc H15 pA rA kvsA kvsA [("show" : Str), x] due ∧ σ' = [some (.ref la), some (.ref ln), some (.ref lp), some (.ref ld), some (.ref lk), t5, t6, some (.int (u : Int)), t8, some (.str due), t10, some (.str x)]) := ⟨_, fun _ _ => Iff.rfl⟩
        (first | refine hX _ _ ?_ | skip); refine joinB R ?_ ?_
        · (first | refine hX _ _ ?_ | skip); (try dsimp only); try walk_at "dr1"; (try simp only [sp___init__, sp__law_cell, sp__law_prime, sp__law_name, sp__law_mixed, sp__law_shown, sp__law_step, sp__law_ask, sp__law_told]); try walk_at "dr1"
          refine ⟨_, SqL.of fx.ke, _, e2, qA, rfl, _, DGet.k (k := Sum.inr x) sA.dict, ?_⟩
          rcases sA.tw.at x with ⟨f1, f2⟩ | ⟨b, c, f, f1, f2, pl⟩
          · rw [f2, if_neg (by intro z; cases z)]
            exact (hR _ _).mpr ⟨Same.refl _, _, .shwN nx f1 rfl, rfl⟩
          · rw [f2, if_pos (by rfl)]
            have lf := pl.len
            refine ⟨_, SqL.of fx.ke, _, e2, qA, rfl, _, dget_some sA.dict f2, c, rfl, f, SqL.of pl.two, by omega, (fun x hx => lt190 (pl.small x hx)), fun H15 g15 => (hR _ _).mpr ⟨g15, _, .shw f1 ⟨pl.nm, g15 _ _ pl.one, g15 _ _ pl.two, pl.len, pl.small⟩ rfl, rfl⟩⟩
        intro σ' H15 z
        refine byX fun X hX => ?_; obtain ⟨g15, due, oc, rfl⟩ := (hR _ _).mp z; refine hX ?_; clear hX X
        clear hR z
        have sA15 := sA.same g15
        have sB15 := sB.same g15
        have fx15 := fx.same g15
        have dA15 := sA15.desk
        have fin : ∀ H16 rA' t10, Sk kdA H15 H16 → H16 kdA = some (.dK rA') → Tw H16 rA' kvsA → ∀ H17, Same H16 H17 → Pn (j + 1) [some (.ref la), some (.ref ln), some (.ref lp), some (.ref ld), some (.ref lk), t5, t6, some (.int (u : Int)), t8, some (.str due), t10, some (.str x)] H17 := fun H16 rA' t10 sk16 kk16 tw16 H17 g17 => by
          have sA16 : Side K H16 dA dxA kdA qA pA rA' kvsA many := ⟨⟨sk16 _ _ (fun z => by have := dA15.ins; rw [z, dA15.kept] at this; cases this) dA15.ins, kk16⟩, sk16 _ _ (Ne.symm m1) sA15.dict, tw16, sA15.len⟩
          have sB16 := sB15.sk sk16 dA15.kept m3 m5 (Nat.le_refl _)
          exact (hPn _ _ _).mpr ⟨(fx15.sk sk16 dA15.kept).same g17, back _ _ _ _ _ _ (sA16.same g17) (sB16.same g17), _, _, _, _, _, _, rfl⟩
        (try dsimp only); (first | refine hX _ _ ?_ | skip); (try dsimp only); (first | refine seqX (fun X hX => ?_) | skip); try walk_at "dr2"; (try simp only [sp___init__, sp__law_cell, sp__law_prime, sp__law_name, sp__law_mixed, sp__law_shown, sp__law_step, sp__law_ask, sp__law_told]); try walk_at "dr2"
        refine ⟨_, SqL.of fx15.de, _, e3, le_line (by rw [l_show]; omega), dA, rfl, dxA, kdA, pA, rA, kvsA, kvsA, [("show" : Str), x], jn2 t_show, dA15, hpA, by omega, sA15.tw, oc.short, due, oc, fun n1 n2 H16 r' h1 h2 _ h4 => ?_, fun e l16 H16 g16 t16 k16 => ?_, fun e l16 H16 g16 t16 k16 => ?_⟩
        · (first | refine hX _ _ ?_ | skip); (try dsimp only); try walk_at "dr1"; (try simp only [sp___init__, sp__law_cell, sp__law_prime, sp__law_name, sp__law_mixed, sp__law_shown, sp__law_step, sp__law_ask, sp__law_told]); try walk_at "dr1"
          refine ⟨fun _ _ => .inl ?_, fun z => absurd z n1, fun z => absurd z n2⟩
          exact fin H16 r' _ h1 h2 h4 H16 (Same.refl _)
        · have hno : due ≠ "TooGreat" := by rw [e]; decide +kernel
          (first | refine hX _ _ ?_ | skip); (try dsimp only); try walk_at "dr1"; (try simp only [sp___init__, sp__law_cell, sp__law_prime, sp__law_name, sp__law_mixed, sp__law_shown, sp__law_step, sp__law_ask, sp__law_told]); try walk_at "dr1"
          refine ⟨fun z => absurd e z, fun _ l17 H17 g17 k17 => .inr (neLB bNo (SqL.of (g17 _ _ k16)) (SqL.of k17) ⟨_, rfl, ?_⟩), fun z => absurd z hno⟩
          rw [if_neg (by decide)]
          exact fin H16 rA _ (Sk.of g16) (g16 _ _ dA15.kept) t16 H17 g17
        · have hno : due ≠ "NoName" := by rw [e]; decide +kernel
          (first | refine hX _ _ ?_ | skip); (try dsimp only); try walk_at "dr1"; (try simp only [sp___init__, sp__law_cell, sp__law_prime, sp__law_name, sp__law_mixed, sp__law_shown, sp__law_step, sp__law_ask, sp__law_told]); try walk_at "dr1"
          refine ⟨fun _ z => absurd e z, fun z => absurd z hno, fun _ l17 H17 g17 k17 => .inr (neLB bGr (SqL.of (g17 _ _ k16)) (SqL.of k17) ⟨_, rfl, ?_⟩)⟩
          rw [if_neg (by decide)]
          exact fin H16 rA _ (Sk.of g16) (g16 _ _ dA15.kept) t16 H17 g17
      · intro σ H14 z
        obtain ⟨fx, bo, t5, t6, t8, t9, t10, t11, rfl⟩ := (hPn _ _ _).mp z
        exact (hPu _ _ _).mpr ⟨fx, bo, _, _, _, _, _, _, _, rfl⟩
    · intro σ H13 z
      obtain ⟨fx, bo, t5, t6, t7, t8, t9, t10, t11, rfl⟩ := (hPu _ _ _).mp z
      (first | refine hX _ _ ?_ | skip); (try dsimp only); try walk_at "dr1"; (try simp only [sp___init__, sp__law_cell, sp__law_prime, sp__law_name, sp__law_mixed, sp__law_shown, sp__law_step, sp__law_ask, sp__law_told]); try walk_at "dr1"
      exact q _
theorem all_mk {h : Heap} {fa f1 f2 f3 f4 f5 f6 f7 f8 f9 f10 f11 f12 f13 f14 f15 f16 f17 f18 f19 f20 f21 f22 f23 f24 f25 f26 f27 f28 f29 f30 f31 f32 f33 f34 f35 f36 f37 f38 f39 f40 : Addr} (X : K.In h) (G : h.Ns mainGlobals mg) (hfa : mg "law" = some (.ref fa))
    {od1 an1 od2 an2 od3 an3 od4 an4 od5 an5 od6 an6 od7 an7 od8 an8 od9 an9 od10 an10 od11 an11 od12 an12 od13 an13 od14 an14 od15 an15 od16 an16 od17 an17 od18 an18 od19 an19 od20 an20 od21 an21 od22 an22 od23 an23 od24 an24 od25 an25 od26 an26 od27 an27 od28 an28 od29 an29 od30 an30 od31 an31 od32 an32 od33 an33 od34 an34 od35 an35 od36 an36 od37 an37 od38 an38 od39 an39 od40 an40 : Option Addr} {sl1 sl2 sl3 sl4 sl5 sl6 sl7 sl8 sl9 sl10 sl11 sl12 sl13 sl14 sl15 sl16 sl17 sl18 sl19 sl20 sl21 sl22 sl23 sl24 sl25 sl26 sl27 sl28 sl29 sl30 sl31 sl32 sl33 sl34 sl35 sl36 sl37 sl38 sl39 sl40 : Array (Option Value)} {oc1 kV1 dc1 pm1 cd1 ct1 oc2 kV2 dc2 pm2 cd2 ct2 oc3 kV3 dc3 pm3 cd3 ct3 oc4 kV4 dc4 pm4 cd4 ct4 oc5 kV5 dc5 pm5 cd5 ct5 oc6 kV6 dc6 pm6 cd6 ct6 oc7 kV7 dc7 pm7 cd7 ct7 oc8 kV8 dc8 pm8 cd8 ct8 oc9 kV9 dc9 pm9 cd9 ct9 oc10 kV10 dc10 pm10 cd10 ct10 oc11 kV11 dc11 pm11 cd11 ct11 oc12 kV12 dc12 pm12 cd12 ct12 oc13 kV13 dc13 pm13 cd13 ct13 oc14 kV14 dc14 pm14 cd14 ct14 oc15 kV15 dc15 pm15 cd15 ct15 oc16 kV16 dc16 pm16 cd16 ct16 oc17 kV17 dc17 pm17 cd17 ct17 oc18 kV18 dc18 pm18 cd18 ct18 oc19 kV19 dc19 pm19 cd19 ct19 oc20 kV20 dc20 pm20 cd20 ct20 oc21 kV21 dc21 pm21 cd21 ct21 oc22 kV22 dc22 pm22 cd22 ct22 oc23 kV23 dc23 pm23 cd23 ct23 oc24 kV24 dc24 pm24 cd24 ct24 oc25 kV25 dc25 pm25 cd25 ct25 oc26 kV26 dc26 pm26 cd26 ct26 oc27 kV27 dc27 pm27 cd27 ct27 oc28 kV28 dc28 pm28 cd28 ct28 oc29 kV29 dc29 pm29 cd29 ct29 oc30 kV30 dc30 pm30 cd30 ct30 oc31 kV31 dc31 pm31 cd31 ct31 oc32 kV32 dc32 pm32 cd32 ct32 oc33 kV33 dc33 pm33 cd33 ct33 oc34 kV34 dc34 pm34 cd34 ct34 oc35 kV35 dc35 pm35 cd35 ct35 oc36 kV36 dc36 pm36 cd36 ct36 oc37 kV37 dc37 pm37 cd37 ct37 oc38 kV38 dc38 pm38 cd38 ct38 oc39 kV39 dc39 pm39 cd39 ct39 oc40 kV40 dc40 pm40 cd40 ct40 : Value}
    (a1 : PySem.W.nsIn K mainGlobals "is_prime" = some (some (.ref f1))) (l1 : K.lookup f1 = some ⟨oc1, od1, .func (PySem.W.fnOf "is_prime" "is_prime" (defArgs s_is_prime) (defBody s_is_prime) (defScope s_is_prime) .none kV1 dc1 pm1 an1 cd1 ct1), sl1⟩) (c1 : PySem.W.codeIn K cd1 "is_prime" = true) (k1 : PySem.W.keepIn K (.ref f1) = true)
    (a2 : PySem.W.nsIn K mainGlobals "power_of" = some (some (.ref f2))) (l2 : K.lookup f2 = some ⟨oc2, od2, .func (PySem.W.fnOf "power_of" "power_of" (defArgs s_power_of) (defBody s_power_of) (defScope s_power_of) .none kV2 dc2 pm2 an2 cd2 ct2), sl2⟩) (c2 : PySem.W.codeIn K cd2 "power_of" = true) (k2 : PySem.W.keepIn K (.ref f2) = true)
    (a3 : PySem.W.nsIn K mainGlobals "poly_product" = some (some (.ref f3))) (l3 : K.lookup f3 = some ⟨oc3, od3, .func (PySem.W.fnOf "poly_product" "poly_product" (defArgs s_poly_product) (defBody s_poly_product) (defScope s_poly_product) .none kV3 dc3 pm3 an3 cd3 ct3), sl3⟩) (c3 : PySem.W.codeIn K cd3 "poly_product" = true) (k3 : PySem.W.keepIn K (.ref f3) = true)
    (a4 : PySem.W.nsIn K mainGlobals "slope_of" = some (some (.ref f4))) (l4 : K.lookup f4 = some ⟨oc4, od4, .func (PySem.W.fnOf "slope_of" "slope_of" (defArgs s_slope_of) (defBody s_slope_of) (defScope s_slope_of) .none kV4 dc4 pm4 an4 cd4 ct4), sl4⟩) (c4 : PySem.W.codeIn K cd4 "slope_of" = true) (k4 : PySem.W.keepIn K (.ref f4) = true)
    (a5 : PySem.W.nsIn K mainGlobals "seen_from" = some (some (.ref f5))) (l5 : K.lookup f5 = some ⟨oc5, od5, .func (PySem.W.fnOf "seen_from" "seen_from" (defArgs s_seen_from) (defBody s_seen_from) (defScope s_seen_from) .none kV5 dc5 pm5 an5 cd5 ct5), sl5⟩) (c5 : PySem.W.codeIn K cd5 "seen_from" = true) (k5 : PySem.W.keepIn K (.ref f5) = true)
    (a6 : PySem.W.nsIn K mainGlobals "is_made_of" = some (some (.ref f6))) (l6 : K.lookup f6 = some ⟨oc6, od6, .func (PySem.W.fnOf "is_made_of" "is_made_of" (defArgs s_is_made_of) (defBody s_is_made_of) (defScope s_is_made_of) .none kV6 dc6 pm6 an6 cd6 ct6), sl6⟩) (c6 : PySem.W.codeIn K cd6 "is_made_of" = true) (k6 : PySem.W.keepIn K (.ref f6) = true)
    (a7 : PySem.W.nsIn K mainGlobals "is_written_number" = some (some (.ref f7))) (l7 : K.lookup f7 = some ⟨oc7, od7, .func (PySem.W.fnOf "is_written_number" "is_written_number" (defArgs s_is_written_number) (defBody s_is_written_number) (defScope s_is_written_number) .none kV7 dc7 pm7 an7 cd7 ct7), sl7⟩) (c7 : PySem.W.codeIn K cd7 "is_written_number" = true) (k7 : PySem.W.keepIn K (.ref f7) = true)
    (a8 : PySem.W.nsIn K mainGlobals "can_be_written" = some (some (.ref f8))) (l8 : K.lookup f8 = some ⟨oc8, od8, .func (PySem.W.fnOf "can_be_written" "can_be_written" (defArgs s_can_be_written) (defBody s_can_be_written) (defScope s_can_be_written) .none kV8 dc8 pm8 an8 cd8 ct8), sl8⟩) (c8 : PySem.W.codeIn K cd8 "can_be_written" = true) (k8 : PySem.W.keepIn K (.ref f8) = true)
    (a9 : PySem.W.nsIn K mainGlobals "read_number" = some (some (.ref f9))) (l9 : K.lookup f9 = some ⟨oc9, od9, .func (PySem.W.fnOf "read_number" "read_number" (defArgs s_read_number) (defBody s_read_number) (defScope s_read_number) .none kV9 dc9 pm9 an9 cd9 ct9), sl9⟩) (c9 : PySem.W.codeIn K cd9 "read_number" = true) (k9 : PySem.W.keepIn K (.ref f9) = true)
    (a10 : PySem.W.nsIn K mainGlobals "read_poly" = some (some (.ref f10))) (l10 : K.lookup f10 = some ⟨oc10, od10, .func (PySem.W.fnOf "read_poly" "read_poly" (defArgs s_read_poly) (defBody s_read_poly) (defScope s_read_poly) .none kV10 dc10 pm10 an10 cd10 ct10), sl10⟩) (c10 : PySem.W.codeIn K cd10 "read_poly" = true) (k10 : PySem.W.keepIn K (.ref f10) = true)
    (a11 : PySem.W.nsIn K mainGlobals "show_poly" = some (some (.ref f11))) (l11 : K.lookup f11 = some ⟨oc11, od11, .func (PySem.W.fnOf "show_poly" "show_poly" (defArgs s_show_poly) (defBody s_show_poly) (defScope s_show_poly) .none kV11 dc11 pm11 an11 cd11 ct11), sl11⟩) (c11 : PySem.W.codeIn K cd11 "show_poly" = true) (k11 : PySem.W.keepIn K (.ref f11) = true)
    (a12 : PySem.W.nsIn K mainGlobals "words_of" = some (some (.ref f12))) (l12 : K.lookup f12 = some ⟨oc12, od12, .func (PySem.W.fnOf "words_of" "words_of" (defArgs s_words_of) (defBody s_words_of) (defScope s_words_of) .none kV12 dc12 pm12 an12 cd12 ct12), sl12⟩) (c12 : PySem.W.codeIn K cd12 "words_of" = true) (k12 : PySem.W.keepIn K (.ref f12) = true)
    (a13 : PySem.W.nsIn K mainGlobals "read_name" = some (some (.ref f13))) (l13 : K.lookup f13 = some ⟨oc13, od13, .func (PySem.W.fnOf "read_name" "read_name" (defArgs s_read_name) (defBody s_read_name) (defScope s_read_name) .none kV13 dc13 pm13 an13 cd13 ct13), sl13⟩) (c13 : PySem.W.codeIn K cd13 "read_name" = true) (k13 : PySem.W.keepIn K (.ref f13) = true)
    (a14 : PySem.W.nsIn K mainGlobals "read_depth" = some (some (.ref f14))) (l14 : K.lookup f14 = some ⟨oc14, od14, .func (PySem.W.fnOf "read_depth" "read_depth" (defArgs s_read_depth) (defBody s_read_depth) (defScope s_read_depth) .none kV14 dc14 pm14 an14 cd14 ct14), sl14⟩) (c14 : PySem.W.codeIn K cd14 "read_depth" = true) (k14 : PySem.W.keepIn K (.ref f14) = true)
    (a15 : PySem.W.nsIn K mainGlobals "listed" = some (some (.ref f15))) (l15 : K.lookup f15 = some ⟨oc15, od15, .func (PySem.W.fnOf "listed" "listed" (defArgs s_listed) (defBody s_listed) (defScope s_listed) .none kV15 dc15 pm15 an15 cd15 ct15), sl15⟩) (c15 : PySem.W.codeIn K cd15 "listed" = true) (k15 : PySem.W.keepIn K (.ref f15) = true)
    (a16 : PySem.W.nsIn K mainGlobals "made_poly" = some (some (.ref f16))) (l16 : K.lookup f16 = some ⟨oc16, od16, .func (PySem.W.fnOf "made_poly" "made_poly" (defArgs s_made_poly) (defBody s_made_poly) (defScope s_made_poly) .none kV16 dc16 pm16 an16 cd16 ct16), sl16⟩) (c16 : PySem.W.codeIn K cd16 "made_poly" = true) (k16 : PySem.W.keepIn K (.ref f16) = true)
    (a17 : PySem.W.nsIn K mainGlobals "made_times" = some (some (.ref f17))) (l17 : K.lookup f17 = some ⟨oc17, od17, .func (PySem.W.fnOf "made_times" "made_times" (defArgs s_made_times) (defBody s_made_times) (defScope s_made_times) .none kV17 dc17 pm17 an17 cd17 ct17), sl17⟩) (c17 : PySem.W.codeIn K cd17 "made_times" = true) (k17 : PySem.W.keepIn K (.ref f17) = true)
    (a18 : PySem.W.nsIn K mainGlobals "made_seen" = some (some (.ref f18))) (l18 : K.lookup f18 = some ⟨oc18, od18, .func (PySem.W.fnOf "made_seen" "made_seen" (defArgs s_made_seen) (defBody s_made_seen) (defScope s_made_seen) .none kV18 dc18 pm18 an18 cd18 ct18), sl18⟩) (c18 : PySem.W.codeIn K cd18 "made_seen" = true) (k18 : PySem.W.keepIn K (.ref f18) = true)
    (a19 : PySem.W.nsIn K mainGlobals "made_slope" = some (some (.ref f19))) (l19 : K.lookup f19 = some ⟨oc19, od19, .func (PySem.W.fnOf "made_slope" "made_slope" (defArgs s_made_slope) (defBody s_made_slope) (defScope s_made_slope) .none kV19 dc19 pm19 an19 cd19 ct19), sl19⟩) (c19 : PySem.W.codeIn K cd19 "made_slope" = true) (k19 : PySem.W.keepIn K (.ref f19) = true)
    (a20 : PySem.W.nsIn K mainGlobals "told_show" = some (some (.ref f20))) (l20 : K.lookup f20 = some ⟨oc20, od20, .func (PySem.W.fnOf "told_show" "told_show" (defArgs s_told_show) (defBody s_told_show) (defScope s_told_show) .none kV20 dc20 pm20 an20 cd20 ct20), sl20⟩) (c20 : PySem.W.codeIn K cd20 "told_show" = true) (k20 : PySem.W.keepIn K (.ref f20) = true)
    (l21 : K.lookup f21 = some ⟨oc21, od21, .func (PySem.W.fnOf "__init__" "Desk.__init__" (defArgs s___init__) (defBody s___init__) (defScope s___init__) .none kV21 dc21 pm21 an21 cd21 ct21), sl21⟩) (c21 : PySem.W.codeIn K cd21 "Desk.__init__" = true) (k21 : PySem.W.keepIn K (.ref f21) = true) (n21 : PySem.W.isFn K (.ref f21) = true)
    (l22 : K.lookup f22 = some ⟨oc22, od22, .func (PySem.W.fnOf "say" "Desk.say" (defArgs s_say) (defBody s_say) (defScope s_say) .none kV22 dc22 pm22 an22 cd22 ct22), sl22⟩) (c22 : PySem.W.codeIn K cd22 "Desk.say" = true) (k22 : PySem.W.keepIn K (.ref f22) = true) (n22 : PySem.W.isFn K (.ref f22) = true)
    (l23 : K.lookup f23 = some ⟨oc23, od23, .func (PySem.W.fnOf "thing_of" "Desk.thing_of" (defArgs s_thing_of) (defBody s_thing_of) (defScope s_thing_of) .none kV23 dc23 pm23 an23 cd23 ct23), sl23⟩) (c23 : PySem.W.codeIn K cd23 "Desk.thing_of" = true) (k23 : PySem.W.keepIn K (.ref f23) = true) (n23 : PySem.W.isFn K (.ref f23) = true)
    (l24 : K.lookup f24 = some ⟨oc24, od24, .func (PySem.W.fnOf "standing" "Desk.standing" (defArgs s_standing) (defBody s_standing) (defScope s_standing) .none kV24 dc24 pm24 an24 cd24 ct24), sl24⟩) (c24 : PySem.W.codeIn K cd24 "Desk.standing" = true) (k24 : PySem.W.keepIn K (.ref f24) = true) (n24 : PySem.W.isFn K (.ref f24) = true)
    (l25 : K.lookup f25 = some ⟨oc25, od25, .func (PySem.W.fnOf "keep" "Desk.keep" (defArgs s_keep) (defBody s_keep) (defScope s_keep) .none kV25 dc25 pm25 an25 cd25 ct25), sl25⟩) (c25 : PySem.W.codeIn K cd25 "Desk.keep" = true) (k25 : PySem.W.keepIn K (.ref f25) = true) (n25 : PySem.W.isFn K (.ref f25) = true)
    (a26 : PySem.W.nsIn K mainGlobals "_law_cell" = some (some (.ref f26))) (l26 : K.lookup f26 = some ⟨oc26, od26, .func (PySem.W.fnOf "_law_cell" "_law_cell" (defArgs s__law_cell) (defBody s__law_cell) (defScope s__law_cell) .none kV26 dc26 pm26 an26 cd26 ct26), sl26⟩) (c26 : PySem.W.codeIn K cd26 "_law_cell" = true) (k26 : PySem.W.keepIn K (.ref f26) = true)
    (a27 : PySem.W.nsIn K mainGlobals "_law_prime" = some (some (.ref f27))) (l27 : K.lookup f27 = some ⟨oc27, od27, .func (PySem.W.fnOf "_law_prime" "_law_prime" (defArgs s__law_prime) (defBody s__law_prime) (defScope s__law_prime) .none kV27 dc27 pm27 an27 cd27 ct27), sl27⟩) (c27 : PySem.W.codeIn K cd27 "_law_prime" = true) (k27 : PySem.W.keepIn K (.ref f27) = true)
    (a28 : PySem.W.nsIn K mainGlobals "_law_name" = some (some (.ref f28))) (l28 : K.lookup f28 = some ⟨oc28, od28, .func (PySem.W.fnOf "_law_name" "_law_name" (defArgs s__law_name) (defBody s__law_name) (defScope s__law_name) .none kV28 dc28 pm28 an28 cd28 ct28), sl28⟩) (c28 : PySem.W.codeIn K cd28 "_law_name" = true) (k28 : PySem.W.keepIn K (.ref f28) = true)
    (a29 : PySem.W.nsIn K mainGlobals "_law_mixed" = some (some (.ref f29))) (l29 : K.lookup f29 = some ⟨oc29, od29, .func (PySem.W.fnOf "_law_mixed" "_law_mixed" (defArgs s__law_mixed) (defBody s__law_mixed) (defScope s__law_mixed) .none kV29 dc29 pm29 an29 cd29 ct29), sl29⟩) (c29 : PySem.W.codeIn K cd29 "_law_mixed" = true) (k29 : PySem.W.keepIn K (.ref f29) = true)
    (a30 : PySem.W.nsIn K mainGlobals "_law_numbers" = some (some (.ref f30))) (l30 : K.lookup f30 = some ⟨oc30, od30, .func (PySem.W.fnOf "_law_numbers" "_law_numbers" (defArgs s__law_numbers) (defBody s__law_numbers) (defScope s__law_numbers) .none kV30 dc30 pm30 an30 cd30 ct30), sl30⟩) (c30 : PySem.W.codeIn K cd30 "_law_numbers" = true) (k30 : PySem.W.keepIn K (.ref f30) = true)
    (a31 : PySem.W.nsIn K mainGlobals "_law_shown" = some (some (.ref f31))) (l31 : K.lookup f31 = some ⟨oc31, od31, .func (PySem.W.fnOf "_law_shown" "_law_shown" (defArgs s__law_shown) (defBody s__law_shown) (defScope s__law_shown) .none kV31 dc31 pm31 an31 cd31 ct31), sl31⟩) (c31 : PySem.W.codeIn K cd31 "_law_shown" = true) (k31 : PySem.W.keepIn K (.ref f31) = true)
    (a32 : PySem.W.nsIn K mainGlobals "_law_times" = some (some (.ref f32))) (l32 : K.lookup f32 = some ⟨oc32, od32, .func (PySem.W.fnOf "_law_times" "_law_times" (defArgs s__law_times) (defBody s__law_times) (defScope s__law_times) .none kV32 dc32 pm32 an32 cd32 ct32), sl32⟩) (c32 : PySem.W.codeIn K cd32 "_law_times" = true) (k32 : PySem.W.keepIn K (.ref f32) = true)
    (a33 : PySem.W.nsIn K mainGlobals "_law_power" = some (some (.ref f33))) (l33 : K.lookup f33 = some ⟨oc33, od33, .func (PySem.W.fnOf "_law_power" "_law_power" (defArgs s__law_power) (defBody s__law_power) (defScope s__law_power) .none kV33 dc33 pm33 an33 cd33 ct33), sl33⟩) (c33 : PySem.W.codeIn K cd33 "_law_power" = true) (k33 : PySem.W.keepIn K (.ref f33) = true)
    (a34 : PySem.W.nsIn K mainGlobals "_law_seen" = some (some (.ref f34))) (l34 : K.lookup f34 = some ⟨oc34, od34, .func (PySem.W.fnOf "_law_seen" "_law_seen" (defArgs s__law_seen) (defBody s__law_seen) (defScope s__law_seen) .none kV34 dc34 pm34 an34 cd34 ct34), sl34⟩) (c34 : PySem.W.codeIn K cd34 "_law_seen" = true) (k34 : PySem.W.keepIn K (.ref f34) = true)
    (a35 : PySem.W.nsIn K mainGlobals "_law_made" = some (some (.ref f35))) (l35 : K.lookup f35 = some ⟨oc35, od35, .func (PySem.W.fnOf "_law_made" "_law_made" (defArgs s__law_made) (defBody s__law_made) (defScope s__law_made) .none kV35 dc35 pm35 an35 cd35 ct35), sl35⟩) (c35 : PySem.W.codeIn K cd35 "_law_made" = true) (k35 : PySem.W.keepIn K (.ref f35) = true)
    (a36 : PySem.W.nsIn K mainGlobals "_law_deep" = some (some (.ref f36))) (l36 : K.lookup f36 = some ⟨oc36, od36, .func (PySem.W.fnOf "_law_deep" "_law_deep" (defArgs s__law_deep) (defBody s__law_deep) (defScope s__law_deep) .none kV36 dc36 pm36 an36 cd36 ct36), sl36⟩) (c36 : PySem.W.codeIn K cd36 "_law_deep" = true) (k36 : PySem.W.keepIn K (.ref f36) = true)
    (a37 : PySem.W.nsIn K mainGlobals "_law_step" = some (some (.ref f37))) (l37 : K.lookup f37 = some ⟨oc37, od37, .func (PySem.W.fnOf "_law_step" "_law_step" (defArgs s__law_step) (defBody s__law_step) (defScope s__law_step) .none kV37 dc37 pm37 an37 cd37 ct37), sl37⟩) (c37 : PySem.W.codeIn K cd37 "_law_step" = true) (k37 : PySem.W.keepIn K (.ref f37) = true)
    (a38 : PySem.W.nsIn K mainGlobals "_law_ask" = some (some (.ref f38))) (l38 : K.lookup f38 = some ⟨oc38, od38, .func (PySem.W.fnOf "_law_ask" "_law_ask" (defArgs s__law_ask) (defBody s__law_ask) (defScope s__law_ask) .none kV38 dc38 pm38 an38 cd38 ct38), sl38⟩) (c38 : PySem.W.codeIn K cd38 "_law_ask" = true) (k38 : PySem.W.keepIn K (.ref f38) = true)
    (a39 : PySem.W.nsIn K mainGlobals "_law_told" = some (some (.ref f39))) (l39 : K.lookup f39 = some ⟨oc39, od39, .func (PySem.W.fnOf "_law_told" "_law_told" (defArgs s__law_told) (defBody s__law_told) (defScope s__law_told) .none kV39 dc39 pm39 an39 cd39 ct39), sl39⟩) (c39 : PySem.W.codeIn K cd39 "_law_told" = true) (k39 : PySem.W.keepIn K (.ref f39) = true)
    (a40 : PySem.W.nsIn K mainGlobals "law" = some (some (.ref f40))) (l40 : K.lookup f40 = some ⟨oc40, od40, .func (PySem.W.fnOf "law" "law" (defArgs s_law) (defBody s_law) (defScope s_law) .none kV40 dc40 pm40 an40 cd40 ct40), sl40⟩) (c40 : PySem.W.codeIn K cd40 "law" = true) (k40 : PySem.W.keepIn K (.ref f40) = true)
    (z_abs : PySem.W.nsIn K mainGlobals "abs" = some none) (z_all : PySem.W.nsIn K mainGlobals "all" = some none) (z_bool : PySem.W.nsIn K mainGlobals "bool" = some none) (z_enumerate : PySem.W.nsIn K mainGlobals "enumerate" = some none) (z_int : PySem.W.nsIn K mainGlobals "int" = some none) (z_isinstance : PySem.W.nsIn K mainGlobals "isinstance" = some none) (z_len : PySem.W.nsIn K mainGlobals "len" = some none) (z_list : PySem.W.nsIn K mainGlobals "list" = some none) (z_max : PySem.W.nsIn K mainGlobals "max" = some none) (z_min : PySem.W.nsIn K mainGlobals "min" = some none) (z_range : PySem.W.nsIn K mainGlobals "range" = some none) (z_reversed : PySem.W.nsIn K mainGlobals "reversed" = some none) (z_sorted : PySem.W.nsIn K mainGlobals "sorted" = some none) (z_str : PySem.W.nsIn K mainGlobals "str" = some none) (z_sum : PySem.W.nsIn K mainGlobals "sum" = some none) (z_zip : PySem.W.nsIn K mainGlobals "zip" = some none) {t_FIGURES : Tok} (z_FIGURES : PySem.W.nsIn K mainGlobals "FIGURES" = some (some (.str "0123456789" t_FIGURES))) {t_GREATEST_DEPTH : Tok} (z_GREATEST_DEPTH : PySem.W.nsIn K mainGlobals "GREATEST_DEPTH" = some (some (.int 60 t_GREATEST_DEPTH))) {t_GREATEST_PRIME : Tok} (z_GREATEST_PRIME : PySem.W.nsIn K mainGlobals "GREATEST_PRIME" = some (some (.int 97 t_GREATEST_PRIME))) {t_LETTERS : Tok} (z_LETTERS : PySem.W.nsIn K mainGlobals "LETTERS" = some (some (.str "abcdefghijklmnopqrstuvwxyz" t_LETTERS))) {t_MOST_FIGURES : Tok} (z_MOST_FIGURES : PySem.W.nsIn K mainGlobals "MOST_FIGURES" = some (some (.int 60 t_MOST_FIGURES))) {t_MOST_LETTERS : Tok} (z_MOST_LETTERS : PySem.W.nsIn K mainGlobals "MOST_LETTERS" = some (some (.int 8 t_MOST_LETTERS))) {t_MOST_NUMBERS : Tok} (z_MOST_NUMBERS : PySem.W.nsIn K mainGlobals "MOST_NUMBERS" = some (some (.int 13 t_MOST_NUMBERS))) (kd_WANTED : KDict K w 419 l_WANTED) (gd_WANTED : PySem.W.nsIn K mainGlobals "WANTED" = some (some (.ref 419))) (kd_MADE : KDict K w 546 l_MADE) (gd_MADE : PySem.W.nsIn K mainGlobals "MADE" = some (some (.ref 546))) (kd_TOLD : KDict K w 547 l_TOLD) (gd_TOLD : PySem.W.nsIn K mainGlobals "TOLD" = some (some (.ref 547))) (tu_420 : KTup K 420 [.str "new", .str "poly"]) (tu_421 : KTup K 421 [.str "new", .str "name", .str "name"]) (tu_422 : KTup K 422 [.str "new", .str "name", .str "number", .str "depth"]) (tu_423 : KTup K 423 [.str "new", .str "name"]) (tu_424 : KTup K 424 [.str "name"]) (tu_425 : KTup K 425 []) (tu_426 : KTup K 426 [.str "name"]) (fa_made_poly : PySem.W.nsIn K mainGlobals "made_poly" = some (some (.ref 469))) (fa_made_times : PySem.W.nsIn K mainGlobals "made_times" = some (some (.ref 476))) (fa_made_seen : PySem.W.nsIn K mainGlobals "made_seen" = some (some (.ref 483))) (fa_made_slope : PySem.W.nsIn K mainGlobals "made_slope" = some (some (.ref 490))) (fa_told_show : PySem.W.nsIn K mainGlobals "told_show" = some (some (.ref 497))) {e_Desk : Addr} (z_Desk : PySem.W.nsIn K mainGlobals "Desk" = some (some (.ref e_Desk))) {e_NoDepth : Addr} (z_NoDepth : PySem.W.nsIn K mainGlobals "NoDepth" = some (some (.ref e_NoDepth))) {e_NoInverse : Addr} (z_NoInverse : PySem.W.nsIn K mainGlobals "NoInverse" = some (some (.ref e_NoInverse))) {e_NoName : Addr} (z_NoName : PySem.W.nsIn K mainGlobals "NoName" = some (some (.ref e_NoName))) {e_NoParts : Addr} (z_NoParts : PySem.W.nsIn K mainGlobals "NoParts" = some (some (.ref e_NoParts))) {e_NoPrime : Addr} (z_NoPrime : PySem.W.nsIn K mainGlobals "NoPrime" = some (some (.ref e_NoPrime))) {e_NoRow : Addr} (z_NoRow : PySem.W.nsIn K mainGlobals "NoRow" = some (some (.ref e_NoRow))) {e_NoSingle : Addr} (z_NoSingle : PySem.W.nsIn K mainGlobals "NoSingle" = some (some (.ref e_NoSingle))) {e_NoSmall : Addr} (z_NoSmall : PySem.W.nsIn K mainGlobals "NoSmall" = some (some (.ref e_NoSmall))) {e_NoText : Addr} (z_NoText : PySem.W.nsIn K mainGlobals "NoText" = some (some (.ref e_NoText))) {e_RestError : Addr} (z_RestError : PySem.W.nsIn K mainGlobals "RestError" = some (some (.ref e_RestError))) {e_TooDeep : Addr} (z_TooDeep : PySem.W.nsIn K mainGlobals "TooDeep" = some (some (.ref e_TooDeep))) {e_TooGreat : Addr} (z_TooGreat : PySem.W.nsIn K mainGlobals "TooGreat" = some (some (.ref e_TooGreat))) (x_NoName : ExcK K e_NoName) (x_TooGreat : ExcK K e_TooGreat) (m_NoName_RestError : PySem.W.exmOne K (.ref e_NoName) (.ref e_RestError) = some true) (m_TooGreat_RestError : PySem.W.exmOne K (.ref e_TooGreat) (.ref e_RestError) = some true) (f_NoName : Xc.ExcC K e_NoName) (f_TooGreat : Xc.ExcC K e_TooGreat) (i_NoName_Desk : PySem.W.kitOne K (.ref e_NoName) (.ref e_Desk) = some false) (i_NoName_NoDepth : PySem.W.kitOne K (.ref e_NoName) (.ref e_NoDepth) = some false) (i_NoName_NoInverse : PySem.W.kitOne K (.ref e_NoName) (.ref e_NoInverse) = some false) (i_NoName_NoName : PySem.W.kitOne K (.ref e_NoName) (.ref e_NoName) = some true) (i_NoName_NoParts : PySem.W.kitOne K (.ref e_NoName) (.ref e_NoParts) = some false) (i_NoName_NoPrime : PySem.W.kitOne K (.ref e_NoName) (.ref e_NoPrime) = some false) (i_NoName_NoRow : PySem.W.kitOne K (.ref e_NoName) (.ref e_NoRow) = some false) (i_NoName_NoSingle : PySem.W.kitOne K (.ref e_NoName) (.ref e_NoSingle) = some false) (i_NoName_NoSmall : PySem.W.kitOne K (.ref e_NoName) (.ref e_NoSmall) = some false) (i_NoName_NoText : PySem.W.kitOne K (.ref e_NoName) (.ref e_NoText) = some false) (i_NoName_RestError : PySem.W.kitOne K (.ref e_NoName) (.ref e_RestError) = some true) (i_NoName_TooDeep : PySem.W.kitOne K (.ref e_NoName) (.ref e_TooDeep) = some false) (i_NoName_TooGreat : PySem.W.kitOne K (.ref e_NoName) (.ref e_TooGreat) = some false) (i_TooGreat_Desk : PySem.W.kitOne K (.ref e_TooGreat) (.ref e_Desk) = some false) (i_TooGreat_NoDepth : PySem.W.kitOne K (.ref e_TooGreat) (.ref e_NoDepth) = some false) (i_TooGreat_NoInverse : PySem.W.kitOne K (.ref e_TooGreat) (.ref e_NoInverse) = some false) (i_TooGreat_NoName : PySem.W.kitOne K (.ref e_TooGreat) (.ref e_NoName) = some false) (i_TooGreat_NoParts : PySem.W.kitOne K (.ref e_TooGreat) (.ref e_NoParts) = some false) (i_TooGreat_NoPrime : PySem.W.kitOne K (.ref e_TooGreat) (.ref e_NoPrime) = some false) (i_TooGreat_NoRow : PySem.W.kitOne K (.ref e_TooGreat) (.ref e_NoRow) = some false) (i_TooGreat_NoSingle : PySem.W.kitOne K (.ref e_TooGreat) (.ref e_NoSingle) = some false) (i_TooGreat_NoSmall : PySem.W.kitOne K (.ref e_TooGreat) (.ref e_NoSmall) = some false) (i_TooGreat_NoText : PySem.W.kitOne K (.ref e_TooGreat) (.ref e_NoText) = some false) (i_TooGreat_RestError : PySem.W.kitOne K (.ref e_TooGreat) (.ref e_RestError) = some true) (i_TooGreat_TooDeep : PySem.W.kitOne K (.ref e_TooGreat) (.ref e_TooDeep) = some false) (i_TooGreat_TooGreat : PySem.W.kitOne K (.ref e_TooGreat) (.ref e_TooGreat) = some true) (cl_Desk : Cls K e_Desk) (mk_Desk : PySem.W.makesIn K e_Desk = true) (kc_Desk : PySem.W.keepIn K (.ref e_Desk) = true) (na_prime : NoAttr K e_Desk "prime") (na_kept : NoAttr K e_Desk "kept") (a21 : PySem.W.findIn K (.ref e_Desk) "__init__" = some (some (.ref f21))) (a22 : PySem.W.findIn K (.ref e_Desk) "say" = some (some (.ref f22))) (a23 : PySem.W.findIn K (.ref e_Desk) "thing_of" = some (some (.ref f23))) (a24 : PySem.W.findIn K (.ref e_Desk) "standing" = some (some (.ref f24))) (a25 : PySem.W.findIn K (.ref e_Desk) "keep" = some (some (.ref f25))) :
    ∃ fd : FuncData, (∀ (s : Shared) (v : Value), BindsTo s fd ⟨[v], []⟩ [("script", v)]) ∧ ∀ base : Heap, K.In base → base.Ns mainGlobals mg → FnOk P w K mg base CX0 8 fa fd ["script"] (spLaw K) := by
  have e := hfa.symm.trans (PySem.W.mg_of X G a40)
  cases e
  have F1 := fun_mk (st := s_is_prime) l1 c1 k1
  have b1 := F1.binds (ps := ["thing"]) fun _ _ _ _ _ _ us hl => by obtain ⟨_, rfl⟩ := us1 hl; rfl
  have F2 := fun_mk (st := s_power_of) l2 c2 k2
  have b2 := F2.binds (ps := ["p", "e"]) fun _ _ _ _ _ _ us hl => by obtain ⟨_, _, rfl⟩ := us2 hl; rfl
  have F3 := fun_mk (st := s_poly_product) l3 c3 k3
  have b3 := F3.binds (ps := ["f", "g"]) fun _ _ _ _ _ _ us hl => by obtain ⟨_, _, rfl⟩ := us2 hl; rfl
  have F4 := fun_mk (st := s_slope_of) l4 c4 k4
  have b4 := F4.binds (ps := ["f"]) fun _ _ _ _ _ _ us hl => by obtain ⟨_, rfl⟩ := us1 hl; rfl
  have F5 := fun_mk (st := s_seen_from) l5 c5 k5
  have b5 := F5.binds (ps := ["p", "f", "a", "e"]) fun _ _ _ _ _ _ us hl => by obtain ⟨_, _, _, _, rfl⟩ := us4 hl; rfl
  have F6 := fun_mk (st := s_is_made_of) l6 c6 k6
  have b6 := F6.binds (ps := ["text", "signs"]) fun _ _ _ _ _ _ us hl => by obtain ⟨_, _, rfl⟩ := us2 hl; rfl
  have F7 := fun_mk (st := s_is_written_number) l7 c7 k7
  have b7 := F7.binds (ps := ["text"]) fun _ _ _ _ _ _ us hl => by obtain ⟨_, rfl⟩ := us1 hl; rfl
  have F8 := fun_mk (st := s_can_be_written) l8 c8 k8
  have b8 := F8.binds (ps := ["number"]) fun _ _ _ _ _ _ us hl => by obtain ⟨_, rfl⟩ := us1 hl; rfl
  have F9 := fun_mk (st := s_read_number) l9 c9 k9
  have b9 := F9.binds (ps := ["text"]) fun _ _ _ _ _ _ us hl => by obtain ⟨_, rfl⟩ := us1 hl; rfl
  have F10 := fun_mk (st := s_read_poly) l10 c10 k10
  have b10 := F10.binds (ps := ["text"]) fun _ _ _ _ _ _ us hl => by obtain ⟨_, rfl⟩ := us1 hl; rfl
  have F11 := fun_mk (st := s_show_poly) l11 c11 k11
  have b11 := F11.binds (ps := ["f"]) fun _ _ _ _ _ _ us hl => by obtain ⟨_, rfl⟩ := us1 hl; rfl
  have F12 := fun_mk (st := s_words_of) l12 c12 k12
  have b12 := F12.binds (ps := ["row"]) fun _ _ _ _ _ _ us hl => by obtain ⟨_, rfl⟩ := us1 hl; rfl
  have F13 := fun_mk (st := s_read_name) l13 c13 k13
  have b13 := F13.binds (ps := ["word"]) fun _ _ _ _ _ _ us hl => by obtain ⟨_, rfl⟩ := us1 hl; rfl
  have F14 := fun_mk (st := s_read_depth) l14 c14 k14
  have b14 := F14.binds (ps := ["word"]) fun _ _ _ _ _ _ us hl => by obtain ⟨_, rfl⟩ := us1 hl; rfl
  have F15 := fun_mk (st := s_listed) l15 c15 k15
  have b15 := F15.binds (ps := ["texts", "without"]) fun _ _ _ _ _ _ us hl => by obtain ⟨_, _, rfl⟩ := us2 hl; rfl
  have F16 := fun_mk (st := s_made_poly) l16 c16 k16
  have b16 := F16.binds (ps := ["p", "things"]) fun _ _ _ _ _ _ us hl => by obtain ⟨_, _, rfl⟩ := us2 hl; rfl
  have F17 := fun_mk (st := s_made_times) l17 c17 k17
  have b17 := F17.binds (ps := ["p", "things"]) fun _ _ _ _ _ _ us hl => by obtain ⟨_, _, rfl⟩ := us2 hl; rfl
  have F18 := fun_mk (st := s_made_seen) l18 c18 k18
  have b18 := F18.binds (ps := ["p", "things"]) fun _ _ _ _ _ _ us hl => by obtain ⟨_, _, rfl⟩ := us2 hl; rfl
  have F19 := fun_mk (st := s_made_slope) l19 c19 k19
  have b19 := F19.binds (ps := ["p", "things"]) fun _ _ _ _ _ _ us hl => by obtain ⟨_, _, rfl⟩ := us2 hl; rfl
  have F20 := fun_mk (st := s_told_show) l20 c20 k20
  have b20 := F20.binds (ps := ["p", "things"]) fun _ _ _ _ _ _ us hl => by obtain ⟨_, _, rfl⟩ := us2 hl; rfl
  have F21 := fun_mk (st := s___init__) l21 c21 k21
  have b21 := F21.binds (ps := ["self", "p"]) fun _ _ _ _ _ _ us hl => by obtain ⟨_, _, rfl⟩ := us2 hl; rfl
  have F22 := fun_mk (st := s_say) l22 c22 k22
  have b22 := F22.binds (ps := ["self", "row"]) fun _ _ _ _ _ _ us hl => by obtain ⟨_, _, rfl⟩ := us2 hl; rfl
  have F23 := fun_mk (st := s_thing_of) l23 c23 k23
  have b23 := F23.binds (ps := ["self", "wanted", "word"]) fun _ _ _ _ _ _ us hl => by obtain ⟨_, _, _, rfl⟩ := us3 hl; rfl
  have F24 := fun_mk (st := s_standing) l24 c24 k24
  have b24 := F24.binds (ps := ["self", "name"]) fun _ _ _ _ _ _ us hl => by obtain ⟨_, _, rfl⟩ := us2 hl; rfl
  have F25 := fun_mk (st := s_keep) l25 c25 k25
  have b25 := F25.binds (ps := ["self", "name", "polynomial"]) fun _ _ _ _ _ _ us hl => by obtain ⟨_, _, _, rfl⟩ := us3 hl; rfl
  have F26 := fun_mk (st := s__law_cell) l26 c26 k26
  have b26 := F26.binds (ps := ["script", "k"]) fun _ _ _ _ _ _ us hl => by obtain ⟨_, _, rfl⟩ := us2 hl; rfl
  have F27 := fun_mk (st := s__law_prime) l27 c27 k27
  have b27 := F27.binds (ps := ["cell"]) fun _ _ _ _ _ _ us hl => by obtain ⟨_, rfl⟩ := us1 hl; rfl
  have F28 := fun_mk (st := s__law_name) l28 c28 k28
  have b28 := F28.binds (ps := ["cell"]) fun _ _ _ _ _ _ us hl => by obtain ⟨_, rfl⟩ := us1 hl; rfl
  have F29 := fun_mk (st := s__law_mixed) l29 c29 k29
  have b29 := F29.binds (ps := ["cell", "k"]) fun _ _ _ _ _ _ us hl => by obtain ⟨_, _, rfl⟩ := us2 hl; rfl
  have F30 := fun_mk (st := s__law_numbers) l30 c30 k30
  have b30 := F30.binds (ps := ["number"]) fun _ _ _ _ _ _ us hl => by obtain ⟨_, rfl⟩ := us1 hl; rfl
  have F31 := fun_mk (st := s__law_shown) l31 c31 k31
  have b31 := F31.binds (ps := ["f"]) fun _ _ _ _ _ _ us hl => by obtain ⟨_, rfl⟩ := us1 hl; rfl
  have F32 := fun_mk (st := s__law_times) l32 c32 k32
  have b32 := F32.binds (ps := ["f", "g"]) fun _ _ _ _ _ _ us hl => by obtain ⟨_, _, rfl⟩ := us2 hl; rfl
  have F33 := fun_mk (st := s__law_power) l33 c33 k33
  have b33 := F33.binds (ps := ["p", "e"]) fun _ _ _ _ _ _ us hl => by obtain ⟨_, _, rfl⟩ := us2 hl; rfl
  have F34 := fun_mk (st := s__law_seen) l34 c34 k34
  have b34 := F34.binds (ps := ["p", "f", "a", "e"]) fun _ _ _ _ _ _ us hl => by obtain ⟨_, _, _, _, rfl⟩ := us4 hl; rfl
  have F35 := fun_mk (st := s__law_made) l35 c35 k35
  have b35 := F35.binds (ps := ["p", "way", "number", "one", "other"]) fun _ _ _ _ _ _ us hl => by obtain ⟨_, _, _, _, _, rfl⟩ := us5 hl; rfl
  have F36 := fun_mk (st := s__law_deep) l36 c36 k36
  have b36 := F36.binds (ps := ["number"]) fun _ _ _ _ _ _ us hl => by obtain ⟨_, rfl⟩ := us1 hl; rfl
  have F37 := fun_mk (st := s__law_step) l37 c37 k37
  have b37 := F37.binds (ps := ["p", "number", "kept", "names"]) fun _ _ _ _ _ _ us hl => by obtain ⟨_, _, _, _, rfl⟩ := us4 hl; rfl
  have F38 := fun_mk (st := s__law_ask) l38 c38 k38
  have b38 := F38.binds (ps := ["desk", "row"]) fun _ _ _ _ _ _ us hl => by obtain ⟨_, _, rfl⟩ := us2 hl; rfl
  have F39 := fun_mk (st := s__law_told) l39 c39 k39
  have b39 := F39.binds (ps := ["due"]) fun _ _ _ _ _ _ us hl => by obtain ⟨_, rfl⟩ := us1 hl; rfl
  have F40 := fun_mk (st := s_law) l40 c40 k40
  have k_Desk : clK K "Desk" = e_Desk := clK_of z_Desk
  have k_NoDepth : clK K "NoDepth" = e_NoDepth := clK_of z_NoDepth
  have k_NoInverse : clK K "NoInverse" = e_NoInverse := clK_of z_NoInverse
  have k_NoName : clK K "NoName" = e_NoName := clK_of z_NoName
  have k_NoParts : clK K "NoParts" = e_NoParts := clK_of z_NoParts
  have k_NoPrime : clK K "NoPrime" = e_NoPrime := clK_of z_NoPrime
  have k_NoRow : clK K "NoRow" = e_NoRow := clK_of z_NoRow
  have k_NoSingle : clK K "NoSingle" = e_NoSingle := clK_of z_NoSingle
  have k_NoSmall : clK K "NoSmall" = e_NoSmall := clK_of z_NoSmall
  have k_NoText : clK K "NoText" = e_NoText := clK_of z_NoText
  have k_RestError : clK K "RestError" = e_RestError := clK_of z_RestError
  have k_TooDeep : clK K "TooDeep" = e_TooDeep := clK_of z_TooDeep
  have k_TooGreat : clK K "TooGreat" = e_TooGreat := clK_of z_TooGreat
  have B : Bi mg K w := ⟨kd_WANTED, PySem.W.mg_of X G gd_WANTED, kd_MADE, PySem.W.mg_of X G gd_MADE, kd_TOLD, PySem.W.mg_of X G gd_TOLD, tu_420, tu_421, tu_422, tu_423, tu_424, tu_425, tu_426, PySem.W.mg_of X G fa_made_poly, PySem.W.mg_of X G fa_made_times, PySem.W.mg_of X G fa_made_seen, PySem.W.mg_of X G fa_made_slope, PySem.W.mg_of X G fa_told_show, (by rw [k_Desk]; exact cl_Desk), (by rw [k_Desk]; exact na_prime), (by rw [k_Desk]; exact na_kept), PySem.W.mg_none_of X G z_abs, PySem.W.mg_none_of X G z_all, PySem.W.mg_none_of X G z_bool, PySem.W.mg_none_of X G z_enumerate, PySem.W.mg_none_of X G z_int, PySem.W.mg_none_of X G z_isinstance, PySem.W.mg_none_of X G z_len, PySem.W.mg_none_of X G z_list, PySem.W.mg_none_of X G z_max, PySem.W.mg_none_of X G z_min, PySem.W.mg_none_of X G z_range, PySem.W.mg_none_of X G z_reversed, PySem.W.mg_none_of X G z_sorted, PySem.W.mg_none_of X G z_str, PySem.W.mg_none_of X G z_sum, PySem.W.mg_none_of X G z_zip, ⟨_, PySem.W.mg_of X G z_FIGURES⟩, ⟨_, PySem.W.mg_of X G z_GREATEST_DEPTH⟩, ⟨_, PySem.W.mg_of X G z_GREATEST_PRIME⟩, ⟨_, PySem.W.mg_of X G z_LETTERS⟩, ⟨_, PySem.W.mg_of X G z_MOST_FIGURES⟩, ⟨_, PySem.W.mg_of X G z_MOST_LETTERS⟩, ⟨_, PySem.W.mg_of X G z_MOST_NUMBERS⟩, (by rw [k_Desk]; exact PySem.W.mg_of X G z_Desk), (by rw [k_NoDepth]; exact PySem.W.mg_of X G z_NoDepth), (by rw [k_NoInverse]; exact PySem.W.mg_of X G z_NoInverse), (by rw [k_NoName]; exact PySem.W.mg_of X G z_NoName), (by rw [k_NoParts]; exact PySem.W.mg_of X G z_NoParts), (by rw [k_NoPrime]; exact PySem.W.mg_of X G z_NoPrime), (by rw [k_NoRow]; exact PySem.W.mg_of X G z_NoRow), (by rw [k_NoSingle]; exact PySem.W.mg_of X G z_NoSingle), (by rw [k_NoSmall]; exact PySem.W.mg_of X G z_NoSmall), (by rw [k_NoText]; exact PySem.W.mg_of X G z_NoText), (by rw [k_RestError]; exact PySem.W.mg_of X G z_RestError), (by rw [k_TooDeep]; exact PySem.W.mg_of X G z_TooDeep), (by rw [k_TooGreat]; exact PySem.W.mg_of X G z_TooGreat), (by rw [k_NoName]; exact x_NoName), (by rw [k_TooGreat]; exact x_TooGreat), (by simp only [k_NoName, k_RestError]; exact m_NoName_RestError), (by simp only [k_TooGreat, k_RestError]; exact m_TooGreat_RestError), (by rw [k_NoName]; exact f_NoName), (by rw [k_TooGreat]; exact f_TooGreat), (by simp only [k_NoName, k_Desk]; exact i_NoName_Desk), (by simp only [k_NoName, k_NoDepth]; exact i_NoName_NoDepth), (by simp only [k_NoName, k_NoInverse]; exact i_NoName_NoInverse), (by simp only [k_NoName]; exact i_NoName_NoName), (by simp only [k_NoName, k_NoParts]; exact i_NoName_NoParts), (by simp only [k_NoName, k_NoPrime]; exact i_NoName_NoPrime), (by simp only [k_NoName, k_NoRow]; exact i_NoName_NoRow), (by simp only [k_NoName, k_NoSingle]; exact i_NoName_NoSingle), (by simp only [k_NoName, k_NoSmall]; exact i_NoName_NoSmall), (by simp only [k_NoName, k_NoText]; exact i_NoName_NoText), (by simp only [k_NoName, k_RestError]; exact i_NoName_RestError), (by simp only [k_NoName, k_TooDeep]; exact i_NoName_TooDeep), (by simp only [k_NoName, k_TooGreat]; exact i_NoName_TooGreat), (by simp only [k_TooGreat, k_Desk]; exact i_TooGreat_Desk), (by simp only [k_TooGreat, k_NoDepth]; exact i_TooGreat_NoDepth), (by simp only [k_TooGreat, k_NoInverse]; exact i_TooGreat_NoInverse), (by simp only [k_TooGreat, k_NoName]; exact i_TooGreat_NoName), (by simp only [k_TooGreat, k_NoParts]; exact i_TooGreat_NoParts), (by simp only [k_TooGreat, k_NoPrime]; exact i_TooGreat_NoPrime), (by simp only [k_TooGreat, k_NoRow]; exact i_TooGreat_NoRow), (by simp only [k_TooGreat, k_NoSingle]; exact i_TooGreat_NoSingle), (by simp only [k_TooGreat, k_NoSmall]; exact i_TooGreat_NoSmall), (by simp only [k_TooGreat, k_NoText]; exact i_TooGreat_NoText), (by simp only [k_TooGreat, k_RestError]; exact i_TooGreat_RestError), (by simp only [k_TooGreat, k_TooDeep]; exact i_TooGreat_TooDeep), (by simp only [k_TooGreat]; exact i_TooGreat_TooGreat)⟩
  refine ⟨PySem.W.fnOf "law" "law" (defArgs s_law) (defBody s_law) (defScope s_law) .none kV40 dc40 pm40 an40 cd40 ct40, fun s v => .of_eq rfl, fun base _ _ => ?_⟩
  have D_is_prime := def_mk (P := P) (w := w) (base := base) F1 (ok_is_prime B  F1) b1 (PySem.W.mg_of X G a1)
  have D_power_of := def_mk (P := P) (w := w) (base := base) F2 (ok_power_of B  F2) b2 (PySem.W.mg_of X G a2)
  have D_poly_product := def_mk (P := P) (w := w) (base := base) F3 (ok_poly_product B  F3) b3 (PySem.W.mg_of X G a3)
  have D_slope_of := def_mk (P := P) (w := w) (base := base) F4 (ok_slope_of B  F4) b4 (PySem.W.mg_of X G a4)
  have D_is_made_of := def_mk (P := P) (w := w) (base := base) F6 (ok_is_made_of B  F6) b6 (PySem.W.mg_of X G a6)
  have D_show_poly := def_mk (P := P) (w := w) (base := base) F11 (ok_show_poly B  F11) b11 (PySem.W.mg_of X G a11)
  have D_words_of := def_mk (P := P) (w := w) (base := base) F12 (ok_words_of B  F12) b12 (PySem.W.mg_of X G a12)
  have D_listed := def_mk (P := P) (w := w) (base := base) F15 (ok_listed B  F15) b15 (PySem.W.mg_of X G a15)
  have D_made_poly := defE_mk (P := P) (w := w) (base := base) F16 (ok_made_poly B  F16) b16 (PySem.W.mg_of X G a16)
  have D_standing : Met P w K mg base (CXE P w) (clK K "Desk") "standing" 1 ["self", "name"] (sp_standing K) := ⟨⟨f24, _, ok_standing B  F24, b24, (by rw [k_Desk]; exact ⟨a24, n24, k24⟩)⟩⟩
  have D__law_cell := def_mk (P := P) (w := w) (base := base) F26 (ok__law_cell B  F26) b26 (PySem.W.mg_of X G a26)
  have D__law_prime := def_mk (P := P) (w := w) (base := base) F27 (ok__law_prime B  F27) b27 (PySem.W.mg_of X G a27)
  have D__law_name := def_mk (P := P) (w := w) (base := base) F28 (ok__law_name B  F28) b28 (PySem.W.mg_of X G a28)
  have D__law_mixed := def_mk (P := P) (w := w) (base := base) F29 (ok__law_mixed B  F29) b29 (PySem.W.mg_of X G a29)
  have D__law_numbers := def_mk (P := P) (w := w) (base := base) F30 (ok__law_numbers B  F30) b30 (PySem.W.mg_of X G a30)
  have D__law_shown := def_mk (P := P) (w := w) (base := base) F31 (ok__law_shown B  F31) b31 (PySem.W.mg_of X G a31)
  have D__law_times := def_mk (P := P) (w := w) (base := base) F32 (ok__law_times B  F32) b32 (PySem.W.mg_of X G a32)
  have D__law_power := def_mk (P := P) (w := w) (base := base) F33 (ok__law_power B  F33) b33 (PySem.W.mg_of X G a33)
  have D__law_deep := def_mk (P := P) (w := w) (base := base) F36 (ok__law_deep B  F36) b36 (PySem.W.mg_of X G a36)
  have D__law_told := def_mk (P := P) (w := w) (base := base) F39 (ok__law_told B  F39) b39 (PySem.W.mg_of X G a39)
  have D_seen_from := def_mk (P := P) (w := w) (base := base) F5 (ok_seen_from B D_power_of D_poly_product F5) b5 (PySem.W.mg_of X G a5)
  have D_is_written_number := def_mk (P := P) (w := w) (base := base) F7 (ok_is_written_number B D_is_made_of F7) b7 (PySem.W.mg_of X G a7)
  have D_can_be_written := def_mk (P := P) (w := w) (base := base) F8 (ok_can_be_written B D_power_of F8) b8 (PySem.W.mg_of X G a8)
  have D_read_name := def_mk (P := P) (w := w) (base := base) F13 (ok_read_name B D_is_made_of F13) b13 (PySem.W.mg_of X G a13)
  have D_made_times := defE_mk (P := P) (w := w) (base := base) F17 (ok_made_times B D_poly_product F17) b17 (PySem.W.mg_of X G a17)
  have D_made_slope := defE_mk (P := P) (w := w) (base := base) F19 (ok_made_slope B D_slope_of F19) b19 (PySem.W.mg_of X G a19)
  have D_told_show := def_mk (P := P) (w := w) (base := base) F20 (ok_told_show B D_show_poly F20) b20 (PySem.W.mg_of X G a20)
  have D___init__ : MkD P w K mg base (clK K "Desk") 2 ["self", "p"] (sp___init__ K) := ⟨⟨f21, _, ok___init__ B D_is_prime F21, b21, (by rw [k_Desk]; exact ⟨mk_Desk, a21, n21, kc_Desk⟩)⟩⟩
  have D__law_seen := def_mk (P := P) (w := w) (base := base) F34 (ok__law_seen B D__law_power F34) b34 (PySem.W.mg_of X G a34)
  have T_TOLD : TabOk P w K mg base CX0 2 (Tab_TOLD K) := tab_one B.fa_told_show D_told_show.ex
  have D_read_number := def_mk (P := P) (w := w) (base := base) F9 (ok_read_number B D_is_written_number F9) b9 (PySem.W.mg_of X G a9)
  have D_made_seen := defE_mk (P := P) (w := w) (base := base) F18 (ok_made_seen B D_seen_from F18) b18 (PySem.W.mg_of X G a18)
  have D_keep : Met P w K mg base (CXE P w) (clK K "Desk") "keep" 3 ["self", "name", "polynomial"] (sp_keep K) := ⟨⟨f25, _, ok_keep B D_can_be_written F25, b25, (by rw [k_Desk]; exact ⟨a25, n25, k25⟩)⟩⟩
  have D__law_made := def_mk (P := P) (w := w) (base := base) F35 (ok__law_made B D__law_times D__law_seen D__law_deep F35) b35 (PySem.W.mg_of X G a35)
  have T_MADE : TabOk P w K mg base (CXE P w) 3 (Tab_MADE K) := tab_or (tab_one B.fa_made_poly D_made_poly.ex) (tab_or (tab_one B.fa_made_times D_made_times.ex) (tab_or (tab_one B.fa_made_seen D_made_seen.ex) (tab_one B.fa_made_slope D_made_slope.ex)))
  have D_read_poly := def_mk (P := P) (w := w) (base := base) F10 (ok_read_poly B D_read_number F10) b10 (PySem.W.mg_of X G a10)
  have D_read_depth := def_mk (P := P) (w := w) (base := base) F14 (ok_read_depth B D_read_number F14) b14 (PySem.W.mg_of X G a14)
  have D__law_step := def_mk (P := P) (w := w) (base := base) F37 (ok__law_step B D__law_numbers D__law_shown D__law_made D__law_deep F37) b37 (PySem.W.mg_of X G a37)
  have D_thing_of : Met P w K mg base (CXE P w) (clK K "Desk") "thing_of" 5 ["self", "wanted", "word"] (sp_thing_of K) := ⟨⟨f23, _, ok_thing_of B D_read_number D_read_poly D_read_name D_read_depth D_standing F23, b23, (by rw [k_Desk]; exact ⟨a23, n23, k23⟩)⟩⟩
  have D_say : Met P w K mg base (CXE P w) (clK K "Desk") "say" 6 ["self", "row"] (sp_say K) := ⟨⟨f22, _, ok_say B T_TOLD T_MADE D_words_of D_listed D_thing_of D_keep F22, b22, (by rw [k_Desk]; exact ⟨a22, n22, k22⟩)⟩⟩
  have D__law_ask := def_mk (P := P) (w := w) (base := base) F38 (ok__law_ask B D_say F38) b38 (PySem.W.mg_of X G a38)
  exact ok_law B D___init__ D__law_cell D__law_prime D__law_name D__law_mixed D__law_shown D__law_step D__law_ask D__law_told F40
end
end K82
namespace PySem.W.Fast
theorem tw16882920129215766560:True:=.intro
theorem tw2745148685043540128:True:=.intro
theorem tw4250411729732849824:True:=.intro
theorem tw2946384549179676864:True:=.intro
theorem tw9060549826095573184:True:=.intro
theorem tw7892399809259641120:True:=.intro
theorem tw443054360251446560:True:=.intro
theorem tw2009030308021155136:True:=.intro
theorem tw12582027602729915712:True:=.intro
theorem tw6239349447380105664:True:=.intro
theorem tw1500519125730987488:True:=.intro
theorem tw8151810703334160864:True:=.intro
theorem tw16291731759711603200:True:=.intro
theorem tw15510836751743055392:True:=.intro
theorem tw11428508043135540768:True:=.intro
theorem tw1900895075375327840:True:=.intro
theorem tw5136546114313280096:True:=.intro
theorem tw1594615614886541920:True:=.intro
theorem tw16074687209568549504:True:=.intro
theorem tw6739528948629661344:True:=.intro
theorem tw4768544148138183328:True:=.intro
theorem tw4014593914787360448:True:=.intro
theorem tw8689098217729584864:True:=.intro
theorem tw3612483267769359168:True:=.intro
theorem tw17070181779341788992:True:=.intro
theorem tw14676037016373498752:True:=.intro
theorem tw12520868919632344000:True:=.intro
theorem tw15687259918890506176:True:=.intro
theorem tw8305727310574308320:True:=.intro
theorem tw1743382175949980673:True:=.intro
theorem tw1537188777921643521:True:=.intro
theorem tw11783025577517189249:True:=.intro
theorem tw9844730075460134113:True:=.intro
theorem tw11357956374407727361:True:=.intro
theorem tw3413502920645057857:True:=.intro
theorem tw13775295017317765537:True:=.intro
theorem tw4388011837057102241:True:=.intro
theorem tw990296954963524001:True:=.intro
theorem tw13091858294434497057:True:=.intro
theorem tw6461625326339486369:True:=.intro
theorem tw16885610639219382945:True:=.intro
theorem tw360398693519835841:True:=.intro
theorem tw13994901371416808161:True:=.intro
theorem tw7845367851986163489:True:=.intro
theorem tw2066875433283086113:True:=.intro
theorem tw7644412730387011393:True:=.intro
theorem tw11838546809604260705:True:=.intro
theorem tw13430293921664400257:True:=.intro
theorem tw15925392226513296353:True:=.intro
theorem tw8839011475566646241:True:=.intro
theorem tw6668290040333112322:True:=.intro
theorem tw17268896055596455938:True:=.intro
theorem tw9496756751371789346:True:=.intro
theorem tw15695911318620870722:True:=.intro
theorem tw14899342417264950338:True:=.intro
theorem tw17561766021241363586:True:=.intro
theorem tw2776451191113656482:True:=.intro
theorem tw18097253636870446242:True:=.intro
theorem tw2296670934352379202:True:=.intro
theorem tw1159203565930775970:True:=.intro
theorem tw4591370477642329602:True:=.intro
theorem tw4112746148358439426:True:=.intro
theorem tw11007214989233772034:True:=.intro
theorem tw6803190078096032290:True:=.intro
theorem tw7587400493706698274:True:=.intro
theorem tw1574451818631396930:True:=.intro
theorem tw17222072046253224514:True:=.intro
theorem tw3862604958164845186:True:=.intro
theorem tw17511337681369716482:True:=.intro
theorem tw2192040932160694050:True:=.intro
theorem tw953269907260068674:True:=.intro
theorem tw12763149149882878850:True:=.intro
theorem tw3585389536347267107:True:=.intro
theorem tw15733021798162192483:True:=.intro
theorem tw3432285302033346691:True:=.intro
theorem tw12289248637745160355:True:=.intro
theorem tw2039487478408434915:True:=.intro
theorem tw17087285708378457347:True:=.intro
theorem tw17173830009636550915:True:=.intro
theorem tw10602016058086337827:True:=.intro
theorem tw1065009001551660387:True:=.intro
theorem tw16445188416176212451:True:=.intro
theorem tw5111988642516623875:True:=.intro
theorem tw6716094710324454947:True:=.intro
theorem tw5235355228764589667:True:=.intro
theorem tw17913874017143914083:True:=.intro
theorem tw15995280530320769699:True:=.intro
theorem tw10841298011099940515:True:=.intro
theorem tw17384275279222558371:True:=.intro
theorem tw12107314393428732611:True:=.intro
theorem tw17288512456328227555:True:=.intro
theorem tw15709118287368898339:True:=.intro
theorem tw8164522267696190339:True:=.intro
theorem tw16244621292268979139:True:=.intro
theorem tw13166946034537982915:True:=.intro
theorem tw9597297289416860643:True:=.intro
theorem tw8965235822543887364:True:=.intro
theorem tw11771225421761452068:True:=.intro
theorem tw17845329645745715300:True:=.intro
theorem tw9748900322738090148:True:=.intro
theorem tw4172795995813382340:True:=.intro
theorem tw17744381070028673284:True:=.intro
theorem tw5687280286261197156:True:=.intro
theorem tw4871277093044804996:True:=.intro
theorem tw16107299673510578596:True:=.intro
theorem tw8227524400780468740:True:=.intro
theorem tw18163039360793085476:True:=.intro
theorem tw14190819723985203748:True:=.intro
theorem tw11557739406248122916:True:=.intro
theorem tw7549113053395972676:True:=.intro
theorem tw12021905778691873348:True:=.intro
theorem tw6694940755317139044:True:=.intro
theorem tw6122874602697855652:True:=.intro
theorem tw11712108552213378756:True:=.intro
theorem tw12832198565971066564:True:=.intro
theorem tw5483668645330153188:True:=.intro
theorem tw1798727930464132900:True:=.intro
theorem tw841743736377799460:True:=.intro
theorem tw7767214072301407140:True:=.intro
theorem tw8674988689080179652:True:=.intro
theorem tw12746557199756634117:True:=.intro
theorem tw3777307165907945509:True:=.intro
theorem tw8016362766124486693:True:=.intro
theorem tw10330285907141136453:True:=.intro
theorem tw18220738659674899525:True:=.intro
theorem tw6399712850010909797:True:=.intro
theorem tw3892304089472719973:True:=.intro
theorem tw14460440292096651461:True:=.intro
theorem tw4509279419034091717:True:=.intro
theorem tw6247192918294860037:True:=.intro
theorem tw18224124743455815941:True:=.intro
theorem tw14018915671244906853:True:=.intro
theorem tw14837154889558053221:True:=.intro
theorem tw11155912364118989253:True:=.intro
theorem tw7441668576811866565:True:=.intro
theorem tw18159357571537501637:True:=.intro
theorem tw3908492976468819397:True:=.intro
theorem tw17369974720919057957:True:=.intro
theorem tw9799217522179799653:True:=.intro
theorem tw7813126330683966117:True:=.intro
theorem tw2883672024184347429:True:=.intro
theorem tw7187512884930776005:True:=.intro
theorem tw737539841549938758:True:=.intro
theorem tw5765348587301686374:True:=.intro
theorem tw3769999128937936006:True:=.intro
theorem tw7806632343152937094:True:=.intro
theorem tw7637002326858052806:True:=.intro
theorem tw13242091293255904518:True:=.intro
theorem tw15390862668511672582:True:=.intro
theorem tw7531008581825821030:True:=.intro
theorem tw16380531721450000870:True:=.intro
theorem tw10989954580907279974:True:=.intro
theorem tw7422230466420220710:True:=.intro
theorem tw4943741000102736678:True:=.intro
theorem tw14690712449590561638:True:=.intro
theorem tw2374851585704146790:True:=.intro
theorem tw8380525715696016326:True:=.intro
theorem tw4412776972502239303:True:=.intro
theorem tw3038241933886749767:True:=.intro
theorem tw545555967222307943:True:=.intro
theorem tw779459275739300999:True:=.intro
theorem tw10829174168040855687:True:=.intro
theorem tw1780221156473434247:True:=.intro
theorem tw11325132168853127431:True:=.intro
theorem tw1901106695787992327:True:=.intro
theorem tw16780323396127694375:True:=.intro
theorem tw5116675053644604999:True:=.intro
theorem tw15131035681162278471:True:=.intro
theorem tw16876949207828223655:True:=.intro
theorem tw17145849910044895943:True:=.intro
theorem tw6381586759604492071:True:=.intro
theorem tw13105913518669081447:True:=.intro
theorem tw15827963352543655815:True:=.intro
theorem tw8155237588172345255:True:=.intro
theorem tw8912724963522141095:True:=.intro
theorem tw17139658520456032264:True:=.intro
theorem tw4495639023439371272:True:=.intro
theorem tw9489117501035155496:True:=.intro
theorem tw5610197657671525416:True:=.intro
theorem tw12913405065128861928:True:=.intro
theorem tw9151719083965189384:True:=.intro
theorem tw1735300375941468456:True:=.intro
theorem tw14811828275236077864:True:=.intro
theorem tw9612933467282033224:True:=.intro
theorem tw3906623105244114568:True:=.intro
theorem tw17564046332120747656:True:=.intro
theorem tw9385519628296992456:True:=.intro
theorem tw7573090430077909768:True:=.intro
theorem tw3677489768168576904:True:=.intro
theorem tw9684557141188967304:True:=.intro
theorem tw3666807618204732328:True:=.intro
theorem tw15381528395873157129:True:=.intro
theorem tw9362897938139190377:True:=.intro
theorem tw15237361805862539401:True:=.intro
theorem tw2494060739826415817:True:=.intro
theorem tw14266519673284519145:True:=.intro
theorem tw2360863506516903145:True:=.intro
theorem tw345406011272840553:True:=.intro
theorem tw18275445664813697385:True:=.intro
theorem tw11373145895880907113:True:=.intro
theorem tw4688192147200602537:True:=.intro
theorem tw8872365210655692265:True:=.intro
theorem tw12613400543231063593:True:=.intro
theorem tw17284626061051784745:True:=.intro
theorem tw2345208806300423817:True:=.intro
theorem tw15292739264623371977:True:=.intro
theorem tw5255999075070214857:True:=.intro
theorem tw15204767208551717609:True:=.intro
theorem tw8117821817857877737:True:=.intro
theorem tw6260128474412157705:True:=.intro
theorem tw4777282494714150665:True:=.intro
theorem tw7719649162487540521:True:=.intro
theorem tw12564352412144838537:True:=.intro
theorem tw1993374113023498153:True:=.intro
theorem tw7351116879559799721:True:=.intro
theorem tw13405866125695967209:True:=.intro
theorem tw15955654570295153738:True:=.intro
theorem tw12234059731542041674:True:=.intro
theorem tw12386289318720457834:True:=.intro
theorem tw16287164180186063978:True:=.intro
theorem tw9069064565195609258:True:=.intro
theorem tw2569390031302191402:True:=.intro
theorem tw1445857656887011690:True:=.intro
theorem tw16918420038567797130:True:=.intro
theorem tw14334180844915967370:True:=.intro
theorem tw15871570973211085290:True:=.intro
theorem tw11701189156897522346:True:=.intro
theorem tw11223828970954283914:True:=.intro
theorem tw3790216935964930986:True:=.intro
theorem tw3189365097588308043:True:=.intro
theorem tw11596814331941261419:True:=.intro
theorem tw4830599150091139275:True:=.intro
theorem tw15839288612451872971:True:=.intro
theorem tw6575640195110717643:True:=.intro
theorem tw17290189488856534283:True:=.intro
theorem tw5760082769939869963:True:=.intro
theorem tw16568090928509739371:True:=.intro
theorem tw10690659466568349067:True:=.intro
theorem tw8371449879634821547:True:=.intro
theorem tw11927559865129395691:True:=.intro
theorem tw8523739192572183051:True:=.intro
theorem tw12341172967124474443:True:=.intro
theorem tw11910369178192783947:True:=.intro
theorem tw5860948992843225739:True:=.intro
theorem tw17634308255199678091:True:=.intro
theorem tw14943563060037049035:True:=.intro
theorem tw7955831365513855691:True:=.intro
theorem tw7889246997485516555:True:=.intro
theorem tw7793556900140117867:True:=.intro
theorem tw14154805895143787499:True:=.intro
theorem tw2828038069895180396:True:=.intro
theorem tw10281922984077148332:True:=.intro
theorem tw6525574747555920044:True:=.intro
theorem tw575378707410699468:True:=.intro
theorem tw1869549425774921964:True:=.intro
theorem tw16990998089028198668:True:=.intro
theorem tw10415974536230301964:True:=.intro
theorem tw4718242780314768812:True:=.intro
theorem tw7862579402969581996:True:=.intro
theorem tw907677485801892364:True:=.intro
theorem tw8301777585517352460:True:=.intro
theorem tw6699393977031003820:True:=.intro
theorem tw5261747762384430764:True:=.intro
theorem tw7983003455464251180:True:=.intro
theorem tw14602776111130849068:True:=.intro
theorem tw10809681140698736428:True:=.intro
theorem tw954942036481790796:True:=.intro
theorem tw3648560459214695308:True:=.intro
theorem tw6456606613136169932:True:=.intro
theorem tw13046173941638885517:True:=.intro
theorem tw2310452377989566669:True:=.intro
theorem tw15367138024713332973:True:=.intro
theorem tw15811224767573766445:True:=.intro
theorem tw10260631662077764941:True:=.intro
theorem tw5587133899115021677:True:=.intro
theorem tw2625453398418078093:True:=.intro
theorem tw6714740627644637581:True:=.intro
theorem tw4279496152448507309:True:=.intro
theorem tw10666119884222576045:True:=.intro
theorem tw322355664447528365:True:=.intro
theorem tw2225996133806744077:True:=.intro
theorem tw8019433005392594509:True:=.intro
theorem tw8091793317659379277:True:=.intro
theorem tw16275554454287292109:True:=.intro
theorem tw13263143722240952013:True:=.intro
theorem tw14945131679971964653:True:=.intro
theorem tw4600548024357687085:True:=.intro
theorem tw17168154845606362925:True:=.intro
theorem tw14804752403749535565:True:=.intro
theorem tw2128543369851780941:True:=.intro
theorem tw13162204172576726893:True:=.intro
theorem tw13482280568421640077:True:=.intro
theorem tw11654673359687853997:True:=.intro
theorem tw5953608364763942861:True:=.intro
theorem tw1448052987905099725:True:=.intro
theorem tw10009178546395529262:True:=.intro
theorem tw15073342291112640558:True:=.intro
theorem tw11901772082744767566:True:=.intro
theorem tw724457131473160302:True:=.intro
theorem tw13161680872177468558:True:=.intro
theorem tw4976971844908669134:True:=.intro
theorem tw14341725867431233774:True:=.intro
theorem tw8245858817246835086:True:=.intro
theorem tw8261650293725845966:True:=.intro
theorem tw18402534811729975790:True:=.intro
theorem tw6619572933963095598:True:=.intro
theorem tw7537509624871447246:True:=.intro
theorem tw2639584876823158478:True:=.intro
theorem tw10432929306612674286:True:=.intro
theorem tw3164534645857663726:True:=.intro
theorem tw16973782940829572846:True:=.intro
theorem tw10046562147004875566:True:=.intro
theorem tw8564628818804309838:True:=.intro
theorem tw2319387530380151694:True:=.intro
theorem tw10031921267881820110:True:=.intro
theorem tw18079615086721439823:True:=.intro
theorem tw1700259518774722671:True:=.intro
theorem tw3723924005618872431:True:=.intro
theorem tw14290370136341877935:True:=.intro
theorem tw11235258829458430159:True:=.intro
theorem tw4718320576705442063:True:=.intro
theorem tw8555286183732157807:True:=.intro
theorem tw1902138285587829135:True:=.intro
theorem tw5492171252691575183:True:=.intro
theorem tw7612441567667538351:True:=.intro
theorem tw9220792397709406703:True:=.intro
theorem tw7937068280634253871:True:=.intro
theorem tw17620731336593583695:True:=.intro
theorem tw14224340058632342319:True:=.intro
theorem tw14780515935201675151:True:=.intro
theorem tw11870699919234771056:True:=.intro
theorem tw3717735840424162448:True:=.intro
theorem tw11293659115614905520:True:=.intro
theorem tw1548482480520733904:True:=.intro
theorem tw13814058575822133488:True:=.intro
theorem tw3987220222837037296:True:=.intro
theorem tw9083108253807441136:True:=.intro
theorem tw17821190310996274448:True:=.intro
theorem tw2102756258217731376:True:=.intro
theorem tw8569508740690281872:True:=.intro
theorem tw12113906159206743472:True:=.intro
theorem tw10785236773653086736:True:=.intro
theorem tw16009530018089513488:True:=.intro
theorem tw4659112149820767760:True:=.intro
theorem tw13914843407985024560:True:=.intro
theorem tw13008335491736454704:True:=.intro
theorem tw13967849981725130320:True:=.intro
theorem tw9338702908180595408:True:=.intro
theorem tw13217310949344650032:True:=.intro
theorem tw16677325690812867408:True:=.intro
theorem tw15531767073549830992:True:=.intro
theorem tw8289925823028973392:True:=.intro
theorem tw11290439276347416432:True:=.intro
theorem tw4446709328257185648:True:=.intro
theorem tw6473781331672633264:True:=.intro
theorem tw16699525315056872368:True:=.intro
theorem tw15753071070397947824:True:=.intro
theorem tw3291667881965099089:True:=.intro
theorem tw8085926634173338705:True:=.intro
theorem tw4445283666696876209:True:=.intro
theorem tw8311123412960752881:True:=.intro
theorem tw891022860259695889:True:=.intro
theorem tw11626837229928463697:True:=.intro
theorem tw13480383165456806225:True:=.intro
theorem tw2531919050324817297:True:=.intro
theorem tw17704696799363653329:True:=.intro
theorem tw3233310739279404785:True:=.intro
theorem tw8059174453194749681:True:=.intro
theorem tw9199550080735447953:True:=.intro
theorem tw12216487422335647794:True:=.intro
theorem tw8694521839285047410:True:=.intro
theorem tw1727334680803683538:True:=.intro
theorem tw16467218937069889746:True:=.intro
theorem tw16538675887760796882:True:=.intro
theorem tw8050841788421506290:True:=.intro
theorem tw16696627983122253074:True:=.intro
theorem tw15825032895704468754:True:=.intro
theorem tw1330129568810973490:True:=.intro
theorem tw8969448089605872082:True:=.intro
theorem tw13751137146435995122:True:=.intro
theorem tw10116904028934214130:True:=.intro
theorem tw16570292440862809650:True:=.intro
theorem tw12953029359780364914:True:=.intro
theorem tw6681887948861096562:True:=.intro
theorem tw2902689589773364850:True:=.intro
theorem tw12577303997119059634:True:=.intro
theorem tw17754709694794691282:True:=.intro
theorem tw130191924298926962:True:=.intro
theorem tw10210637903738218354:True:=.intro
theorem tw15447021943575436146:True:=.intro
theorem tw10201187132125610994:True:=.intro
theorem tw6010283293630374931:True:=.intro
theorem tw1093921039283259443:True:=.intro
theorem tw3455566686972394579:True:=.intro
theorem tw16898226293103718579:True:=.intro
theorem tw4085031285788432563:True:=.intro
theorem tw18144309675143815411:True:=.intro
theorem tw11899835065009026387:True:=.intro
theorem tw4512770003581567347:True:=.intro
theorem tw5832294788212418995:True:=.intro
theorem tw3721268943192426963:True:=.intro
theorem tw12543475070414786003:True:=.intro
theorem tw2614872047220630003:True:=.intro
theorem tw3241190603096925683:True:=.intro
theorem tw13457991431911499283:True:=.intro
theorem tw253138489422035507:True:=.intro
theorem tw15725437537334008435:True:=.intro
theorem tw15508513311876103891:True:=.intro
theorem tw2388058243024371411:True:=.intro
theorem tw11756856369823749011:True:=.intro
theorem tw15438526748938154931:True:=.intro
theorem tw3099074491538113491:True:=.intro
theorem tw13072716635701673939:True:=.intro
theorem tw1635990163071391699:True:=.intro
theorem tw10638723091037891636:True:=.intro
theorem tw350422653281794164:True:=.intro
theorem tw15653639638493636724:True:=.intro
theorem tw16051878267295085748:True:=.intro
theorem tw14308062236489724116:True:=.intro
theorem tw15758925309600436436:True:=.intro
theorem tw8100159322623529236:True:=.intro
theorem tw9427160168868238708:True:=.intro
theorem tw5000140217206078836:True:=.intro
theorem tw14498663686869950868:True:=.intro
theorem tw6221957070161042964:True:=.intro
theorem tw11184744017093568116:True:=.intro
theorem tw1655898126332930740:True:=.intro
theorem tw16347936574442920692:True:=.intro
theorem tw4031278367413326612:True:=.intro
theorem tw13295367007420207988:True:=.intro
theorem tw10343348902924178292:True:=.intro
theorem tw18189724941867407220:True:=.intro
theorem tw8932389522853491572:True:=.intro
theorem tw13230794852781997972:True:=.intro
theorem tw15323242760671128500:True:=.intro
theorem tw1255250288631303156:True:=.intro
theorem tw2282101131515266101:True:=.intro
theorem tw4856967927967633493:True:=.intro
theorem tw6261362304549607541:True:=.intro
theorem tw11997026659810117781:True:=.intro
theorem tw5968006618766299349:True:=.intro
theorem tw16774360449057342677:True:=.intro
theorem tw17050804416178388181:True:=.intro
theorem tw1067620082178935061:True:=.intro
theorem tw13977662690532777237:True:=.intro
theorem tw9209397210585196821:True:=.intro
theorem tw3551677970571374901:True:=.intro
theorem tw11576581785910477141:True:=.intro
theorem tw18001218474894562645:True:=.intro
theorem tw14109778238367561045:True:=.intro
theorem tw7312429518660243925:True:=.intro
theorem tw5455724924432057845:True:=.intro
theorem tw81325397394330101:True:=.intro
theorem tw10232348342785841717:True:=.intro
theorem tw2496061258559953461:True:=.intro
theorem tw13902531957036408373:True:=.intro
theorem tw10555161251919262261:True:=.intro
theorem tw7096433349264933461:True:=.intro
theorem tw11888347404779046485:True:=.intro
theorem tw10347682539628065461:True:=.intro
theorem tw13912788181316805429:True:=.intro
theorem tw11282531358567324533:True:=.intro
theorem tw17068988627209223029:True:=.intro
theorem tw9576703512368841621:True:=.intro
theorem tw672476832643888053:True:=.intro
theorem tw14261252615818392533:True:=.intro
theorem tw6224924406790414293:True:=.intro
theorem tw10455696813545882613:True:=.intro
theorem tw4630216550064266294:True:=.intro
theorem tw3886368402202264662:True:=.intro
theorem tw8039137955952042102:True:=.intro
theorem tw10248470309429921910:True:=.intro
theorem tw1249561596870318198:True:=.intro
theorem tw609931769653750966:True:=.intro
theorem tw10463490475510139062:True:=.intro
theorem tw16745127216540888342:True:=.intro
theorem tw7288383354038218038:True:=.intro
theorem tw18264429002686295382:True:=.intro
theorem tw3377091671279882582:True:=.intro
theorem tw13011563072364716406:True:=.intro
theorem tw1230779572988459446:True:=.intro
theorem tw18299189529208894902:True:=.intro
theorem tw9467420108398224854:True:=.intro
theorem tw13129883019113710102:True:=.intro
theorem tw5985854879084876342:True:=.intro
theorem tw5172582820408622710:True:=.intro
theorem tw14329504389952462486:True:=.intro
theorem tw8818697978372123350:True:=.intro
theorem tw11360854393160982422:True:=.intro
theorem tw8910326084591774614:True:=.intro
theorem tw16225638725205583830:True:=.intro
theorem tw521430003982522358:True:=.intro
theorem tw10344309507969467415:True:=.intro
theorem tw6240720981955209271:True:=.intro
theorem tw966687445577757783:True:=.intro
theorem tw16541974744563867767:True:=.intro
theorem tw13849116716793336983:True:=.intro
theorem tw1144182091538564279:True:=.intro
theorem tw10874392536347457751:True:=.intro
theorem tw4065132906966940887:True:=.intro
theorem tw15426566147055618295:True:=.intro
theorem tw3253182362604515607:True:=.intro
theorem tw11216129916497048855:True:=.intro
theorem tw11418604964751270199:True:=.intro
theorem tw10541973197080680791:True:=.intro
theorem tw846229622140659031:True:=.intro
theorem tw4098131969581833623:True:=.intro
theorem tw501820551581188695:True:=.intro
theorem tw6757408837636372119:True:=.intro
theorem tw7518476709913176823:True:=.intro
theorem tw10931324557115925303:True:=.intro
theorem tw2564591532933531479:True:=.intro
theorem tw18013043233211461495:True:=.intro
theorem tw1944542652838968247:True:=.intro
theorem tw3931401823214668727:True:=.intro
theorem tw3485404757725888471:True:=.intro
theorem tw14070219585236510711:True:=.intro
theorem tw14995520714547606648:True:=.intro
theorem tw3986396602261607576:True:=.intro
theorem tw12178945267748444344:True:=.intro
theorem tw1331733280040441176:True:=.intro
theorem tw16664068072153720184:True:=.intro
theorem tw3089502222007200152:True:=.intro
theorem tw12483250597646620088:True:=.intro
theorem tw2961181435412853336:True:=.intro
theorem tw12473395434910332536:True:=.intro
theorem tw12603450212121309816:True:=.intro
theorem tw6901586885523368600:True:=.intro
theorem tw5579612424316299960:True:=.intro
theorem tw2772990306189692632:True:=.intro
theorem tw5391448821251109752:True:=.intro
theorem tw14931391600536523704:True:=.intro
theorem tw10946633877229084600:True:=.intro
theorem tw843111901384293368:True:=.intro
theorem tw7405550226964063353:True:=.intro
theorem tw10097052888881659065:True:=.intro
theorem tw9977582101182125305:True:=.intro
theorem tw15178783974873125113:True:=.intro
theorem tw12855740231715856761:True:=.intro
theorem tw12474120298359970329:True:=.intro
theorem tw7364483438049417817:True:=.intro
theorem tw9337804797333483129:True:=.intro
theorem tw609816092713908857:True:=.intro
theorem tw809285799518160537:True:=.intro
theorem tw14598915426905207545:True:=.intro
theorem tw13149209791956809497:True:=.intro
theorem tw16427707181416953849:True:=.intro
theorem tw14292314705687669882:True:=.intro
theorem tw8935063154165585082:True:=.intro
theorem tw7484101988542617786:True:=.intro
theorem tw12391273729447002330:True:=.intro
theorem tw8578481292336567546:True:=.intro
theorem tw15941731743514333498:True:=.intro
theorem tw15568019496950806842:True:=.intro
theorem tw8640330458537028922:True:=.intro
theorem tw839466904056383898:True:=.intro
theorem tw9595328162778830266:True:=.intro
theorem tw4090107188181986746:True:=.intro
theorem tw7750569838210228698:True:=.intro
theorem tw1427804222679754266:True:=.intro
theorem tw17919010005333227066:True:=.intro
theorem tw5524619711439243866:True:=.intro
theorem tw16617948439352556154:True:=.intro
theorem tw5701962618857754234:True:=.intro
theorem tw626644056972149402:True:=.intro
theorem tw573176413405619098:True:=.intro
theorem tw16716719927213166522:True:=.intro
theorem tw17225927633112603578:True:=.intro
theorem tw10770927186898485210:True:=.intro
theorem tw6890514394125460474:True:=.intro
theorem tw10314461602914038811:True:=.intro
theorem tw4016457234660746299:True:=.intro
theorem tw14421464361322255579:True:=.intro
theorem tw2903455388964660475:True:=.intro
theorem tw14481868830823108891:True:=.intro
theorem tw16761207909662699835:True:=.intro
theorem tw14621945477826149819:True:=.intro
theorem tw9800345063557360059:True:=.intro
theorem tw12629315702404291131:True:=.intro
theorem tw6818720633503374907:True:=.intro
theorem tw673258863124684475:True:=.intro
theorem tw16929556593981737691:True:=.intro
theorem tw6147045209194653435:True:=.intro
theorem tw1466671777985509115:True:=.intro
theorem tw4934081216300492571:True:=.intro
theorem tw17445468213889279771:True:=.intro
theorem tw16502324276315603803:True:=.intro
theorem tw13960755433392865147:True:=.intro
theorem tw9433694926557908923:True:=.intro
theorem tw445851827067984859:True:=.intro
theorem tw6947417806392819740:True:=.intro
theorem tw4886340178480066748:True:=.intro
theorem tw18211086017119473852:True:=.intro
theorem tw3384268540911141084:True:=.intro
theorem tw14886296655428886812:True:=.intro
theorem tw9331148821279901020:True:=.intro
theorem tw3136415457485802844:True:=.intro
theorem tw4433205829650932092:True:=.intro
theorem tw13727352041440060860:True:=.intro
theorem tw5347958693259660860:True:=.intro
theorem tw2580913411291172444:True:=.intro
theorem tw12474728842993915548:True:=.intro
theorem tw16462247091226150588:True:=.intro
theorem tw9952550022553483964:True:=.intro
theorem tw9496972712658878172:True:=.intro
theorem tw12989488226194184956:True:=.intro
theorem tw10302210907521482620:True:=.intro
theorem tw5784123484410676220:True:=.intro
theorem tw6296869044944838749:True:=.intro
theorem tw3492974827742612669:True:=.intro
theorem tw10762708278082467037:True:=.intro
theorem tw14544345666286116157:True:=.intro
theorem tw2205099587970410909:True:=.intro
theorem tw768942932032547293:True:=.intro
theorem tw10056139368762146269:True:=.intro
theorem tw7601785827019345405:True:=.intro
theorem tw2809705271471781405:True:=.intro
theorem tw8342847180432108061:True:=.intro
theorem tw1304423063682572893:True:=.intro
theorem tw15313430625738143421:True:=.intro
theorem tw7697858459248551677:True:=.intro
theorem tw5347641806741986045:True:=.intro
theorem tw14157720270102703901:True:=.intro
theorem tw940207022429456189:True:=.intro
theorem tw12908783053754767197:True:=.intro
theorem tw18007308891153434493:True:=.intro
theorem tw10736990852147710909:True:=.intro
theorem tw14249232680204671933:True:=.intro
theorem tw1439486538331958237:True:=.intro
theorem tw827009274596312061:True:=.intro
theorem tw8864874972632010846:True:=.intro
theorem tw7533305501519823038:True:=.intro
theorem tw18244900934288023774:True:=.intro
theorem tw2295985582598623518:True:=.intro
theorem tw14141599009846555966:True:=.intro
theorem tw3681051552595967326:True:=.intro
theorem tw14598737201989583230:True:=.intro
theorem tw8233251619737473406:True:=.intro
theorem tw15682607329467905406:True:=.intro
theorem tw16447166548990805406:True:=.intro
theorem tw5918828952257670622:True:=.intro
theorem tw3711289346334786046:True:=.intro
theorem tw1251336870705023486:True:=.intro
theorem tw7068173358968873502:True:=.intro
theorem tw6438191971467408926:True:=.intro
theorem tw7731158113936788030:True:=.intro
theorem tw1368977103859573438:True:=.intro
theorem tw14199900522493722398:True:=.intro
theorem tw12973913600710222718:True:=.intro
theorem tw18063211090885804958:True:=.intro
theorem tw8038625191144377342:True:=.intro
theorem tw2999427163344265311:True:=.intro
theorem tw11355183939408483423:True:=.intro
theorem tw9720318655375165599:True:=.intro
theorem tw1204202424217480351:True:=.intro
theorem tw15454641586204594431:True:=.intro
theorem tw14191560249980270879:True:=.intro
theorem tw1455866306059716895:True:=.intro
theorem tw4455271321708534079:True:=.intro
theorem tw16293580865613030783:True:=.intro
theorem tw18158853407713651071:True:=.intro
theorem tw9437092933753854399:True:=.intro
theorem tw6329115368797129215:True:=.intro
theorem tw16093824065926965791:True:=.intro
theorem tw13991402404355529375:True:=.intro
theorem tw12663253256346509983:True:=.intro
theorem tw3801519676441827007:True:=.intro
theorem tw1968642834093712127:True:=.intro
theorem tw7036417224197425919:True:=.intro
theorem tw13097513546632574783:True:=.intro
theorem tw9983476628962946911:True:=.intro
theorem tw480440548603744159:True:=.intro
theorem tw17653644788211971007:True:=.intro
end PySem.W.Fast
open PySem PySem.W PyProof.Rows
set_option maxRecDepth 100000 in
set_option maxHeartbeats 0 in
theorem PySem.Challenge.cw_deeprests_k82_whole_polynomials_kept_holds : PySem.Challenge.rw_deeprests_k82_whole_polynomials_kept.Holds := by
  w_on; o_law; k_head; (case hw => w_witness2)
  k_fill
  refine L2.walk_law (l := PySem.Challenge.rw_deeprests_k82_whole_polynomials_kept) (k := 8) (CX := fun _ => L2.CX0) rfl rfl ⟨rfl, by decide, by decide⟩ (fun w h Y => PySem.W.kIn_of Y) (fun _ _ _ _ _ z => z) ?F
  case F =>
    intro w mg fa h KX G hmg
    refine' K82.all_mk KX G hmg ?a1 ?l1 ?c1 ?k1 ?a2 ?l2 ?c2 ?k2 ?a3 ?l3 ?c3 ?k3 ?a4 ?l4 ?c4 ?k4 ?a5 ?l5 ?c5 ?k5 ?a6 ?l6 ?c6 ?k6 ?a7 ?l7 ?c7 ?k7 ?a8 ?l8 ?c8 ?k8 ?a9 ?l9 ?c9 ?k9 ?a10 ?l10 ?c10 ?k10 ?a11 ?l11 ?c11 ?k11 ?a12 ?l12 ?c12 ?k12 ?a13 ?l13 ?c13 ?k13 ?a14 ?l14 ?c14 ?k14 ?a15 ?l15 ?c15 ?k15 ?a16 ?l16 ?c16 ?k16 ?a17 ?l17 ?c17 ?k17 ?a18 ?l18 ?c18 ?k18 ?a19 ?l19 ?c19 ?k19 ?a20 ?l20 ?c20 ?k20 ?l21 ?c21 ?k21 ?n21 ?l22 ?c22 ?k22 ?n22 ?l23 ?c23 ?k23 ?n23 ?l24 ?c24 ?k24 ?n24 ?l25 ?c25 ?k25 ?n25 ?a26 ?l26 ?c26 ?k26 ?a27 ?l27 ?c27 ?k27 ?a28 ?l28 ?c28 ?k28 ?a29 ?l29 ?c29 ?k29 ?a30 ?l30 ?c30 ?k30 ?a31 ?l31 ?c31 ?k31 ?a32 ?l32 ?c32 ?k32 ?a33 ?l33 ?c33 ?k33 ?a34 ?l34 ?c34 ?k34 ?a35 ?l35 ?c35 ?k35 ?a36 ?l36 ?c36 ?k36 ?a37 ?l37 ?c37 ?k37 ?a38 ?l38 ?c38 ?k38 ?a39 ?l39 ?c39 ?k39 ?a40 ?l40 ?c40 ?k40 ?z_abs ?z_all ?z_bool ?z_enumerate ?z_int ?z_isinstance ?z_len ?z_list ?z_max ?z_min ?z_range ?z_reversed ?z_sorted ?z_str ?z_sum ?z_zip ?z_FIGURES ?z_GREATEST_DEPTH ?z_GREATEST_PRIME ?z_LETTERS ?z_MOST_FIGURES ?z_MOST_LETTERS ?z_MOST_NUMBERS ?kd_WANTED ?gd_WANTED ?kd_MADE ?gd_MADE ?kd_TOLD ?gd_TOLD ?tu_420 ?tu_421 ?tu_422 ?tu_423 ?tu_424 ?tu_425 ?tu_426 ?fa_made_poly ?fa_made_times ?fa_made_seen ?fa_made_slope ?fa_told_show ?z_Desk ?z_NoDepth ?z_NoInverse ?z_NoName ?z_NoParts ?z_NoPrime ?z_NoRow ?z_NoSingle ?z_NoSmall ?z_NoText ?z_RestError ?z_TooDeep ?z_TooGreat ?x_NoName ?x_TooGreat ?m_NoName_RestError ?m_TooGreat_RestError ?f_NoName ?f_TooGreat ?i_NoName_Desk ?i_NoName_NoDepth ?i_NoName_NoInverse ?i_NoName_NoName ?i_NoName_NoParts ?i_NoName_NoPrime ?i_NoName_NoRow ?i_NoName_NoSingle ?i_NoName_NoSmall ?i_NoName_NoText ?i_NoName_RestError ?i_NoName_TooDeep ?i_NoName_TooGreat ?i_TooGreat_Desk ?i_TooGreat_NoDepth ?i_TooGreat_NoInverse ?i_TooGreat_NoName ?i_TooGreat_NoParts ?i_TooGreat_NoPrime ?i_TooGreat_NoRow ?i_TooGreat_NoSingle ?i_TooGreat_NoSmall ?i_TooGreat_NoText ?i_TooGreat_RestError ?i_TooGreat_TooDeep ?i_TooGreat_TooGreat ?cl_Desk ?mk_Desk ?kc_Desk ?na_prime ?na_kept ?a21 ?a22 ?a23 ?a24 ?a25
    (case a1 => k_is)
    (case l1 => k_is)
    (case c1 => k_is)
    (case k1 => k_is)
    (case a2 => k_is)
    (case l2 => k_is)
    (case c2 => k_is)
    (case k2 => k_is)
    (case a3 => k_is)
    (case l3 => k_is)
    (case c3 => k_is)
    (case k3 => k_is)
    (case a4 => k_is)
    (case l4 => k_is)
    (case c4 => k_is)
    (case k4 => k_is)
    (case a5 => k_is)
    (case l5 => k_is)
    (case c5 => k_is)
    (case k5 => k_is)
    (case a6 => k_is)
    (case l6 => k_is)
    (case c6 => k_is)
    (case k6 => k_is)
    (case a7 => k_is)
    (case l7 => k_is)
    (case c7 => k_is)
    (case k7 => k_is)
    (case a8 => k_is)
    (case l8 => k_is)
    (case c8 => k_is)
    (case k8 => k_is)
    (case a9 => k_is)
    (case l9 => k_is)
    (case c9 => k_is)
    (case k9 => k_is)
    (case a10 => k_is)
    (case l10 => k_is)
    (case c10 => k_is)
    (case k10 => k_is)
    (case a11 => k_is)
    (case l11 => k_is)
    (case c11 => k_is)
    (case k11 => k_is)
    (case a12 => k_is)
    (case l12 => k_is)
    (case c12 => k_is)
    (case k12 => k_is)
    (case a13 => k_is)
    (case l13 => k_is)
    (case c13 => k_is)
    (case k13 => k_is)
    (case a14 => k_is)
    (case l14 => k_is)
    (case c14 => k_is)
    (case k14 => k_is)
    (case a15 => k_is)
    (case l15 => k_is)
    (case c15 => k_is)
    (case k15 => k_is)
    (case a16 => k_is)
    (case l16 => k_is)
    (case c16 => k_is)
    (case k16 => k_is)
    (case a17 => k_is)
    (case l17 => k_is)
    (case c17 => k_is)
    (case k17 => k_is)
    (case a18 => k_is)
    (case l18 => k_is)
    (case c18 => k_is)
    (case k18 => k_is)
    (case a19 => k_is)
    (case l19 => k_is)
    (case c19 => k_is)
    (case k19 => k_is)
    (case a20 => k_is)
    (case l20 => k_is)
    (case c20 => k_is)
    (case k20 => k_is)
    (case a26 => k_is)
    (case l26 => k_is)
    (case c26 => k_is)
    (case k26 => k_is)
    (case a27 => k_is)
    (case l27 => k_is)
    (case c27 => k_is)
    (case k27 => k_is)
    (case a28 => k_is)
    (case l28 => k_is)
    (case c28 => k_is)
    (case k28 => k_is)
    (case a29 => k_is)
    (case l29 => k_is)
    (case c29 => k_is)
    (case k29 => k_is)
    (case a30 => k_is)
    (case l30 => k_is)
    (case c30 => k_is)
    (case k30 => k_is)
    (case a31 => k_is)
    (case l31 => k_is)
    (case c31 => k_is)
    (case k31 => k_is)
    (case a32 => k_is)
    (case l32 => k_is)
    (case c32 => k_is)
    (case k32 => k_is)
    (case a33 => k_is)
    (case l33 => k_is)
    (case c33 => k_is)
    (case k33 => k_is)
    (case a34 => k_is)
    (case l34 => k_is)
    (case c34 => k_is)
    (case k34 => k_is)
    (case a35 => k_is)
    (case l35 => k_is)
    (case c35 => k_is)
    (case k35 => k_is)
    (case a36 => k_is)
    (case l36 => k_is)
    (case c36 => k_is)
    (case k36 => k_is)
    (case a37 => k_is)
    (case l37 => k_is)
    (case c37 => k_is)
    (case k37 => k_is)
    (case a38 => k_is)
    (case l38 => k_is)
    (case c38 => k_is)
    (case k38 => k_is)
    (case a39 => k_is)
    (case l39 => k_is)
    (case c39 => k_is)
    (case k39 => k_is)
    (case a40 => k_is)
    (case l40 => k_is)
    (case c40 => k_is)
    (case k40 => k_is)
    (case z_abs => k_is)
    (case z_all => kernel_rfl)
    (case z_bool => k_is)
    (case z_enumerate => k_is)
    (case z_int => k_is)
    (case z_isinstance => k_is)
    (case z_len => k_is)
    (case z_list => k_is)
    (case z_max => k_is)
    (case z_min => k_is)
    (case z_range => k_is)
    (case z_reversed => k_is)
    (case z_sorted => k_is)
    (case z_str => k_is)
    (case z_sum => k_is)
    (case z_zip => k_is)
    (case z_FIGURES => k_is)
    (case z_GREATEST_DEPTH => k_is)
    (case z_GREATEST_PRIME => k_is)
    (case z_LETTERS => k_is)
    (case z_MOST_FIGURES => k_is)
    (case z_MOST_LETTERS => k_is)
    (case z_MOST_NUMBERS => k_is)
    (case z_Desk => k_is)
    (case z_NoDepth => k_is)
    (case z_NoInverse => k_is)
    (case z_NoName => k_is)
    (case z_NoParts => k_is)
    (case z_NoPrime => k_is)
    (case z_NoRow => k_is)
    (case z_NoSingle => k_is)
    (case z_NoSmall => k_is)
    (case z_NoText => k_is)
    (case z_RestError => k_is)
    (case z_TooDeep => k_is)
    (case z_TooGreat => k_is)
    (case x_NoName => show PySem.W.excIn _ _ _ _ = true; kernel_rfl)
    (case x_TooGreat => show PySem.W.excIn _ _ _ _ = true; kernel_rfl)
    (case m_NoName_RestError => kernel_rfl)
    (case m_TooGreat_RestError => kernel_rfl)
    (case f_NoName => exact ⟨by k_is, by k_is, by k_is, by k_is, by k_is, by k_is, by k_is, by k_is⟩)
    (case f_TooGreat => exact ⟨by k_is, by k_is, by k_is, by k_is, by k_is, by k_is, by k_is, by k_is⟩)
    (case i_NoName_Desk => kernel_rfl)
    (case i_NoName_NoDepth => kernel_rfl)
    (case i_NoName_NoInverse => kernel_rfl)
    (case i_NoName_NoName => kernel_rfl)
    (case i_NoName_NoParts => kernel_rfl)
    (case i_NoName_NoPrime => kernel_rfl)
    (case i_NoName_NoRow => kernel_rfl)
    (case i_NoName_NoSingle => kernel_rfl)
    (case i_NoName_NoSmall => kernel_rfl)
    (case i_NoName_NoText => kernel_rfl)
    (case i_NoName_RestError => kernel_rfl)
    (case i_NoName_TooDeep => kernel_rfl)
    (case i_NoName_TooGreat => kernel_rfl)
    (case i_TooGreat_Desk => kernel_rfl)
    (case i_TooGreat_NoDepth => kernel_rfl)
    (case i_TooGreat_NoInverse => kernel_rfl)
    (case i_TooGreat_NoName => kernel_rfl)
    (case i_TooGreat_NoParts => kernel_rfl)
    (case i_TooGreat_NoPrime => kernel_rfl)
    (case i_TooGreat_NoRow => kernel_rfl)
    (case i_TooGreat_NoSingle => kernel_rfl)
    (case i_TooGreat_NoSmall => kernel_rfl)
    (case i_TooGreat_NoText => kernel_rfl)
    (case i_TooGreat_RestError => kernel_rfl)
    (case i_TooGreat_TooDeep => kernel_rfl)
    (case i_TooGreat_TooGreat => kernel_rfl)
    (case kd_WANTED => exact ⟨⟨_, by k_is⟩, by decide, by decide⟩)
    (case gd_WANTED => k_is)
    (case kd_MADE => exact ⟨⟨_, by k_is⟩, by decide, by decide⟩)
    (case gd_MADE => k_is)
    (case kd_TOLD => exact ⟨⟨_, by k_is⟩, by decide, by decide⟩)
    (case gd_TOLD => k_is)
    (case tu_420 => exact ⟨_, _, _, by k_is, rfl, rfl, by decide, .cons ⟨_, rfl⟩ (.cons ⟨_, rfl⟩ (.nil))⟩)
    (case tu_421 => exact ⟨_, _, _, by k_is, rfl, rfl, by decide, .cons ⟨_, rfl⟩ (.cons ⟨_, rfl⟩ (.cons ⟨_, rfl⟩ (.nil)))⟩)
    (case tu_422 => exact ⟨_, _, _, by k_is, rfl, rfl, by decide, .cons ⟨_, rfl⟩ (.cons ⟨_, rfl⟩ (.cons ⟨_, rfl⟩ (.cons ⟨_, rfl⟩ (.nil))))⟩)
    (case tu_423 => exact ⟨_, _, _, by k_is, rfl, rfl, by decide, .cons ⟨_, rfl⟩ (.cons ⟨_, rfl⟩ (.nil))⟩)
    (case tu_424 => exact ⟨_, _, _, by k_is, rfl, rfl, by decide, .cons ⟨_, rfl⟩ (.nil)⟩)
    (case tu_425 => exact ⟨_, _, _, by k_is, rfl, rfl, by decide, .nil⟩)
    (case tu_426 => exact ⟨_, _, _, by k_is, rfl, rfl, by decide, .cons ⟨_, rfl⟩ (.nil)⟩)
    (case fa_made_poly => k_is)
    (case fa_made_times => k_is)
    (case fa_made_seen => k_is)
    (case fa_made_slope => k_is)
    (case fa_told_show => k_is)
    (case cl_Desk => exact ⟨by kernel_rfl, by kernel_rfl, by kernel_rfl, by k_is⟩)
    (case mk_Desk => kernel_rfl)
    (case kc_Desk => k_is)
    (case na_prime => show PySem.W.findIn _ _ _ = some none; kernel_rfl)
    (case na_kept => show PySem.W.findIn _ _ _ = some none; kernel_rfl)
    (case a21 => k_is)
    (case l21 => k_is)
    (case c21 => k_is)
    (case k21 => k_is)
    (case n21 => kernel_rfl)
    (case a22 => k_is)
    (case l22 => k_is)
    (case c22 => k_is)
    (case k22 => k_is)
    (case n22 => kernel_rfl)
    (case a23 => k_is)
    (case l23 => k_is)
    (case c23 => k_is)
    (case k23 => k_is)
    (case n23 => kernel_rfl)
    (case a24 => k_is)
    (case l24 => k_is)
    (case c24 => k_is)
    (case k24 => k_is)
    (case n24 => kernel_rfl)
    (case a25 => k_is)
    (case l25 => k_is)
    (case c25 => k_is)
    (case k25 => k_is)
    (case n25 => kernel_rfl)