import PyProof.Rows.All
import Wide.All
import OpenK.AllK
import Wide.FinOn
import Lean
import PyProof.EqAt
import PyProof.EqKinds
import PyProof.TupleCall
import PySem.Challenge.RW_deeprests_k92_whole_roots_by_text
set_option Elab.async false
set_option linter.all false
set_option maxRecDepth 100000
set_option compiler.extract_closed false
namespace L2
open PySem PySem.Spec PyProof.Rows
abbrev Key := Sum Int Str
def keyIs : Key → Value → Bool
  | .inl k, v => Value.isInt k v
  | .inr x, v => Value.isStrOf x v
def keyH (w : World) : Key → Int
  | .inl k => hashInt k
  | .inr x => hashStr w x
theorem keyIs_shape : ∀ {k : Key} {v : Value}, keyIs k v = true → (∃ i t, k = Sum.inl i ∧ v = Value.int i t) ∨ (∃ x t, k = Sum.inr x ∧ v = Value.str x t)
  | .inl i, v, h => by
    obtain ⟨t, e⟩ := Value.isInt_shape (k := i) (v := v) h
    exact .inl ⟨i, t, rfl, e⟩
  | .inr x, v, h => by
    obtain ⟨t, e⟩ := Value.isStrOf_shape (x := x) (v := v) h
    exact .inr ⟨x, t, rfl, e⟩
theorem keyIs_int (i : Int) (t : Tok) : keyIs (.inl i) (.int i t) = true := by simp [keyIs, Value.isInt]
theorem keyIs_str (x : Str) (t : Tok) : keyIs (.inr x) (.str x t) = true := by simp [keyIs, Value.isStrOf]
theorem key_ll (a b : Int) : decide ((Sum.inl a : Key) = Sum.inl b) = (a == b) := by
  by_cases e : a = b
  · subst e; simp
  · have h : ¬ (Sum.inl a : Key) = Sum.inl b := fun q => e (Sum.inl.inj q)
    rw [decide_eq_false h]
    exact (beq_eq_false_iff_ne.mpr e).symm
theorem key_rr (a b : Str) : decide ((Sum.inr a : Key) = Sum.inr b) = decide (a = b) := by
  by_cases e : a = b
  · subst e; simp
  · have h : ¬ (Sum.inr a : Key) = Sum.inr b := fun q => e (Sum.inr.inj q)
    rw [decide_eq_false h, decide_eq_false e]
theorem key_lr (a : Int) (b : Str) : decide ((Sum.inl a : Key) = Sum.inr b) = false := decide_eq_false (fun q => nomatch q)
theorem key_rl (a : Str) (b : Int) : decide ((Sum.inr a : Key) = Sum.inl b) = false := decide_eq_false (fun q => nomatch q)
def mixKind (prog : Program) (w : World) : PySem.KeyKind prog w Key where
  is := keyIs
  hash := keyH w
  inj := fun v a b ha hb => by
    rcases keyIs_shape ha with ⟨i, t, rfl, rfl⟩ | ⟨x, t, rfl, rfl⟩
    · rcases keyIs_shape hb with ⟨j, u, rfl, e⟩ | ⟨y, u, rfl, e⟩
      · injection e with e1 _; rw [e1]
      · exact nomatch e
    · rcases keyIs_shape hb with ⟨j, u, rfl, e⟩ | ⟨y, u, rfl, e⟩
      · exact nomatch e
      · injection e with e1 _; rw [e1]
  byValue := fun k v h => by
    rcases keyIs_shape h with ⟨i, t, rfl, rfl⟩ | ⟨x, t, rfl, rfl⟩ <;> rfl
  pyHash := fun hv h => by
    rcases keyIs_shape hv with ⟨i, t, rfl, rfl⟩ | ⟨x, t, rfl, rfl⟩
    · exact wpAny_pyHash_int h
    · exact wpAny_pyHash_str h
  eqBool := fun hu hv h => by
    rcases keyIs_shape hu with ⟨i, t, rfl, rfl⟩ | ⟨x, t, rfl, rfl⟩
    · rcases keyIs_shape hv with ⟨j, u, rfl, rfl⟩ | ⟨y, u, rfl, rfl⟩
      · rw [key_ll] at h; exact wpAny_eqBool_int h
      · rw [key_lr] at h; exact SeqAt.EqAt.int_str i t y u _ _ _ _ h
    · rcases keyIs_shape hv with ⟨j, u, rfl, rfl⟩ | ⟨y, u, rfl, rfl⟩
      · rw [key_rl] at h; exact SeqAt.EqAt.str_int x t j u _ _ _ _ h
      · rw [key_rr] at h; exact wpAny_eqBool_str h
  «strs» := fun k x t v h => by
    rcases keyIs_shape h with ⟨i, u, rfl, e⟩ | ⟨y, u, rfl, e⟩
    · exact nomatch e
    · injection e with e1 _
      subst e1
      cases v <;> rfl
theorem mixKind_int (prog : Program) (w : World) (i : Int) (t : Tok) : (mixKind prog w).is (.inl i) (.int i t) = true := keyIs_int i t
theorem mixKind_str (prog : Program) (w : World) (x : Str) (t : Tok) : (mixKind prog w).is (.inr x) (.str x t) = true := keyIs_str x t
end L2
namespace L2
open PySem PySem.Spec PyProof.Rows
inductive V where
  | non | bl (b : Bool) | int (i : Int) | str (x : Str) | byt (b : Array UInt8) | flt (b : UInt64) | ref (a : Addr) | ty (n : String)
  deriving DecidableEq
def RelV : V → Value → Prop
  | .non, u => u = Value.none
  | .bl b, u => u = Value.bool b
  | .int i, u => ∃ t, u = Value.int i t
  | .str x, u => ∃ t, u = Value.str x t
  | .byt b, u => ∃ t, u = Value.bytes b t
  | .flt b, u => ∃ t, u = Value.float b t
  | .ref a, u => u = Value.ref a
  | .ty n, u => u = Value.type n
abbrev Vals : List V → List Value → Prop := Paired RelV
theorem Vals.length {xs : List V} {us : List Value} (r : Vals xs us) : xs.length = us.length := Paired.length r
theorem Vals.get : ∀ {xs : List V} {us : List Value} {i : Nat} {x : V}, Vals xs us → xs[i]? = some x → ∃ u, us[i]? = some u ∧ RelV x u
  | _, _, _, _, .nil, e => by simp at e
  | _, _, 0, _, .cons r _, e => by simp at e; subst e; exact ⟨_, rfl, r⟩
  | _, _, i + 1, x, .cons _ t, e => by
    obtain ⟨u, h1, h2⟩ := Vals.get (i := i) (x := x) t (by simpa using e)
    exact ⟨u, by simpa using h1, h2⟩
theorem Vals.set {x : V} {u : Value} (r : RelV x u) : ∀ {xs : List V} {us : List Value} (i : Nat), Vals xs us → Vals (xs.set i x) (us.set i u)
  | _, _, _, .nil => .nil
  | _, _, 0, .cons _ t => .cons r t
  | _, _, i + 1, .cons q t => .cons q (Vals.set r i t)
theorem Vals.append : ∀ {xs ys : List V} {us ws : List Value}, Vals xs us → Vals ys ws → Vals (xs ++ ys) (us ++ ws)
  | _, _, _, _, .nil, s => s
  | _, _, _, _, .cons r t, s => .cons r (Vals.append t s)
theorem Vals.take : ∀ {xs : List V} {us : List Value} (n : Nat), Vals xs us → Vals (xs.take n) (us.take n)
  | _, _, 0, _ => .nil
  | _, _, _ + 1, .nil => .nil
  | _, _, n + 1, .cons r t => .cons r (Vals.take n t)
theorem Vals.drop : ∀ {xs : List V} {us : List Value} (n : Nat), Vals xs us → Vals (xs.drop n) (us.drop n)
  | _, _, 0, r => r
  | _, _, _ + 1, .nil => .nil
  | _, _, n + 1, .cons _ t => Vals.drop n t
def RelO : Option V → Option Value → Prop
  | some v, some u => RelV v u
  | none, none => True
  | _, _ => False
def KV {κ : Type} : List (κ × V) → List (κ × Value) → Prop := Paired fun (p : κ × V) (q : κ × Value) => p.1 = q.1 ∧ RelV p.2 q.2
def kV : Key → V
  | .inl i => .int i
  | .inr x => .str x
inductive HO where
  | lst (xs : List V)
  | tup (xs : List V)
  | dK (kvs : List (Key × V)) | dT (kvs : List (List Key × V))
  | set (S : Int → Bool) (n : Nat)
  | ins (C dx : Addr) (fs : List (Str × V))
  | own (x : Addr)
  | xd (fs : List (Str × V))
  | met (f x : Addr)
  | rng (lo hi : Int)
  | frz (o : Obj) (u : HO)
  | tbl (ps : Array Value)
  | ext (φ : Heap → Prop)
abbrev Hp := Addr → Option HO
def upd (H : Hp) (a : Addr) (o : HO) : Hp := fun b => if b = a then some o else H b
theorem upd_same {H : Hp} {a : Addr} {o : HO} : upd H a o a = some o := by unfold upd; rw [if_pos rfl]
theorem upd_ne {H : Hp} {a b : Addr} {o : HO} (h : b ≠ a) : upd H a o b = H b := by unfold upd; rw [if_neg h]
theorem ne_of {H : Hp} {a b : Addr} {o u : HO} (h : H a = some o) (h' : H b = some u) (d : o ≠ u) : a ≠ b := by
  intro e; subst e; rw [h] at h'; exact d (Option.some.inj h')
theorem ne_of_none {H : Hp} {a b : Addr} {o : HO} (h : H a = some o) (h' : H b = none) : a ≠ b := by
  intro e; subst e; rw [h] at h'; cases h'
section
variable (P : Program) (w : World)
def ObjOk (H : Hp) (h : Heap) (a : Addr) : HO → Prop
  | .lst xs => xs.length ≤ sizeLine ∧ ∃ (its : List Value) (n : Nat), Vals xs its ∧ h.get? a = some { cls := .type "list", data := .seq its.toArray n }
  | .tup xs => xs.length ≤ sizeLine ∧ ∃ its : List Value, Vals xs its ∧ IsTup h a its.toArray
  | .dK kvs => kvs.length ≤ sizeLine ∧ (a == sysModules) = false ∧ ∃ vs, KV kvs vs ∧ h.DictOf (mixKind P w) a vs
  | .dT kvs => kvs.length ≤ sizeLine ∧ (a == sysModules) = false ∧ ∃ xs : List (List Key × Addr × Value),
      Paired (fun (p : List Key × V) (q : List Key × Addr × Value) => p.1 = q.1 ∧ H q.2.1 = some (.tup (p.1.map kV)) ∧ RelV p.2 q.2.2) kvs xs ∧
      ∃ o es ep, h.get? a = some o ∧ o.ExactDict ∧ o.data = .dict es ep ∧ es.toList = xs.map (entryOfKey (tupleKind (mixKind P w))) ∧ (xs.map (·.1)).Nodup
  | .set S n => h.SetOf (intKind P w) a S n
  | .ins C dx fs => H dx = some (.own a) ∧ fs.length ≤ 1000 ∧ dx ≠ a ∧ h.get? a = some (PySem.W.instObj C dx) ∧
      ∃ mA, h.Ns1 dx mA ∧ (∀ f, RelO (fs.lookup f) (mA f)) ∧ PySem.Within mA (fs.map (·.1))
  | .own _ => ∃ o, h.get? a = some o
  | .xd fs => ∃ mA, h.Ns1 a mA ∧ ∀ f, RelO (fs.lookup f) (mA f)
  | .rng lo hi => ∃ t u v, h.get? a = some { cls := .type "range", data := .fields #[.int lo t, .int hi u, .int 1 v] }
  | .frz o u => h.get? a = some o ∧ ObjOk H h a u
  | .tbl ps => h.get? a = some { cls := .none, data := .fields ps }
  | .met f x => h.get? a = some (PySem.W.methodObj (.ref f) (.ref x))
  | .ext φ => φ h ∧ (∃ o, h.get? a = some o) ∧ ∀ h1 h2 : Heap, φ h1 → (∀ o, h1.get? a = some o → h2.get? a = some o) → φ h2
def HOk (H : Hp) (h : Heap) : Prop := ∀ a o, H a = some o → ObjOk P w H h a o
end
section
variable {P : Program} {w : World} {H H' : Hp} {h h' : Heap} {a : Addr} {o : HO}
theorem ObjOk.lt (x : ObjOk P w H h a o) : a < h.objs.size := by
  cases o with
  | lst xs => obtain ⟨_, _, _, _, e⟩ := x; exact Heap.lt_size e
  | tup xs => obtain ⟨_, _, _, p⟩ := x; exact p.lt
  | dK kvs => obtain ⟨_, _, _, _, o, _, _, e, _⟩ := x; exact Heap.lt_size e
  | dT kvs => obtain ⟨_, _, _, _, o, _, _, e, _⟩ := x; exact Heap.lt_size e
  | set S n => obtain ⟨o, _, _, _, e, _⟩ := x; exact Heap.lt_size e
  | ins C dx fs => obtain ⟨_, _, _, e, _⟩ := x; exact Heap.lt_size e
  | own y => obtain ⟨_, e⟩ := x; exact Heap.lt_size e
  | xd fs => obtain ⟨_, ⟨_, _, _, e, _⟩, _⟩ := x; exact Heap.lt_size e
  | rng lo hi => obtain ⟨_, _, _, e⟩ := x; exact Heap.lt_size e
  | frz ob u => obtain ⟨e, _⟩ := x; exact Heap.lt_size e
  | tbl ps => exact Heap.lt_size (show h.get? a = some _ from x)
  | met f y => exact Heap.lt_size (show h.get? a = some _ from x)
  | ext φ => obtain ⟨_, ⟨_, e⟩, _⟩ := x; exact Heap.lt_size e
theorem Paired.mapP {α β : Type} {F G : α → β → Prop} : ∀ {l₁ : List α} {l₂ : List β}, Paired F l₁ l₂ → (∀ a b, F a b → G a b) → Paired G l₁ l₂
  | _, _, .nil, _ => .nil
  | _, _, .cons r t, f => .cons (f _ _ r) (Paired.mapP t f)
theorem ObjOk.stay (x : ObjOk P w H h a o) (k : ∀ b u, (b = a ∨ H b = some (.own a)) → h.get? b = some u → h'.get? b = some u)
    (ho : ∀ b, H b = some (.own a) → H' b = some (.own a)) (ht : ∀ b xs, H b = some (.tup xs) → H' b = some (.tup xs)) : ObjOk P w H' h' a o := by
  induction o with
  | lst xs => obtain ⟨z, its, n, r, e⟩ := x; exact ⟨z, its, n, r, k _ _ (.inl rfl) e⟩
  | tup xs => obtain ⟨z, its, r, ob, e, c⟩ := x; exact ⟨z, its, r, ob, k _ _ (.inl rfl) e, c⟩
  | dK kvs => obtain ⟨z, y, vs, r, ob, es, ep, e, c⟩ := x; exact ⟨z, y, vs, r, ob, es, ep, k _ _ (.inl rfl) e, c⟩
  | dT kvs =>
    obtain ⟨z, y, xs, r, ob, es, ep, e, c⟩ := x
    exact ⟨z, y, xs, Paired.mapP r fun p q z => ⟨z.1, ht _ _ z.2.1, z.2.2⟩, ob, es, ep, k _ _ (.inl rfl) e, c⟩
  | set S n => obtain ⟨ob, es, ep, t, e, c⟩ := x; exact ⟨ob, es, ep, t, k _ _ (.inl rfl) e, c⟩
  | ins C dx fs =>
    obtain ⟨d, z, ne, e, mA, ⟨od, es, ep, e2, c⟩, r⟩ := x
    exact ⟨ho _ d, z, ne, k _ _ (.inl rfl) e, mA, ⟨od, es, ep, k _ _ (.inr d) e2, c⟩, r⟩
  | own y => obtain ⟨ob, e⟩ := x; exact ⟨ob, k _ _ (.inl rfl) e⟩
  | xd fs => obtain ⟨mA, ⟨od, es, ep, e, c⟩, r⟩ := x; exact ⟨mA, ⟨od, es, ep, k _ _ (.inl rfl) e, c⟩, r⟩
  | rng lo hi => obtain ⟨t, u, v, e⟩ := x; exact ⟨t, u, v, k _ _ (.inl rfl) e⟩
  | frz ob u ih => obtain ⟨e, q⟩ := x; exact ⟨k _ _ (.inl rfl) e, ih q⟩
  | tbl ps =>
    have e : h.get? a = some { cls := .none, data := .fields ps } := x
    show h'.get? a = some { cls := .none, data := .fields ps }
    exact k a _ (.inl rfl) e
  | met f y =>
    have e : h.get? a = some (PySem.W.methodObj (.ref f) (.ref y)) := x
    show h'.get? a = some (PySem.W.methodObj (.ref f) (.ref y))
    exact k a _ (.inl rfl) e
  | ext φ => obtain ⟨p, ⟨o, e⟩, st⟩ := x; exact ⟨st _ _ p fun o q => k _ _ (.inl rfl) q, ⟨o, k _ _ (.inl rfl) e⟩, st⟩
theorem HOk.lt (x : HOk P w H h) (e : H a = some o) : a < h.objs.size := (x a o e).lt
theorem HOk.fresh (x : HOk P w H h) (e : h.objs.size ≤ a) : H a = none := by
  cases q : H a with
  | none => rfl
  | some u => exact absurd (Nat.lt_of_lt_of_le (x.lt q) e) (Nat.lt_irrefl _)
theorem HOk.kept (x : HOk P w H h) (k : ∀ b u, h.get? b = some u → h'.get? b = some u) : HOk P w H h' := fun a o e =>
  (x a o e).stay (fun b u _ q => k b u q) (fun _ q => q) fun _ _ q => q
theorem HOk.laid (x : HOk P w H h) (k : ∀ b u, h.get? b = some u → h'.get? b = some u) (hp : h.objs.size ≤ a) (new : ObjOk P w (upd H a o) h' a o) : HOk P w (upd H a o) h' := fun b u e => by
  have hn := x.fresh hp
  by_cases hb : b = a
  · subst hb; rw [upd_same] at e; cases e; exact new
  · rw [upd_ne hb] at e
    exact (x b u e).stay (fun c v _ q => k c v q) (fun c q => by rw [upd_ne (ne_of_none q hn)]; exact q) fun c xs q => by rw [upd_ne (ne_of_none q hn)]; exact q
end
def Rd (H : Hp) (a : Addr) (u : HO) : Prop := H a = some u ∨ ∃ o, H a = some (.frz o u)
theorem Rd.ok {P : Program} {w : World} {H : Hp} {h : Heap} {a : Addr} {u : HO} (r : Rd H a u) (x : HOk P w H h) : ObjOk P w H h a u := by
  rcases r with r | ⟨o, r⟩
  · exact x a u r
  · obtain ⟨_, q⟩ := x a _ r
    exact q
def Mut : Option HO → Prop
  | some (.lst _) => True
  | some (.dK _) => True
  | some (.dT _) => True
  | some (.set _ _) => True
  | some (.ins _ _ _) => True
  | some (.ext _) => True
  | _ => False
section
variable {P : Program} {w : World} {H : Hp} {h h' : Heap} {x e : Addr} {o' : HO}
theorem HOk.write (ok : HOk P w H h) (mu : Mut (H x)) (he : e = x ∨ H e = some (.own x)) (k : ∀ b u, b ≠ e → h.get? b = some u → h'.get? b = some u) (heo : ∃ u, h'.get? e = some u)
    (new : ObjOk P w (upd H x o') h' x o') : HOk P w (upd H x o') h' := fun b u q => by
  have nown : ∀ c y, H c = some (.own y) → c ≠ x := fun c y r z => by subst z; rw [r] at mu; exact mu
  have ntup : ∀ c xs, H c = some (.tup xs) → c ≠ x := fun c xs r z => by subst z; rw [r] at mu; exact mu
  by_cases hb : b = x
  · subst hb; rw [upd_same] at q; cases q; exact new
  · rw [upd_ne hb] at q
    by_cases hbe : b = e
    · have q' : H b = some (.own x) := by
        rcases he with z | z
        · exact absurd (hbe.trans z) hb
        · rw [hbe]; exact z
      rw [q] at q'; cases q'
      obtain ⟨v, hv⟩ := heo
      exact ⟨v, by rw [hbe]; exact hv⟩
    · refine (ok b u q).stay (fun c v hc r => k c v ?_ r) (fun c r => by rw [upd_ne (nown c b r)]; exact r) fun c xs r => by rw [upd_ne (ntup c xs r)]; exact r
      rcases hc with rfl | hc
      · exact hbe
      · rintro rfl
        rcases he with z | z
        · exact nown c b hc z
        · rw [hc] at z; cases z; exact hb rfl
end
structure Un (fs ex : List Addr) (H H' : Hp) (h h' : Heap) : Prop where
  keep : ∀ b o, h.get? b = some o → H b = none → b ∉ fs → b ∉ ex → h'.get? b = some o
  slot : ∀ b o, h.get? b = some o → H b = none → b ∈ fs → b ∉ ex → ∃ sl, h'.get? b = some { o with slots := sl }
  free : ∀ b o, h.get? b = some o → H b = none → b ∉ ex → H' b = none
  there : ∀ b o, h.get? b = some o → b ∉ ex → ∃ o', h'.get? b = some o'
  tups : ∀ b xs, H b = some (.tup xs) → H' b = some (.tup xs)
  frzs : ∀ b o u, H b = some (.frz o u) → H' b = some (.frz o u)
  tbls : ∀ b ps, H b = some (.tbl ps) → ∃ more, H' b = some (.tbl (ps ++ more))
section
variable {fs fs' ex ex' : List Addr} {H H1 H2 : Hp} {h h1 h2 h' : Heap} {a x e : Addr} {o : HO}
theorem Un.any (u : Un fs ex H H1 h h1) {b : Addr} {ob : Obj} (q : h.get? b = some ob) (n : H b = none) (hx : b ∉ ex) : ∃ sl, h1.get? b = some { ob with slots := sl } := by
  by_cases hb : b ∈ fs
  · exact u.slot b ob q n hb hx
  · exact ⟨ob.slots, u.keep b ob q n hb hx⟩
theorem Un.kept (k : ∀ b u, h.get? b = some u → h'.get? b = some u) : Un fs ex H H h h' :=
  ⟨fun b ob q _ _ _ => k b ob q, fun b ob q _ _ _ => ⟨ob.slots, k b ob q⟩, fun _ _ _ n _ => n, fun b ob q _ => ⟨ob, k b ob q⟩, fun _ _ q => q, fun _ _ _ q => q, fun _ ps q => ⟨#[], by rw [q]; simp⟩⟩
theorem Un.refl : Un fs ex H H h h := Un.kept fun _ _ q => q
theorem Un.laid (k : ∀ b u, h.get? b = some u → h'.get? b = some u) (hp : h.objs.size ≤ a) (hn : H a = none) : Un fs ex H (upd H a o) h h' where
  keep := fun b u q _ _ _ => k b u q
  slot := fun b u q _ _ _ => ⟨u.slots, k b u q⟩
  free := fun b u q n _ => by rw [upd_ne (Nat.ne_of_lt (Nat.lt_of_lt_of_le (Heap.lt_size q) hp))]; exact n
  there := fun b u q _ => ⟨u, k b u q⟩
  tups := fun b xs q => by rw [upd_ne (ne_of_none q hn)]; exact q
  frzs := fun b u xs q => by rw [upd_ne (ne_of_none q hn)]; exact q
  tbls := fun b ps q => ⟨#[], by rw [upd_ne (ne_of_none q hn), q]; simp⟩
theorem Un.write (mu : Mut (H x)) (he : e = x ∨ H e = some (.own x)) (k : ∀ b u, b ≠ e → h.get? b = some u → h'.get? b = some u) (heo : ∃ u, h'.get? e = some u) : Un fs ex H (upd H x o) h h' := by
  have hx : ∀ b, H b = none → b ≠ x := fun b n z => by subst z; rw [n] at mu; exact mu
  have hb : ∀ b, H b = none → b ≠ e := fun b n z => by
    subst z
    rcases he with r | r
    · exact hx b n r
    · rw [n] at r; cases r
  have hm : ∀ b u, H b = some u → ¬ Mut (some u) → b ≠ x := fun b u q nm z => by subst z; rw [q] at mu; exact nm mu
  refine ⟨fun b u q n _ _ => k b u (hb b n) q, fun b u q n _ _ => ⟨u.slots, k b u (hb b n) q⟩, fun b u q n _ => by rw [upd_ne (hx b n)]; exact n, fun b u q _ => ?_,
    fun b xs q => by rw [upd_ne (hm b _ q fun z => z)]; exact q, fun b u xs q => by rw [upd_ne (hm b _ q fun z => z)]; exact q, fun b ps q => ⟨#[], by rw [upd_ne (hm b _ q fun z => z), q]; simp⟩⟩
  by_cases hbe : b = e
  · subst hbe; exact heo
  · exact ⟨u, k b u hbe q⟩
end
def trk (h : Heap) (H : Hp) : List Addr := (List.range h.objs.size).filter fun a => (H a).isSome
def hidT (h : Heap) (H : Hp) : Heap := PySem.W.hideAll h (trk h H)
theorem hidT_size (h : Heap) (H : Hp) : (hidT h H).objs.size = h.objs.size := PySem.W.hideAll_size _ _
theorem hidT_get {h : Heap} {H : Hp} {b : Addr} {o : Obj} (e : h.get? b = some o) (n : H b = none) : (hidT h H).get? b = some o :=
  PySem.W.hideAll_get _ e fun hm => by
    have q : (H b).isSome = true := (List.mem_filter.mp hm).2
    rw [n] at q; simp at q
theorem of_hidT {h : Heap} {H : Hp} {b : Addr} {o : Obj} (e : (hidT h H).get? b = some o) : h.get? b = some o ∧ H b = none := by
  have e' : h.get? b = some o := PySem.W.of_hideAll (trk h H) e
  refine ⟨e', ?_⟩
  cases q : H b with
  | none => rfl
  | some x =>
    have hm : b ∈ trk h H := List.mem_filter.mpr ⟨List.mem_range.mpr (Heap.lt_size e'), by simp [q]⟩
    have z : (hidT h H).get? b = none := PySem.W.hideAll_none (trk h H) hm
    rw [z] at e; cases e
def allNews (g h : Heap) (L : Addr) : List (Addr × Obj) := (List.range h.objs.size).filterMap fun a => if a = L ∨ (g.get? a).isSome = true then none else (h.get? a).map fun o => (a, o)
def rest (g h : Heap) (L d : Addr) : List (Addr × Obj) := (allNews g h L).filter fun p => decide (p.1 ≠ d)
end L2
namespace L2
open PySem PySem.Spec PyProof.Rows
structure Mod (K : PySem.W.Frag) (mg : Str → Option Value) (base : Heap) : Prop where
  kin : K.In base
  glob : base.Ns mainGlobals mg
  blt : ∃ mb, base.Ns builtinsNs mb ∧ ∀ x : Str, x ≠ "__name__" → mb x = bootBuiltins x
  nolimit : base.NoLimit
/-- the context: a def's body (or a comprehension's block) running. base: fixed through the whole law; s₀, H₀: the entry; outer: the frames whose slots others may change (a def's callers); stack: all frames that run;
   ex: iterators that were made ahead of the entry and are walked here (a comprehension's); fn: the names whose cells were made at the entry (a def: all; a comprehension's block: its own); calm: not within an except suite; pn: pins that every state bears; xe: what is wanted of an exception that leaves the code -/
structure Cx where
  prog : Program
  w : World
  K : PySem.W.Frag
  mg : Str → Option Value
  base : Heap
  A : Around
  N : List Str
  s₀ : Shared
  H₀ : Hp
  env : Env
  outer : List Env
  stack : List Env
  ex : List Addr
  fn : Str → Bool
  calm : Bool
  pn : List (Addr × Obj)
  xe : Value → Shared → Prop
def frs (l : List Env) : List Addr := l.filterMap (·.frame)
abbrev Cx.fs (X : Cx) : List Addr := frs X.outer
def Vis (sc : Scope) (x : Str) : Prop := sc.names.lookup x = some .local ∨ sc.names.lookup x = some .cell ∨ sc.names.lookup x = some .free
def Loc (sc : Scope) (x : Str) : Prop := sc.names.lookup x = some .local ∨ sc.names.lookup x = some .cell
def Look (env : Env) (h : Heap) (m : Str → Option Value) (x : Str) (u : Value) : Prop :=
  (env.kindOf x = some .local ∧ m x = some u) ∨ ((env.kindOf x = some .cell ∨ env.kindOf x = some .free) ∧ ∃ c, env.cells.lookup x = some c ∧ h.IsCell c (some u))
structure Cx.Ok (X : Cx) : Prop where
  mod : Mod X.K X.mg X.base
  kind : X.env.scope.kind = .function
  glob : X.env.globals = mainGlobals
  blt : X.env.builtins = builtinsNs
  above : X.s₀.heap.objs.size ≤ X.env.locals
  inj : ∀ x y c, X.env.cells.lookup x = some c → X.env.cells.lookup y = some c → x = y
  has : ∀ x, (X.env.kindOf x = some .cell ∨ X.env.kindOf x = some .free) → ∃ c, X.env.cells.lookup x = some c
  cab : ∀ x c, X.fn x = true → X.env.cells.lookup x = some c → X.s₀.heap.objs.size ≤ c
  hd : X.calm = true → X.A.handled = none
  frames : X.A.frames = some X.stack
  stk : X.stack = X.outer ∨ (X.stack = X.env :: X.outer ∧ X.env.frame = some X.env.locals)
  exf : ∀ b ∈ X.ex, b ≠ X.env.locals ∧ ∀ x c, X.env.cells.lookup x = some c → c ≠ b
  bs : ∀ b o, X.base.get? b = some o → X.s₀.heap.get? b = some o ∧ X.H₀ b = none
  bsz : X.base.objs.size ≤ X.s₀.heap.objs.size
  noex : ∀ b o, X.base.get? b = some o → b ∉ X.ex
  exfs : ∀ b ∈ X.ex, b ∉ X.fs
  funs : X.s₀.heap.FunFrames X.base X.outer
  frf : ∀ b ∈ X.fs, X.H₀ b = none
structure Inv (X : Cx) (pins : List (Addr × Obj)) (σ : List (Option V)) (H : Hp) (s : Shared) : Prop where
  ok : X.Ok
  os : s.os = X.s₀.os
  bare : AllBare s.gens
  base : Un X.fs X.ex X.H₀ H X.s₀.heap s.heap
  loc : ∃ m, s.heap.Ns X.env.locals m ∧ ∀ (i : Nat) (x : Str) (v : V), X.N[i]? = some x → σ[i]? = some (some v) → Vis X.env.scope x → ∃ u, RelV v u ∧ Look X.env s.heap m x u
  cell : ∀ x c, X.env.cells.lookup x = some c → ∃ v, s.heap.IsCell c v
  free : H X.env.locals = none
  freeC : ∀ x c, X.env.cells.lookup x = some c → H c = none
  pin : ∀ p ∈ X.pn ++ pins, s.heap.get? p.1 = some p.2 ∧ H p.1 = none ∧ p.1 ≠ X.env.locals ∧ p.1 ∉ X.fs ∧ ∀ v, p.2.data ≠ .cell v
  hok : HOk X.prog X.w H s.heap
  len : σ.length = X.N.length
section
variable {X : Cx} {pins : List (Addr × Obj)} {σ : List (Option V)} {H H' : Hp} {s : Shared} {h' : Heap}
theorem Cx.Ok.nofr (ok : X.Ok) {b : Addr} {o : Obj} (e : X.base.get? b = some o) : b ∉ X.fs := fun hb => by
  have := (ok.funs.mem hb).1
  rw [e] at this; cases this
theorem Inv.bs (I : Inv X pins σ H s) : ∀ b o, X.base.get? b = some o → s.heap.get? b = some o ∧ H b = none := fun b o e =>
  ⟨I.base.keep b o (I.ok.bs b o e).1 (I.ok.bs b o e).2 (I.ok.nofr e) (I.ok.noex b o e), I.base.free b o (I.ok.bs b o e).1 (I.ok.bs b o e).2 (I.ok.noex b o e)⟩
theorem Inv.bk (I : Inv X pins σ H s) : ∀ b o, X.base.get? b = some o → s.heap.get? b = some o := fun b o e => (I.bs b o e).1
theorem Inv.mod (I : Inv X pins σ H s) : Mod X.K X.mg X.base := I.ok.mod
theorem Inv.kIn (I : Inv X pins σ H s) : X.K.In s.heap := I.ok.mod.kin.keeps I.bk
theorem Inv.lt (I : Inv X pins σ H s) : X.env.locals < s.heap.objs.size := let ⟨_, hn, _⟩ := I.loc; hn.lt
theorem Inv.sz (I : Inv X pins σ H s) : X.s₀.heap.objs.size ≤ s.heap.objs.size := Nat.le_trans I.ok.above (Nat.le_of_lt I.lt)
theorem Inv.nofs (I : Inv X pins σ H s) {a : Addr} (h : s.heap.objs.size ≤ a) : a ∉ X.fs := fun hb => by
  obtain ⟨_, o, ho, _⟩ := I.ok.funs.mem hb
  exact absurd (Nat.lt_of_lt_of_le (Heap.lt_size ho) (Nat.le_trans I.sz h)) (Nat.lt_irrefl _)
theorem Inv.cne (I : Inv X pins σ H s) : ∀ x c, X.env.cells.lookup x = some c → c ≠ X.env.locals := fun x c e z => by
  obtain ⟨v, o, ho, hd⟩ := I.cell x c e
  obtain ⟨m, ⟨o', es, ep, ho', hd', _⟩, _⟩ := I.loc
  rw [z, ho'] at ho; cases ho; rw [hd'] at hd; cases hd
theorem Inv.funs (I : Inv X pins σ H s) : s.heap.FunFrames X.base X.outer := by
  have all : ∀ (l : List Env), (∀ b ∈ frs l, b ∈ X.fs) → X.s₀.heap.FunFrames X.base l → s.heap.FunFrames X.base l := by
    intro l
    induction l with
    | nil => intro _ _; trivial
    | cons env r ih =>
      intro hs hl
      obtain ⟨hk, ⟨L, o, hf, hn, ho, hd⟩, hr⟩ := hl
      have hL : L ∈ X.fs := hs L (by unfold frs; rw [List.filterMap_cons, hf]; exact List.mem_cons_self)
      obtain ⟨sl, e⟩ := I.base.slot L o ho (I.ok.frf L hL) hL fun z => I.ok.exfs L z hL
      exact ⟨hk, ⟨L, _, hf, hn, e, hd⟩, ih (fun b hb => hs b (by unfold frs; rw [List.filterMap_cons, hf]; exact List.mem_cons_of_mem _ hb)) hr⟩
  exact all X.outer (fun _ hb => hb) I.ok.funs
theorem Inv.stack (I : Inv X pins σ H s) : s.heap.FunFrames X.base X.stack := by
  rcases I.ok.stk with e | ⟨e, hf⟩
  · rw [e]; exact I.funs
  · rw [e]
    obtain ⟨m, hn, _⟩ := I.loc
    refine .cons (by rw [I.ok.kind]; decide) hf hn ?_ I.funs
    exact Heap.get?_none_of_le (Nat.le_trans I.ok.bsz I.ok.above)
theorem Inv.stkSub (I : Inv X pins σ H s) : ∀ b ∈ frs X.stack, b ∈ X.env.locals :: X.fs := fun b hb => by
  rcases I.ok.stk with e | ⟨e, hf⟩
  · rw [e] at hb; exact List.mem_cons_of_mem _ hb
  · rw [e] at hb
    unfold frs at hb
    rw [List.filterMap_cons, hf] at hb
    exact hb
theorem Inv.stkFree (I : Inv X pins σ H s) : ∀ b ∈ frs X.stack, H b = none := fun b hb => by
  rcases List.mem_cons.mp (I.stkSub b hb) with e | hb
  · rw [e]; exact I.free
  · obtain ⟨_, o, ho, _⟩ := I.ok.funs.mem hb
    exact I.base.free b o ho (I.ok.frf b hb) fun z => I.ok.exfs b z hb
theorem Inv.step {g' : Array GenState} {t' : Nat} {d' : Drawn} {ch : List Addr} (I : Inv X pins σ H s)
    (hch : ∀ b ∈ ch, (b ∈ X.ex ∨ X.s₀.heap.objs.size ≤ b) ∧ b ≠ X.env.locals ∧ (∀ x c, X.env.cells.lookup x = some c → c ≠ b) ∧ ∀ p ∈ X.pn ++ pins, p.1 ≠ b)
    (keep : ∀ b o, b ≠ X.env.locals → b ∉ X.fs → b ∉ ch → s.heap.get? b = some o → H b = none → h'.get? b = some o)
    (slot : ∀ b o, b ≠ X.env.locals → b ∈ X.fs → b ∉ ch → s.heap.get? b = some o → H b = none → ∃ sl, h'.get? b = some { o with slots := sl }) (free : ∀ b o, b ∉ ch → s.heap.get? b = some o → H b = none → H' b = none)
    (there : ∀ b o, b ∉ ch → s.heap.get? b = some o → ∃ o', h'.get? b = some o')
    (tups : ∀ b xs, H b = some (.tup xs) → H' b = some (.tup xs)) (frzs : ∀ b o u, H b = some (.frz o u) → H' b = some (.frz o u)) (tbls : ∀ b ps, H b = some (.tbl ps) → ∃ more, H' b = some (.tbl (ps ++ more)))
    (ns : ∀ m, s.heap.Ns X.env.locals m → h'.Ns X.env.locals m) (hok : HOk X.prog X.w H' h') (hg : AllBare g') :
    Inv X pins σ H' { s with heap := h', gens := g', drawn := d', toks := t' } := by
  have neL : ∀ b o, X.s₀.heap.get? b = some o → b ≠ X.env.locals := fun b o e => Nat.ne_of_lt (Nat.lt_of_lt_of_le (Heap.lt_size e) I.ok.above)
  have neC : ∀ b o, X.s₀.heap.get? b = some o → b ∉ X.ex → b ∉ ch := fun b o e hx hb => by
    rcases (hch b hb).1 with z | z
    · exact hx z
    · exact absurd (Nat.lt_of_lt_of_le (Heap.lt_size e) z) (Nat.lt_irrefl _)
  have cellK : ∀ x c, X.env.cells.lookup x = some c → ∀ v, s.heap.IsCell c v → h'.IsCell c v := fun x c e v ⟨o, ho, hd⟩ => by
    have nch : c ∉ ch := fun z => (hch c z).2.2.1 x c e rfl
    by_cases hc : c ∈ X.fs
    · obtain ⟨sl, q⟩ := slot c o (I.cne x c e) hc nch ho (I.freeC x c e)
      exact ⟨_, q, hd⟩
    · exact ⟨o, keep c o (I.cne x c e) hc nch ho (I.freeC x c e), hd⟩
  refine ⟨I.ok, I.os, hg, ⟨fun b o e n hb hx => ?_, fun b o e n hb hx => ?_, fun b o e n hx => ?_, fun b o e hx => ?_, fun b xs e => tups b xs (I.base.tups b xs e), fun b o xs e => frzs b o xs (I.base.frzs b o xs e), fun b ps e => ?_⟩, ?_, fun x c e => ?_, ?_, fun x c e => ?_, fun p hp => ?_, hok, I.len⟩
  · exact keep b o (neL b o e) hb (neC b o e hx) (I.base.keep b o e n hb hx) (I.base.free b o e n hx)
  · obtain ⟨sl, e1⟩ := I.base.slot b o e n hb hx
    obtain ⟨sl', e2⟩ := slot b _ (neL b o e) hb (neC b o e hx) e1 (I.base.free b o e n hx)
    exact ⟨sl', e2⟩
  · obtain ⟨o', e1⟩ := I.base.there b o e hx
    exact free b o' (neC b o e hx) e1 (I.base.free b o e n hx)
  · obtain ⟨o', e1⟩ := I.base.there b o e hx
    exact there b o' (neC b o e hx) e1
  · obtain ⟨m1, e1⟩ := I.base.tbls b ps e
    obtain ⟨m2, e2⟩ := tbls b _ e1
    exact ⟨m1 ++ m2, by rw [e2, Array.append_assoc]⟩
  · obtain ⟨m, hn, hl⟩ := I.loc
    refine ⟨m, ns m hn, fun i x v e1 e2 e3 => ?_⟩
    obtain ⟨u, r, l⟩ := hl i x v e1 e2 e3
    refine ⟨u, r, ?_⟩
    rcases l with l | ⟨k, c, e, z⟩
    · exact .inl l
    · exact .inr ⟨k, c, e, cellK x c e _ z⟩
  · obtain ⟨v, z⟩ := I.cell x c e
    exact ⟨v, cellK x c e v z⟩
  · obtain ⟨m, ⟨o, _, _, ho, _⟩, _⟩ := I.loc
    exact free _ o (fun z => (hch _ z).2.1 rfl) ho I.free
  · obtain ⟨v, o, ho, hd⟩ := I.cell x c e
    exact free c o (fun z => (hch c z).2.2.1 x c e rfl) ho (I.freeC x c e)
  · obtain ⟨e, n, ne, nf, d⟩ := I.pin p hp
    have nch : p.1 ∉ ch := fun z => (hch p.1 z).2.2.2 p hp rfl
    exact ⟨keep p.1 p.2 ne nf nch e n, free p.1 p.2 nch e n, ne, nf, d⟩
theorem Inv.un {t' : Nat} (I : Inv X pins σ H s) (u : Un X.fs [] H H' s.heap h') (hok : HOk X.prog X.w H' h') : Inv X pins σ H' { s with heap := h', toks := t' } := by
  obtain ⟨m, ⟨o, es, ep, ho, r⟩, _⟩ := id I.loc
  obtain ⟨sl, hL⟩ := u.any ho I.free (by simp)
  exact I.step (g' := s.gens) (d' := s.drawn) (ch := []) (fun _ z => nomatch z) (fun b o _ hb _ e n => u.keep b o e n hb (by simp)) (fun b o _ hb _ e n => u.slot b o e n hb (by simp)) (fun b o _ e n => u.free b o e n (by simp)) (fun b o _ e => u.there b o e (by simp)) u.tups u.frzs u.tbls (fun m' hm => by
    obtain ⟨o', es', ep', ho', r'⟩ := hm
    rw [ho] at ho'; cases ho'
    exact ⟨_, es', ep', hL, r'⟩) hok I.bare
theorem Inv.call {g' : Array GenState} {t' : Nat} {d' : Drawn} {ch : List Addr} (I : Inv X pins σ H s) (u : Un (frs X.stack) ch H H' s.heap h') (hok : HOk X.prog X.w H' h') (hg : AllBare g')
    (hch : ∀ b ∈ ch, (b ∈ X.ex ∨ X.s₀.heap.objs.size ≤ b) ∧ b ≠ X.env.locals ∧ (∀ x c, X.env.cells.lookup x = some c → c ≠ b) ∧ ∀ p ∈ X.pn ++ pins, p.1 ≠ b) :
    Inv X pins σ H' { s with heap := h', gens := g', drawn := d', toks := t' } := by
  obtain ⟨m, ⟨o, es, ep, ho, r⟩, _⟩ := id I.loc
  obtain ⟨sl, hL⟩ := u.any ho I.free fun z => (hch _ z).2.1 rfl
  exact I.step (ch := ch) hch (fun b o hL hb hc e n => u.keep b o e n (fun z => (List.mem_cons.mp (I.stkSub b z)).elim hL hb) hc) (fun b o _ _ hc e n => u.any e n hc) (fun b o hc e n => u.free b o e n hc) (fun b o hc e => u.there b o e hc) u.tups u.frzs u.tbls (fun m' hm => by
    obtain ⟨o', es', ep', ho', r'⟩ := hm
    rw [ho] at ho'; cases ho'
    exact ⟨_, es', ep', hL, r'⟩) hok hg
theorem Inv.turned {t' : Nat} {it : Addr} (I : Inv X pins σ H s) (k : ∀ b o, b ≠ it → s.heap.get? b = some o → h'.get? b = some o) (hn : H it = none) (hL : it ≠ X.env.locals)
    (h1 : it ∈ X.ex ∨ X.s₀.heap.objs.size ≤ it) (h2 : ∀ x c, X.env.cells.lookup x = some c → c ≠ it) (h3 : ∀ p ∈ X.pn ++ pins, p.1 ≠ it) : Inv X pins σ H { s with heap := h', toks := t' } := by
  have nit : ∀ b u, H b = some u → b ≠ it := fun b u e z => by rw [z, hn] at e; cases e
  refine I.step (g' := s.gens) (d' := s.drawn) (ch := [it]) (fun b hb => ?_) (fun b o _ _ hc e _ => k b o (fun z => hc (by simp [z])) e) (fun b o _ _ hc e _ => ⟨o.slots, k b o (fun z => hc (by simp [z])) e⟩) (fun _ _ _ _ n => n)
    (fun b o hc e => ⟨o, k b o (fun z => hc (by simp [z])) e⟩) (fun _ _ e => e) (fun _ _ _ e => e) (fun b ps e => ⟨#[], by rw [e]; simp⟩) (fun m hm => ?_) (fun b u e => ?_) I.bare
  · have e : b = it := by simpa using hb
    subst e
    exact ⟨h1, hL, h2, h3⟩
  · obtain ⟨o, es, ep, ho, r⟩ := hm
    exact ⟨o, es, ep, k _ o (Ne.symm hL) ho, r⟩
  · refine (I.hok b u e).stay (fun c v hc q => k c v ?_ q) (fun _ q => q) fun _ _ q => q
    rcases hc with z | z
    · rw [z]; exact nit b u e
    · exact nit c _ z
theorem Inv.tok (I : Inv X pins σ H s) (t : Nat) : Inv X pins σ H { s with toks := t } := I.un (h' := s.heap) (t' := t) Un.refl I.hok
theorem Inv.kept {t' : Nat} (I : Inv X pins σ H s) (k : ∀ b u, s.heap.get? b = some u → h'.get? b = some u) : Inv X pins σ H { s with heap := h', toks := t' } := I.un (Un.kept k) (I.hok.kept k)
theorem Inv.laid {a : Addr} {o : HO} {t' : Nat} (I : Inv X pins σ H s) (k : ∀ b u, s.heap.get? b = some u → h'.get? b = some u) (hp : s.heap.objs.size ≤ a) (new : ObjOk X.prog X.w (upd H a o) h' a o) :
    Inv X pins σ (upd H a o) { s with heap := h', toks := t' } := I.un (Un.laid k hp (I.hok.fresh hp)) (I.hok.laid k hp new)
theorem Inv.write {x e : Addr} {o : HO} {t' : Nat} (I : Inv X pins σ H s) (mu : Mut (H x)) (he : e = x ∨ H e = some (.own x)) (k : ∀ b u, b ≠ e → s.heap.get? b = some u → h'.get? b = some u) (heo : ∃ u, h'.get? e = some u)
    (new : ObjOk X.prog X.w (upd H x o) h' x o) : Inv X pins σ (upd H x o) { s with heap := h', toks := t' } := I.un (Un.write mu he k heo) (I.hok.write mu he k heo new)
theorem Inv.pins_of {pins' : List (Addr × Obj)} (I : Inv X pins σ H s) (h : ∀ p ∈ pins', s.heap.get? p.1 = some p.2 ∧ H p.1 = none ∧ p.1 ≠ X.env.locals ∧ p.1 ∉ X.fs ∧ ∀ v, p.2.data ≠ .cell v) : Inv X pins' σ H s :=
  ⟨I.ok, I.os, I.bare, I.base, I.loc, I.cell, I.free, I.freeC, fun p hp => (List.mem_append.mp hp).elim (fun z => I.pin p (List.mem_append_left _ z)) (h p), I.hok, I.len⟩
theorem nodup_ix {N : List Str} (hN : N.Nodup) {i j : Nat} {x : Str} (a : N[i]? = some x) (b : N[j]? = some x) : i = j := by
  obtain ⟨h1, e1⟩ := List.getElem?_eq_some_iff.mp a
  obtain ⟨h2, e2⟩ := List.getElem?_eq_some_iff.mp b
  exact (List.getElem_inj hN).mp (e1.trans e2.symm)
theorem store_ok2 {M : Model} {A : Around} {E : Value → Shared → Prop} {i : Nat} {x : Str} {v : V} {u : Value} {Q : Unit → Shared → Prop} (I : Inv X pins σ H s) (hN : X.N.Nodup) (hi : X.N[i]? = some x) (hx : Loc X.env.scope x) (r : RelV v u)
    (h : ∀ s', Inv X pins (σ.set i (some v)) H s' → (∃ a, Heap.SameBut a s.heap s'.heap ∧ (a = X.env.locals ∨ X.env.cells.lookup x = some a)) → Q () s') (hf : X.fn x = true ∨ X.env.scope.names.lookup x = some .local := by first | exact .inl rfl | exact .inr rfl | assumption) : wpAny M A (storeName X.env x u) Q E s := by
  obtain ⟨m, hn, hl⟩ := id I.loc
  have hcls : (X.env.scope.kind == .class || (X.env.scope.kind == .module && X.env.locals != X.env.globals)) = false := by rw [I.ok.kind]; rfl
  have hiσ : i < σ.length := by rw [I.len]; exact (List.getElem?_eq_some_iff.mp hi).1
  have cne := I.cne
  have tracked : ∀ {a : Addr} {h' : Heap}, (∃ o, s.heap.get? a = some o ∧ H a = none) → Heap.SameBut a s.heap h' → HOk X.prog X.w H h' := fun {a h'} ha hs b ob e => by
    obtain ⟨_, _, hfree⟩ := ha
    refine (I.hok b ob e).stay (fun c w' hc q => (hs.2 c ?_).trans q) (fun _ q => q) fun _ _ q => q
    rintro rfl
    rcases hc with rfl | hc
    · rw [hfree] at e; cases e
    · rw [hfree] at hc; cases hc
  rcases hx with hk | hk
  · refine wpAny_storeName_local hk hn (fun h' hn' hs => ?_) hcls
    obtain ⟨oL, _, _, hoL, _⟩ := id hn
    refine h _ ⟨I.ok, I.os, I.bare, ⟨fun b o e n hb hx => ?_, fun b o e n hb hx => ?_, I.base.free, fun b o e hx => ?_, I.base.tups, I.base.frzs, I.base.tbls⟩, ⟨_, hn', fun j y v' e1 e2 e3 => ?_⟩, fun y c e => ?_, I.free, I.freeC, fun p hp => ?_, tracked ⟨oL, hoL, I.free⟩ hs, by simpa using I.len⟩ ⟨_, hs, .inl rfl⟩
    · exact (hs.2 b (Nat.ne_of_lt (Nat.lt_of_lt_of_le (Heap.lt_size e) I.ok.above))).trans (I.base.keep b o e n hb hx)
    · obtain ⟨sl, e1⟩ := I.base.slot b o e n hb hx
      exact ⟨sl, (hs.2 b (Nat.ne_of_lt (Nat.lt_of_lt_of_le (Heap.lt_size e) I.ok.above))).trans e1⟩
    · obtain ⟨o', e1⟩ := I.base.there b o e hx
      exact ⟨o', (hs.2 b (Nat.ne_of_lt (Nat.lt_of_lt_of_le (Heap.lt_size e) I.ok.above))).trans e1⟩
    · by_cases hj : j = i
      · subst hj
        rw [hi] at e1; cases e1
        rw [List.getElem?_set_self hiσ] at e2
        cases e2
        exact ⟨u, r, .inl ⟨hk, by simp⟩⟩
      · rw [List.getElem?_set_ne (Ne.symm hj)] at e2
        obtain ⟨u', r', q⟩ := hl j y v' e1 e2 e3
        refine ⟨u', r', ?_⟩
        rcases q with ⟨k, e⟩ | ⟨k, c, e, z⟩
        · refine .inl ⟨k, ?_⟩
          have : y ≠ x := fun e => hj (nodup_ix hN e1 (e ▸ hi))
          simp [this, e]
        · exact .inr ⟨k, c, e, z.sameBut hs (cne y c e)⟩
    · obtain ⟨w', z⟩ := I.cell y c e
      exact ⟨w', z.sameBut hs (cne y c e)⟩
    · obtain ⟨e, n, ne, nf, d⟩ := I.pin p hp
      exact ⟨(hs.2 p.1 ne).trans e, n, ne, nf, d⟩
  · have hfn : X.fn x = true := by
      rcases hf with z | z
      · exact z
      · rw [z] at hk; cases hk
    obtain ⟨c, hc⟩ := I.ok.has x (.inl hk)
    obtain ⟨w', z⟩ := I.cell x c hc
    refine wpAny_storeName_cell I.ok.kind hk hc z (fun h' hc' hs => ?_)
    obtain ⟨oc, hoc, hocd⟩ := id z
    refine h { s with heap := h' } ⟨I.ok, I.os, I.bare, ⟨fun b o e n hb hx => ?_, fun b o e n hb hx => ?_, I.base.free, fun b o e hx => ?_, I.base.tups, I.base.frzs, I.base.tbls⟩, ⟨m, hn.sameBut hs (Ne.symm (cne x c hc)), fun j y v' e1 e2 e3 => ?_⟩, fun y c' e => ?_, I.free, I.freeC, fun p hp => ?_, tracked ⟨oc, hoc, I.freeC x c hc⟩ hs, by simpa using I.len⟩ ⟨c, hs, .inr hc⟩
    · exact (hs.2 b (Nat.ne_of_lt (Nat.lt_of_lt_of_le (Heap.lt_size e) (I.ok.cab x c hfn hc)))).trans (I.base.keep b o e n hb hx)
    · obtain ⟨sl, e1⟩ := I.base.slot b o e n hb hx
      exact ⟨sl, (hs.2 b (Nat.ne_of_lt (Nat.lt_of_lt_of_le (Heap.lt_size e) (I.ok.cab x c hfn hc)))).trans e1⟩
    · obtain ⟨o', e1⟩ := I.base.there b o e hx
      exact ⟨o', (hs.2 b (Nat.ne_of_lt (Nat.lt_of_lt_of_le (Heap.lt_size e) (I.ok.cab x c hfn hc)))).trans e1⟩
    · by_cases hj : j = i
      · subst hj
        rw [hi] at e1; cases e1
        rw [List.getElem?_set_self hiσ] at e2
        cases e2
        exact ⟨u, r, .inr ⟨.inl hk, c, hc, hc'⟩⟩
      · rw [List.getElem?_set_ne (Ne.symm hj)] at e2
        obtain ⟨u', r', q⟩ := hl j y v' e1 e2 e3
        refine ⟨u', r', ?_⟩
        rcases q with q | ⟨k, c', e, z'⟩
        · exact .inl q
        · refine .inr ⟨k, c', e, z'.sameBut hs ?_⟩
          rintro rfl
          exact hj (nodup_ix hN e1 (I.ok.inj _ _ _ e hc ▸ hi))
    · by_cases hcc : c' = c
      · subst hcc; exact ⟨_, hc'⟩
      · obtain ⟨w2, z2⟩ := I.cell y c' e
        exact ⟨w2, z2.sameBut hs hcc⟩
    · obtain ⟨e, n, ne, nf, d⟩ := I.pin p hp
      refine ⟨(hs.2 p.1 ?_).trans e, n, ne, nf, d⟩
      intro q
      rw [q, hoc] at e
      have q' : oc = p.2 := Option.some.inj e
      exact d w' (by rw [← q']; exact hocd)
theorem store_ok {M : Model} {A : Around} {E : Value → Shared → Prop} {i : Nat} {x : Str} {v : V} {u : Value} {Q : Unit → Shared → Prop} (I : Inv X pins σ H s) (hN : X.N.Nodup) (hi : X.N[i]? = some x) (hx : Loc X.env.scope x) (r : RelV v u)
    (h : ∀ s', Inv X pins (σ.set i (some v)) H s' → Q () s') (hf : X.fn x = true ∨ X.env.scope.names.lookup x = some .local := by first | exact .inl rfl | exact .inr rfl | assumption) : wpAny M A (storeName X.env x u) Q E s :=
  store_ok2 I hN hi hx r (fun s' I' _ => h s' I') hf
theorem Inv.call' {s' : Shared} {ch : List Addr} (I : Inv X pins σ H s) (ho : s'.os = s.os) (u : Un (frs X.stack) ch H H' s.heap s'.heap) (hok : HOk X.prog X.w H' s'.heap) (hg : AllBare s'.gens)
    (hch : ∀ b ∈ ch, (b ∈ X.ex ∨ X.s₀.heap.objs.size ≤ b) ∧ b ≠ X.env.locals ∧ (∀ x c, X.env.cells.lookup x = some c → c ≠ b) ∧ ∀ p ∈ X.pn ++ pins, p.1 ≠ b) : Inv X pins σ H' s' := by
  obtain ⟨h', g', d', t', o'⟩ := s'
  have e : o' = s.os := ho
  subst e
  exact I.call (g' := g') (t' := t') (d' := d') u hok hg hch
end
abbrev XK := Value → Option Addr → Hp → Prop
abbrev St := List (Option V)
abbrev VK := V → Hp → Prop
abbrev TE := St → Hp → VK → Prop
abbrev TT := St → Hp → (Bool → Hp → Prop) → Prop
abbrev TA := St → Hp → (List V → Hp → Prop) → Prop
structure Ends where
  nx : St → Hp → Prop
  rt : VK
  bk : St → Hp → Prop := fun _ _ => False
  ct : St → Hp → Prop := fun _ _ => False
abbrev TS := Ends → St → Hp → Prop
def EP (X : Cx) (pins : List (Addr × Obj)) (σ : St) (Q : VK) (u : Value) (s' : Shared) : Prop := ∃ v H', Inv X pins σ H' s' ∧ RelV v u ∧ Q v H'
def TP (X : Cx) (pins : List (Addr × Obj)) (σ : St) (Q : Bool → Hp → Prop) (b : Bool) (s' : Shared) : Prop := ∃ H', Inv X pins σ H' s' ∧ Q b H'
def AP (X : Cx) (pins : List (Addr × Obj)) (σ : St) (Q : List V → Hp → Prop) (us : List Value) (s' : Shared) : Prop := ∃ vs H', Inv X pins σ H' s' ∧ Vals vs us ∧ Q vs H'
def SP (X : Cx) (pins : List (Addr × Obj)) (D : Ends) (f : Flow) (s' : Shared) : Prop :=
  match f with
  | .next => ∃ σ' H', Inv X pins σ' H' s' ∧ D.nx σ' H'
  | .brk => ∃ σ' H', Inv X pins σ' H' s' ∧ D.bk σ' H'
  | .cont => ∃ σ' H', Inv X pins σ' H' s' ∧ D.ct σ' H'
  | .ret u => ∃ v σ' H', Inv X pins σ' H' s' ∧ RelV v u ∧ D.rt v H'
def PE (X : Cx) (e : Expr) (t : TE) : Prop :=
  ∀ (pins : List (Addr × Obj)) (s : Shared) (σ : St) (H : Hp) (Q : VK), Inv X pins σ H s → t σ H Q → wpAny (model X.prog X.w) X.A (eval e X.env) (EP X pins σ Q) X.xe s
def PT (X : Cx) (e : Expr) (t : TT) : Prop :=
  ∀ (pins : List (Addr × Obj)) (s : Shared) (σ : St) (H : Hp) (Q : Bool → Hp → Prop), Inv X pins σ H s → t σ H Q → wpAny (model X.prog X.w) X.A (isTrue e X.env (eval e X.env)) (TP X pins σ Q) X.xe s
def PW (X : Cx) (e : Expr) (t : TT) : Prop :=
  ∀ (whole : Sem Value) (pins : List (Addr × Obj)) (s : Shared) (σ : St) (H : Hp) (Q : Bool → Hp → Prop), Inv X pins σ H s → t σ H Q → wpAny (model X.prog X.w) X.A (isTrue e X.env whole) (TP X pins σ Q) X.xe s
theorem PW.pt {X : Cx} {e : Expr} {t : TT} (h : PW X e t) : PT X e t := h _
def PA (X : Cx) (es : List Expr) (t : TA) : Prop :=
  ∀ (pos : Pos) (pins : List (Addr × Obj)) (s : Shared) (σ : St) (H : Hp) (Q : List V → Hp → Prop), Inv X pins σ H s → t σ H Q → wpAny (model X.prog X.w) X.A (spliced (backTo pos (starEach es X.env))) (AP X pins σ Q) X.xe s
def PS (X : Cx) (st : Stmt) (t : TS) : Prop :=
  ∀ (pins : List (Addr × Obj)) (s : Shared) (σ : St) (H : Hp) (D : Ends), Inv X pins σ H s → t D σ H → wpAny (model X.prog X.w) X.A (exec st X.env) (SP X pins D) X.xe s
def PSs (X : Cx) (st : List Stmt) (t : TS) : Prop :=
  ∀ (pins : List (Addr × Obj)) (s : Shared) (σ : St) (H : Hp) (D : Ends), Inv X pins σ H s → t D σ H → wpAny (model X.prog X.w) X.A (execs st X.env) (SP X pins D) X.xe s
theorem thn {α : Type} {t : Sem α} {Q Q' : α → Shared → Prop} {M : Model} {A : Around} {E : Value → Shared → Prop} {s : Shared} (h : wpAny M A t Q E s) (hQ : ∀ a s, Q a s → Q' a s) : wpAny M A t Q' E s := wpAny_mono h hQ fun _ _ x => x
end L2
namespace L2
open PySem PySem.Spec PyProof.Rows
section
variable {X : Cx}
def tVar (i : Nat) : TE := fun σ H Q => ∃ v, σ[i]? = some (some v) ∧ Q v H
def tC (v : V) : TE := fun _ H Q => Q v H
theorem pe_var {i : Nat} {x : Str} {pos : Pos} (hN : X.N[i]? = some x) (hv : Vis X.env.scope x) (hd : (x == ("__debug__" : Str)) = false := by decide) (hcd : (x == ("__classdict__" : Str)) = false := by decide) : PE X (.Name x pos) (tVar i) := by
  intro pins s σ H Q I h
  obtain ⟨v, e, h⟩ := h
  obtain ⟨m, hn, hl⟩ := I.loc
  obtain ⟨u, r, l⟩ := hl i x v hN e hv
  have fin : EP X pins σ Q u s := ⟨v, H, I, r, h⟩
  rcases l with ⟨hk, hm⟩ | ⟨hk, c, hc, hcell⟩
  · exact wpAny_Name (wpAny_loadName_local I.ok.kind hk hn hm fin) hd
  · rcases hk with hk | hk
    · exact wpAny_Name (wpAny_loadName_cell I.ok.kind hk hc hcell fin) hd
    · exact wpAny_Name (wpAny_loadName_free I.ok.kind hk hc hcell fin hcd) hd
theorem pe_int {i j pos} : PE X (.Constant (.int i) j pos) (tC (.int i)) := fun _ _ _ H _ I h => wpAny_Constant_int ⟨.int i, H, I.tok _, ⟨_, rfl⟩, h⟩
theorem pe_bl {b j pos} : PE X (.Constant (.bool b) j pos) (tC (.bl b)) := fun _ _ _ H _ I h => Constant_bool ⟨.bl b, H, I, rfl, h⟩
theorem pe_non {j pos} : PE X (.Constant .none j pos) (tC .non) := fun _ _ _ H _ I h => Constant_none ⟨.non, H, I, rfl, h⟩
theorem pe_str {x j pos} : PE X (.Constant (.str x) j pos) (tC (.str x)) := fun _ _ _ H _ I h => Calls.Constant_str ⟨.str x, H, I.tok _, ⟨_, rfl⟩, h⟩
def Gl (X : Cx) (x : Str) : Prop := X.env.kindOf x = some .globalImplicit
theorem ld_glob {E : Value → Shared → Prop} {pins : List (Addr × Obj)} {s : Shared} {σ : St} {H : Hp} {x : Str} {u : Value} {pos : Pos} {Q : Value → Shared → Prop} (I : Inv X pins σ H s) (hg : Gl X x) (hm : X.mg x = some u) (h : Q u s)
    (hd : (x == ("__debug__" : Str)) = false := by decide) : wpAny (model X.prog X.w) X.A (eval (.Name x pos) X.env) Q E s :=
  Calls.Name_function_global I.ok.kind hg (Calls.loadGlobal_global (by rw [I.ok.glob]; exact I.mod.glob.keeps I.bk) hm h) hd
theorem ld_blt {E : Value → Shared → Prop} {pins : List (Addr × Obj)} {s : Shared} {σ : St} {H : Hp} {x : Str} {u : Value} {pos : Pos} {Q : Value → Shared → Prop} (I : Inv X pins σ H s) (hg : Gl X x) (hm : X.mg x = none) (hv : bootBuiltins x = some u) (h : Q u s)
    (hn : x ≠ "__name__" := by decide) (hd : (x == ("__debug__" : Str)) = false := by decide) : wpAny (model X.prog X.w) X.A (eval (.Name x pos) X.env) Q E s := by
  obtain ⟨mb, h1, h2⟩ := I.mod.blt
  exact Calls.Name_function_global I.ok.kind hg (Calls.loadGlobal_builtin (by rw [I.ok.glob]; exact I.mod.glob.keeps I.bk) hm (by rw [I.ok.blt]; exact h1.keeps I.bk) ((h2 x hn).trans hv) h) hd
theorem pe_glob {x : Str} {v : V} {u : Value} {pos : Pos} (hg : Gl X x) (hm : X.mg x = some u) (r : RelV v u) (hd : (x == ("__debug__" : Str)) = false := by decide) : PE X (.Name x pos) (tC v) :=
  fun _ _ _ H _ I h => ld_glob I hg hm ⟨v, H, I, r, h⟩ hd
theorem pe_bltn {x : Str} {v : V} {u : Value} {pos : Pos} (hg : Gl X x) (hm : X.mg x = none) (hv : bootBuiltins x = some u) (r : RelV v u) (hn : x ≠ "__name__" := by decide) (hd : (x == ("__debug__" : Str)) = false := by decide) : PE X (.Name x pos) (tC v) :=
  fun _ _ _ H _ I h => ld_blt I hg hm hv ⟨v, H, I, r, h⟩ hn hd
variable {a b : Expr} {ta tb : TE} {pos : Pos}
def PC (X : Cx) (op : CmpOp) (a b : Expr) (t : TE) : Prop :=
  ∀ (pins : List (Addr × Obj)) (s : Shared) (σ : St) (H : Hp) (Q : VK), Inv X pins σ H s → t σ H Q →
    wpAny (model X.prog X.w) X.A (eval a X.env) (fun v s₁ => wpAny (model X.prog X.w) X.A (eval b X.env) (fun u s₂ => wpAny (model X.prog X.w) X.A (compareOp op v u) (EP X pins σ Q) X.xe s₂) X.xe s₁) X.xe s
theorem nobehind (b : Expr) {op : CmpOp} (h : op ≠ .In) (h2 : op ≠ .NotIn) : behindInMarks op b = false := by
  have e1 : (op == CmpOp.In) = false := by cases op <;> first | rfl | exact absurd rfl h
  have e2 : (op == CmpOp.NotIn) = false := by cases op <;> first | rfl | exact absurd rfl h2
  cases b <;> simp [behindInMarks, e1, e2]
def tB (t : TE) : TT := fun σ H Q => t σ H fun x H1 => ∃ c, x = .bl c ∧ Q c H1
theorem pt_cmp {op : CmpOp} {t : TE} (h : PC X op a b t) (h1 : behindInMarks op b = false := by first | exact nobehind _ (by decide) (by decide) | rfl) : PT X (.Compare a [op] [b] pos) (tB t) := by
  intro pins s σ H Q I hw
  refine wpAny_isTrue_Compare1 (thn (h pins s σ H _ I hw) fun v s1 h1 => thn h1 fun u s2 h2 => thn h2 fun c s3 ⟨x, H1, I1, r1, q1⟩ => ?_) h1
  obtain ⟨d, rfl, q⟩ := q1
  cases r1
  exact wpAny_truthy_bool ⟨H1, I1, q⟩
theorem pt_val {e : Expr} {t : TE} (h : PE X e t) (he : ∀ whole, isTrue e X.env whole = (do let v ← whole; standAt e.pos; holding [v] (truthy v)) := by intro _; rfl) : PT X e (tB t) := by
  intro pins s σ H Q I hw
  refine isTrue_plain (thn (h pins s σ H _ I hw) fun v s1 ⟨x, H1, I1, r1, q1⟩ => ?_) (he _)
  obtain ⟨d, rfl, q⟩ := q1
  cases r1
  exact wpAny_truthy_bool ⟨H1, I1, q⟩
variable {tA tB' : TT} {rest : List Expr}
def tAnd (t u : TT) : TT := fun σ H Q => t σ H fun c H1 => if c = true then u σ H1 Q else Q false H1
def tOr (t u : TT) : TT := fun σ H Q => t σ H fun c H1 => if c = true then Q true H1 else u σ H1 Q
def tNot (t : TT) : TT := fun σ H Q => t σ H fun c H1 => Q (!c) H1
theorem pw_and1 (ha : PT X a tA) : PW X (.BoolOp .And [a] pos) tA := by
  intro wh pins s σ H Q I h
  refine isTrue_and (thn (ha pins s σ H Q I h) fun c s1 e => ?_)
  cases c with
  | true => exact isTrue_and_nil e
  | false => exact e
theorem pw_or1 (ha : PT X a tA) : PW X (.BoolOp .Or [a] pos) tA := by
  intro wh pins s σ H Q I h
  refine isTrue_or (thn (ha pins s σ H Q I h) fun c s1 e => ?_)
  cases c with
  | false => exact isTrue_or_nil e
  | true => exact e
theorem pw_and (ha : PT X a tA) (hb : PW X (.BoolOp .And (b :: rest) pos) tB') : PW X (.BoolOp .And (a :: b :: rest) pos) (tAnd tA tB') := by
  intro wh pins s σ H Q I h
  refine isTrue_and (thn (ha pins s σ H _ I h) fun c s1 ⟨H1, I1, q1⟩ => ?_)
  cases c with
  | true => exact hb wh pins s1 σ H1 Q I1 q1
  | false => exact ⟨H1, I1, q1⟩
theorem pw_or (ha : PT X a tA) (hb : PW X (.BoolOp .Or (b :: rest) pos) tB') : PW X (.BoolOp .Or (a :: b :: rest) pos) (tOr tA tB') := by
  intro wh pins s σ H Q I h
  refine isTrue_or (thn (ha pins s σ H _ I h) fun c s1 ⟨H1, I1, q1⟩ => ?_)
  cases c with
  | true => exact ⟨H1, I1, q1⟩
  | false => exact hb wh pins s1 σ H1 Q I1 q1
theorem pt_not (ha : PT X a tA) : PT X (.UnaryOp .Not a pos) (tNot tA) := by
  intro pins s σ H Q I h
  exact isTrue_not (ha pins s σ H (fun c H1 => Q (!c) H1) I h)
def tAndV (ta tb : TE) : TE := fun σ H Q => ta σ H fun x H1 => ∃ c, x = .bl c ∧ if c = true then tb σ H1 Q else Q (.bl false) H1
def tOrV (ta tb : TE) : TE := fun σ H Q => ta σ H fun x H1 => ∃ c, x = .bl c ∧ if c = true then Q (.bl true) H1 else tb σ H1 Q
def tNotV (ta : TE) : TE := fun σ H Q => ta σ H fun x H1 => ∃ c, x = .bl c ∧ Q (.bl (!c)) H1
theorem pe_not (ha : PE X a ta) : PE X (.UnaryOp .Not a pos) (tNotV ta) := by
  intro pins s σ H Q I h
  refine UnaryOp_ (thn (ha pins s σ H _ I h) fun v s1 ⟨x, H1, I1, r1, q1⟩ => ?_)
  obtain ⟨c, rfl, q1⟩ := q1
  cases r1
  exact not_of (wpAny_truthy_bool ⟨.bl (!c), H1, I1, rfl, q1⟩)
def tIf (t : TT) (ta tb : TE) : TE := fun σ H Q => t σ H fun c H1 => if c = true then ta σ H1 Q else tb σ H1 Q
theorem pe_ifExp {c : Expr} (hc : PT X c tA) (ha : PE X a ta) (hb : PE X b tb) : PE X (.IfExp c a b pos) (tIf tA ta tb) := by
  intro pins s σ H Q I h
  refine wpAny_IfExp (thn (hc pins s σ H _ I h) fun d s1 ⟨H1, I1, q1⟩ => ?_)
  cases d with
  | true => exact ha pins s1 σ H1 Q I1 q1
  | false => exact hb pins s1 σ H1 Q I1 q1
end
end L2
namespace L2
open PySem PySem.Spec PyProof.Rows
def SqL (K : PySem.W.Frag) (H : Hp) (a : Addr) (xs : List V) : Prop :=
  Rd H a (.lst xs) ∨
    ∃ (o : Obj) (its : Array Value) (n : Nat), K.lookup a = some o ∧ o.cls = .type "list" ∧ o.dict = none ∧ o.data = .seq its n ∧ its.size ≤ sizeLine ∧ Vals xs its.toList
def SqT (K : PySem.W.Frag) (H : Hp) (a : Addr) (xs : List V) : Prop :=
  Rd H a (.tup xs) ∨
    ∃ (o : Obj) (its : Array Value) (n : Nat), K.lookup a = some o ∧ o.cls = .type "tuple" ∧ o.data = .seq its n ∧ its.size ≤ sizeLine ∧ Vals xs its.toList
def absV : Value → Option V
  | .none => some .non
  | .bool b => some (.bl b)
  | .int i _ => some (.int i)
  | .str x _ => some (.str x)
  | .bytes b _ => some (.byt b)
  | .float b _ => some (.flt b)
  | .ref a => some (.ref a)
  | .type n => some (.ty n)
  | _ => none
theorem RelV.abs {x : V} {u : Value} (r : RelV x u) : absV u = some x := by
  cases x with
  | non => cases r; rfl
  | bl _ => cases r; rfl
  | int _ => obtain ⟨t, rfl⟩ := r; rfl
  | str _ => obtain ⟨t, rfl⟩ := r; rfl
  | byt _ => obtain ⟨t, rfl⟩ := r; rfl
  | flt _ => obtain ⟨t, rfl⟩ := r; rfl
  | ref _ => cases r; rfl
  | ty _ => cases r; rfl
theorem RelV.inj {x y : V} {u : Value} (r : RelV x u) (q : RelV y u) : x = y := Option.some.inj (r.abs.symm.trans q.abs)
theorem Vals.inj : ∀ {xs ys : List V} {us : List Value}, Vals xs us → Vals ys us → xs = ys
  | _, _, _, .nil, .nil => rfl
  | _, _, _, .cons r t, .cons r' t' => by rw [r.inj r', Vals.inj t t']
section
variable {X : Cx} {pins : List (Addr × Obj)} {σ : St} {H : Hp} {s : Shared} {a : Addr} {xs ys : List V}
theorem SqL.of {K : PySem.W.Frag} (h : H a = some (.lst xs)) : SqL K H a xs := .inl (.inl h)
theorem SqT.of {K : PySem.W.Frag} (h : H a = some (.tup xs)) : SqT K H a xs := .inl (.inl h)
theorem Inv.list (I : Inv X pins σ H s) (h : SqL X.K H a xs) : ∃ its : List Value, Vals xs its ∧ PlainL s.heap a its.toArray ∧ xs.length ≤ sizeLine := by
  rcases h with h | ⟨o, its, n, hk, hc, hd, hs, hz, r⟩
  · obtain ⟨z, its, n, r, e⟩ := h.ok I.hok
    exact ⟨its, r, ⟨_, n, e, rfl, rfl, rfl⟩, z⟩
  · refine ⟨its.toList, r, ⟨o, n, I.kIn a o hk, hc, hd, by simpa using hs⟩, ?_⟩
    have e := r.length
    simp only [Array.length_toList] at e
    omega
theorem Inv.tuple (I : Inv X pins σ H s) (h : SqT X.K H a xs) : ∃ its : List Value, Vals xs its ∧ IsTup s.heap a its.toArray ∧ xs.length ≤ sizeLine := by
  rcases h with h | ⟨o, its, n, hk, hc, hs, hz, r⟩
  · obtain ⟨z, its, r, p⟩ := h.ok I.hok
    exact ⟨its, r, p, z⟩
  · refine ⟨its.toList, r, ⟨o, I.kIn a o hk, hc, n, by simpa using hs⟩, ?_⟩
    have e := r.length
    simp only [Array.length_toList] at e
    omega
theorem Inv.list_inj (I : Inv X pins σ H s) (h : SqL X.K H a xs) (h' : SqL X.K H a ys) : xs = ys := by
  obtain ⟨its, r, ⟨o, n, e, _, _, d⟩, _⟩ := I.list h
  obtain ⟨its', r', ⟨o', n', e', _, _, d'⟩, _⟩ := I.list h'
  rw [e] at e'; cases e'
  rw [d] at d'
  injection d' with d1 _
  have : its = its' := by simpa using congrArg Array.toList d1
  subst this
  exact r.inj r'
theorem Inv.tuple_inj (I : Inv X pins σ H s) (h : SqT X.K H a xs) (h' : SqT X.K H a ys) : xs = ys := by
  obtain ⟨its, r, ⟨o, e, _, n, d⟩, _⟩ := I.tuple h
  obtain ⟨its', r', ⟨o', e', _, n', d'⟩, _⟩ := I.tuple h'
  rw [e] at e'; cases e'
  rw [d] at d'
  injection d' with d1 _
  have : its = its' := by simpa using congrArg Array.toList d1
  subst this
  exact r.inj r'
end
abbrev Cx.wish (X : Cx) (E : Value → Shared → Prop) : Cx := { X with xe := E }
abbrev Cx.nox (X : Cx) : Cx := X.wish fun _ _ => False
theorem Cx.Ok.wish {X : Cx} (ok : X.Ok) (E : Value → Shared → Prop) : (X.wish E).Ok :=
  ⟨ok.mod, ok.kind, ok.glob, ok.blt, ok.above, ok.inj, ok.has, ok.cab, ok.hd, ok.frames, ok.stk, ok.exf, ok.bs, ok.bsz, ok.noex, ok.exfs, ok.funs, ok.frf⟩
theorem Cx.Ok.unwish {X : Cx} {E : Value → Shared → Prop} (ok : (X.wish E).Ok) : X.Ok :=
  ⟨ok.mod, ok.kind, ok.glob, ok.blt, ok.above, ok.inj, ok.has, ok.cab, ok.hd, ok.frames, ok.stk, ok.exf, ok.bs, ok.bsz, ok.noex, ok.exfs, ok.funs, ok.frf⟩
section
variable {X : Cx} {pins : List (Addr × Obj)} {σ : St} {H : Hp} {s : Shared} {E : Value → Shared → Prop}
theorem Inv.wish (I : Inv X pins σ H s) (E : Value → Shared → Prop) : Inv (X.wish E) pins σ H s := ⟨I.ok.wish E, I.os, I.bare, I.base, I.loc, I.cell, I.free, I.freeC, I.pin, I.hok, I.len⟩
theorem Inv.unwish (I : Inv (X.wish E) pins σ H s) : Inv X pins σ H s := ⟨I.ok.unwish, I.os, I.bare, I.base, I.loc, I.cell, I.free, I.freeC, I.pin, I.hok, I.len⟩
theorem SP.unwish {D : Ends} {f : Flow} {s' : Shared} (h : SP (X.wish E) pins D f s') : SP X pins D f s' := by
  cases f with
  | next => obtain ⟨σ', H', I, q⟩ := h; exact ⟨σ', H', I.unwish, q⟩
  | brk => obtain ⟨σ', H', I, q⟩ := h; exact ⟨σ', H', I.unwish, q⟩
  | cont => obtain ⟨σ', H', I, q⟩ := h; exact ⟨σ', H', I.unwish, q⟩
  | ret u => obtain ⟨v, σ', H', I, r, q⟩ := h; exact ⟨v, σ', H', I.unwish, r, q⟩
theorem PSs.nox {st : List Stmt} {t : TS} (h : PSs X.nox st t) : PSs X st t := fun pins s σ H D I hw =>
  wpAny_mono (h pins s σ H D (I.wish _) hw) (fun _ _ q => q.unwish) fun _ _ z => False.elim z
end
section
variable {X : Cx} {st : Stmt} {rest : List Stmt} {t u : TS} {e : Expr} {te : TE} {pos : Pos}
def tNext : TS := fun D σ H => D.nx σ H
def tSeq (t u : TS) : TS := fun D σ H => t { D with nx := u D } σ H
theorem pss_nil : PSs X [] tNext := fun _ _ σ H _ I h => wpAny_execs_nil ⟨σ, H, I, h⟩
theorem pss_cons (h1 : PS X st t) (h2 : PSs X rest u) : PSs X (st :: rest) (tSeq t u) := by
  intro pins s σ H D I h
  refine wpAny_execs_cons (thn (h1 pins s σ H { D with nx := u D } I h) fun f s1 q => ?_)
  cases f with
  | next =>
    obtain ⟨σ', H', I', q⟩ := q
    exact h2 pins s1 σ' H' D I' q
  | ret v => exact q
  | brk => exact q
  | cont => exact q
theorem pss_one (h1 : PS X st t) : PSs X [st] t := by
  intro pins s σ H D I h
  refine wpAny_execs_cons (thn (h1 pins s σ H D I h) fun f s1 q => ?_)
  cases f with
  | next => exact wpAny_execs_nil q
  | ret v => exact q
  | brk => exact q
  | cont => exact q
theorem Inv.quiet {pins : List (Addr × Obj)} {σ : St} {H : Hp} {s : Shared} (I : Inv X pins σ H s) : interactive X.env = false := by simp [interactive, I.ok.kind]
def tDrop (te : TE) : TS := fun D σ H => te σ H fun _ H1 => D.nx σ H1
theorem ps_expr (he : PE X e te) (hs : swapsWith e none pos.line X.env = pure false := by rfl) : PS X (.Expr e pos) (tDrop te) := by
  intro pins s σ H D I h
  exact wpAny_Expr_any (thn (he pins s σ H _ I h) fun v s1 ⟨x, H1, I1, r1, q1⟩ => ⟨σ, H1, I1, q1⟩) I.quiet hs
def tRet (te : TE) : TS := fun D σ H => te σ H D.rt
theorem ps_ret (he : PE X e te) : PS X (.Return (some e) pos) (tRet te) := by
  intro pins s σ H D I h
  exact wpAny_Return_some (thn (he pins s σ H _ I h) fun v s1 ⟨x, H1, I1, r1, q1⟩ => ⟨x, σ, H1, I1, r1, q1⟩)
def tRetN : TS := fun D _ H => D.rt .non H
def tIfS (c : TT) (t u : TS) : TS := fun D σ H => c σ H fun b H1 => if b = true then t D σ H1 else u D σ H1
theorem ps_if {c : Expr} {a b : List Stmt} {tc : TT} (hc : PT X c tc) (ha : PSs X a t) (hb : PSs X b u) : PS X (.If c a b pos) (tIfS tc t u) := by
  intro pins s σ H D I h
  refine wpAny_If (thn (hc pins s σ H _ I h) fun d s1 ⟨H1, I1, q1⟩ => ?_)
  cases d with
  | true => exact ha pins s1 σ H1 D I1 q1
  | false => exact hb pins s1 σ H1 D I1 q1
def tNever : TS := fun _ _ _ => False
theorem ps_never : PS X st tNever := fun _ _ _ _ _ _ h => h.elim
end
abbrev TG := V → St → Hp → (St → Hp → Prop) → Prop
abbrev TGs := List V → St → Hp → (St → Hp → Prop) → Prop
def PG (X : Cx) (target : Expr) (t : TG) : Prop :=
  ∀ (pins : List (Addr × Obj)) (s : Shared) (σ : St) (H : Hp) (v : V) (u : Value) (Q : St → Hp → Prop), Inv X pins σ H s → RelV v u → t v σ H Q →
    wpAny (model X.prog X.w) X.A (assign target X.env u) (fun _ s' => ∃ σ' H', Inv X pins σ' H' s' ∧ Q σ' H') X.xe s
def PGs (X : Cx) (ts : List Expr) (t : TGs) : Prop :=
  ∀ (pins : List (Addr × Obj)) (s : Shared) (σ : St) (H : Hp) (vs : List V) (us : List Value) (Q : St → Hp → Prop), Inv X pins σ H s → Vals vs us → t vs σ H Q →
    wpAny (model X.prog X.w) X.A (assignInOrder ((assignEach ts X.env).map (·.2)) us) (fun _ s' => ∃ σ' H', Inv X pins σ' H' s' ∧ Q σ' H') X.xe s
abbrev TSet := V → V → V → Hp → (Hp → Prop) → Prop
def PSet (X : Cx) (t : TSet) : Prop :=
  ∀ (pins : List (Addr × Obj)) (s : Shared) (σ : St) (H : Hp) (o i v : V) (ov iv u : Value) (Q : Hp → Prop), Inv X pins σ H s → RelV o ov → RelV i iv → RelV v u → t o i v H Q →
    wpAny (model X.prog X.w) X.A (setItem ov iv u) (fun _ s' => ∃ H', Inv X pins σ H' s' ∧ Q H') X.xe s
abbrev TIp := V → V → Hp → VK → Prop
def PIp (X : Cx) (op : Operator) (t : TIp) : Prop :=
  ∀ (pins : List (Addr × Obj)) (s : Shared) (σ : St) (H : Hp) (x y : V) (v u : Value) (Q : VK), Inv X pins σ H s → RelV x v → RelV y u → t x y H Q →
    wpAny (model X.prog X.w) X.A (inplaceOp op v u) (EP X pins σ Q) X.xe s
section
variable {X : Cx} {pos : Pos}
def gName (i : Nat) : TG := fun v σ H Q => Q (σ.set i (some v)) H
theorem pg_name {i : Nat} {x : Str} (hN : X.N.Nodup) (hi : X.N[i]? = some x) (hx : Loc X.env.scope x) (hf : X.fn x = true ∨ X.env.scope.names.lookup x = some .local := by first | exact .inl rfl | exact .inr rfl | assumption) : PG X (.Name x pos) (gName i) := by
  intro pins s σ H v u Q I r h
  exact wpAny_assign_Name (store_ok I hN hi hx r (fun s' I' => ⟨_, H, I', h⟩) hf)
def gNil : TGs := fun vs σ H Q => vs = [] ∧ Q σ H
def gCons (t : TG) (u : TGs) : TGs := fun vs σ H Q => ∃ v r, vs = v :: r ∧ t v σ H fun σ' H' => u r σ' H' Q
theorem pgs_nil : PGs X [] gNil := by
  intro pins s σ H vs us Q I r h
  obtain ⟨e, h⟩ := h
  subst e
  cases r
  exact assignInOrder_nil ⟨σ, H, I, h⟩
theorem pgs_cons {e : Expr} {es : List Expr} {t : TG} {u : TGs} (h1 : PG X e t) (h2 : PGs X es u)
    (hs : (assignEach (e :: es) X.env).map (·.2) = assign e X.env :: (assignEach es X.env).map (·.2) := by rfl) : PGs X (e :: es) (gCons t u) := by
  intro pins s σ H vs us Q I r h
  obtain ⟨v, vr, e1, h⟩ := h
  subst e1
  cases r with
  | cons r rr =>
    rw [hs]
    refine assignInOrder_cons (thn (h1 pins s σ H _ _ _ I r h) fun _ s1 ⟨σ1, H1, I1, q1⟩ => ?_)
    exact h2 pins s1 σ1 H1 _ _ Q I1 rr q1
def gTup (K : PySem.W.Frag) (n : Nat) (t : TGs) : TG := fun v σ H Q => ∃ a xs, v = .ref a ∧ SqT K H a xs ∧ xs.length = n ∧ t xs σ H Q
theorem pg_tup {es : List Expr} {k : Nat} {t : TGs} {n : Nat} (hc : X.calm = true) (h : PGs X es t)
    (hn : (assignEach es X.env).length = n := by rfl) (hst : (assignEach es X.env).findIdx? (·.1) = none := by rfl) : PG X (.Tuple es k pos) (gTup X.K n t) := by
  intro pins s σ H v u Q I r hw
  obtain ⟨a, xs, e1, hq, hl, hw⟩ := hw
  subst e1
  cases r
  obtain ⟨its, rv, ht, hz⟩ := I.tuple hq
  refine assign_Tuple_tuple (I.ok.hd hc) ht (by simp [hn, ← hl, rv.length]) hst fun h' hx => ?_
  have I1 : Inv X pins σ H { s with heap := h' } := I.kept (t' := s.toks) fun b o e => hx b o (Nat.ne_of_lt (Heap.lt_size e)) e
  exact h pins _ σ H xs _ Q I1 (by simpa using rv) hw
def gSub (to ti : TE) (t : TSet) : TG := fun v σ H Q => to σ H fun o H1 => ti σ H1 fun i H2 => t o i v H2 fun H3 => Q σ H3
theorem pg_sub {o i : Expr} {to ti : TE} {t : TSet} (ho : PE X o to) (hi : PE X i ti) (hs : PSet X t)
    (ha : ∀ v, assign (.Subscript o i pos) X.env v = (do
      let ov ← holding [v] (eval o X.env)
      let iv ← holding [v, ov] (eval i X.env)
      standAt pos
      holding [v, ov, iv] (setItem ov iv v)
      release [v, ov, iv] []) := by intro _; rfl) : PG X (.Subscript o i pos) (gSub to ti t) := by
  intro pins s σ H v u Q I r h
  rw [ha]
  refine wpAny_bind (wpAny_holding (thn (ho pins s σ H _ I h) fun ov s1 ⟨x, H1, I1, r1, q1⟩ => ?_))
  refine wpAny_bind (wpAny_holding (thn (hi pins s1 σ H1 _ I1 q1) fun iv s2 ⟨y, H2, I2, r2, q2⟩ => ?_))
  refine wpAny_bind (wpAny_standAt (wpAny_bind (wpAny_holding (thn (hs pins s2 σ H2 x y v ov iv u _ I2 r1 r2 r q2) fun _ s3 ⟨H3, I3, q3⟩ => ?_))))
  exact wpAny_release ⟨σ, H3, I3, q3⟩
def tAsg (te : TE) (g : TG) : TS := fun D σ H => te σ H fun x H1 => g x σ H1 D.nx
theorem ps_asg {tg e : Expr} {te : TE} {g : TG} (he : PE X e te) (hg : PG X tg g) (hs : swapsWithSole [tg] e pos.line X.env = pure false := by rfl) (hw : swappedStores [tg] e X.env = pure none := by rfl)
    (h1 : (assignEach [tg] X.env).map (·.2) = [assign tg X.env] := by rfl) : PS X (.Assign [tg] e pos) (tAsg te g) := by
  intro pins s σ H D I h
  refine wpAny_Assign_stores (thn (he pins s σ H _ I h) fun v s1 ⟨x, H1, I1, r1, q1⟩ => ?_) hs hw
  rw [h1]
  exact thn (hg pins s1 σ H1 x v _ I1 r1 q1) fun _ s2 q => q
theorem ps_set {i : Nat} {x : Str} {e : Expr} {te : TE} {pos' : Pos} (hN : X.N.Nodup) (hi : X.N[i]? = some x) (hx : Loc X.env.scope x) (he : PE X e te) (hs : swapsWith e (some (.Name x pos')) pos.line X.env = pure false := by rfl) (hf : X.fn x = true ∨ X.env.scope.names.lookup x = some .local := by first | exact .inl rfl | exact .inr rfl | assumption) :
    PS X (.Assign [.Name x pos'] e pos) (tAsg te (gName i)) := by
  intro pins s σ H D I h
  refine wpAny_Assign_Name (thn (he pins s σ H _ I h) fun v s1 ⟨y, H1, I1, r1, q1⟩ => ?_) hs
  exact store_ok I1 hN hi hx r1 (fun s2 I2 => ⟨_, H1, I2, q1⟩) hf
def tPar (i j : Nat) (ta : TA) : TS := fun D σ H => ta σ H fun vs H1 => ∃ v w, vs = [v, w] ∧ D.nx ((σ.set i (some v)).set j (some w)) H1
def tAug (i : Nat) (te : TE) (ti : TIp) : TS := fun D σ H => ∃ x, σ[i]? = some (some x) ∧ te σ H fun y H1 => ti x y H1 fun z H2 => D.nx (σ.set i (some z)) H2
theorem ps_aug {i : Nat} {x : Str} {e : Expr} {te : TE} {op : Operator} {ti : TIp} {pos' : Pos} (hN : X.N.Nodup) (hi : X.N[i]? = some x) (hx : Loc X.env.scope x) (he : PE X e te) (ho : PIp X op ti) (hf : X.fn x = true ∨ X.env.scope.names.lookup x = some .local := by first | exact .inl rfl | exact .inr rfl | assumption) :
    PS X (.AugAssign (.Name x pos') op e pos) (tAug i te ti) := by
  intro pins s σ H D I h
  obtain ⟨v, e1, h⟩ := h
  obtain ⟨m, hn, hl⟩ := I.loc
  have vis : Vis X.env.scope x := by rcases hx with k | k; exact .inl k; exact .inr (.inl k)
  obtain ⟨u, r, l⟩ := hl i x v hi e1 vis
  refine wpAny_AugAssign_Name ?_
  have go : wpAny (model X.prog X.w) X.A (eval e X.env) (fun w s₂ => wpAny (model X.prog X.w) X.A (inplaceOp op u w) (fun r s₃ => wpAny (model X.prog X.w) X.A (storeName X.env x r) (fun _ => SP X pins D .next) X.xe s₃) X.xe s₂) X.xe s := by
    refine thn (he pins s σ H _ I h) fun w s1 ⟨y, H1, I1, r1, q1⟩ => ?_
    refine thn (ho pins s1 σ H1 v y u w _ I1 r r1 q1) fun z s2 ⟨zv, H2, I2, r2, q2⟩ => ?_
    exact store_ok I2 hN hi hx r2 (fun s3 I3 => ⟨_, H2, I3, q2⟩) hf
  rcases l with ⟨hk, hm⟩ | ⟨hk, c, hc, hcell⟩
  · exact wpAny_loadName_local I.ok.kind hk hn hm go
  · rcases hk with hk | hk
    · exact wpAny_loadName_cell I.ok.kind hk hc hcell go
    · rcases hx with k | k
      · have : X.env.scope.names.lookup x = some .free := hk
        rw [k] at this; cases this
      · have : X.env.scope.names.lookup x = some .free := hk
        rw [k] at this; cases this
def tAugS (to ti te : TE) (tget : V → V → Hp → VK → Prop) (tip : TIp) (tset : TSet) : TS := fun D σ H => to σ H fun o H1 => ti σ H1 fun i H2 => tget o i H2 fun x H3 => te σ H3 fun y H4 => tip x y H4 fun z H5 => tset o i z H5 fun H6 => D.nx σ H6
def PGet (X : Cx) (t : V → V → Hp → VK → Prop) : Prop :=
  ∀ (pins : List (Addr × Obj)) (s : Shared) (σ : St) (H : Hp) (o i : V) (ov iv : Value) (Q : VK), Inv X pins σ H s → RelV o ov → RelV i iv → t o i H Q →
    wpAny (model X.prog X.w) X.A (getItem ov iv) (EP X pins σ Q) X.xe s
theorem ps_augS {o i e : Expr} {to ti te : TE} {tget : V → V → Hp → VK → Prop} {tip : TIp} {tset : TSet} {op : Operator} {tpos : Pos} (ho : PE X o to) (hi : PE X i ti) (hg : PGet X tget) (he : PE X e te) (hp : PIp X op tip) (hs : PSet X tset)
    (ha : ∀ ov iv new, augStore i ov iv new = (do holding [new, ov, iv] (setItem ov iv new); release [new, ov, iv] []; pure .next) := by intros; rfl) : PS X (.AugAssign (.Subscript o i tpos) op e pos) (tAugS to ti te tget tip tset) := by
  intro pins s σ H D I h
  refine wpAny_AugAssign_SubscriptAny (thn (ho pins s σ H _ I h) fun ov s1 ⟨x1, H1, I1, r1, q1⟩ => ?_) ha
  refine thn (hi pins s1 σ H1 _ I1 q1) fun iv s2 ⟨x2, H2, I2, r2, q2⟩ => ?_
  refine thn (hg pins s2 σ H2 x1 x2 ov iv _ I2 r1 r2 q2) fun old s3 ⟨x3, H3, I3, r3, q3⟩ => ?_
  refine thn (he pins s3 σ H3 _ I3 q3) fun v s4 ⟨x4, H4, I4, r4, q4⟩ => ?_
  refine thn (hp pins s4 σ H4 x3 x4 old v _ I4 r3 r4 q4) fun new s5 ⟨x5, H5, I5, r5, q5⟩ => ?_
  exact thn (hs pins s5 σ H5 x1 x2 x5 ov iv new _ I5 r1 r2 r5 q5) fun _ s6 ⟨H6, I6, q6⟩ => ⟨σ, H6, I6, q6⟩
def ipI (f : Int → Int → Int) : TIp := fun x y H Q => ∃ i j, x = .int i ∧ y = .int j ∧ Q (.int (f i j)) H
theorem ip_add : PIp X .Add (ipI fun i j => i + j) := by
  intro pins s σ H x y v u Q I r1 r2 h
  obtain ⟨i, j, e1, e2, q⟩ := h
  subst e1; subst e2
  obtain ⟨t, rfl⟩ := r1
  obtain ⟨t', rfl⟩ := r2
  exact iadd_int ⟨.int _, H, I.tok _, ⟨_, rfl⟩, q⟩
end
section
variable {X : Cx} {pos : Pos}
def tWhile (c : TT) (tb : TS) : TS := fun D σ H => ∃ W : Nat → St → Hp → Prop, (∃ m, W m σ H) ∧ ∀ m σ H, W m σ H →
  c σ H fun b H1 => if b = true then ∃ N : St → Hp → Prop, (∀ σ' H', N σ' H' → ∃ m', m' < m ∧ W m' σ' H') ∧ tb { D with nx := N, ct := N, bk := D.nx } σ H1 else D.nx σ H1
theorem ps_while {c : Expr} {body : List Stmt} {tc : TT} {tb : TS} (hp : PassesOwn (model X.prog X.w) X.A X.env X.xe) (hc : PT X c tc) (hb : PSs X body tb) : PS X (.While c body [] pos) (tWhile tc tb) := by
  intro pins s σ H D I h
  obtain ⟨W, ⟨m0, w0⟩, turn⟩ := h
  refine wpAny_While (codeAny_whileLoop (fun n s' => ∃ σ' H', Inv X pins σ' H' s' ∧ W n σ' H') ?_ m0 ⟨σ, H, I, w0⟩)
  rintro n s1 ⟨σ1, H1, I1, w1⟩
  refine wpAny_passesOwn hp (thn (hc pins s1 σ1 H1 _ I1 (turn n σ1 H1 w1)) fun b s2 ⟨H2, I2, q2⟩ => ?_)
  cases b with
  | true =>
    obtain ⟨N, hN, q2⟩ := q2
    rw [if_pos rfl]
    refine wpAny_passesOwn hp (thn (hb pins s2 σ1 H2 _ I2 q2) fun f s3 q3 => ?_)
    cases f with
    | next =>
      obtain ⟨σ3, H3, I3, n3⟩ := q3
      obtain ⟨m', hm, w3⟩ := hN σ3 H3 n3
      exact ⟨m', hm, σ3, H3, I3, w3⟩
    | cont =>
      obtain ⟨σ3, H3, I3, n3⟩ := q3
      obtain ⟨m', hm, w3⟩ := hN σ3 H3 n3
      exact ⟨m', hm, σ3, H3, I3, w3⟩
    | brk => exact q3
    | ret v => exact q3
  | false =>
    rw [if_neg Bool.false_ne_true]
    exact wpAny_execs_nil ⟨σ1, H2, I2, q2⟩
end
structure It where
  go : Nat → Hp → Prop
  yld : Nat → Hp → V → Hp → Prop
  stop : Nat → Hp → Prop
def FpOk (X : Cx) (pins : List (Addr × Obj)) (H : Hp) (b : Addr) : Prop :=
  H b = none ∧ b ≠ X.env.locals ∧ b ∉ X.fs ∧ (b ∈ X.ex ∨ X.s₀.heap.objs.size ≤ b) ∧ (∀ x c, X.env.cells.lookup x = some c → c ≠ b) ∧ ∀ p ∈ X.pn ++ pins, p.1 ≠ b
theorem Inv.fpOk {X : Cx} {pins : List (Addr × Obj)} {σ : St} {H H' : Hp} {s : Shared} {b : Addr} (I : Inv X pins σ H s) (hb : s.heap.objs.size ≤ b) (hn : H' b = none) : FpOk X pins H' b := by
  refine ⟨hn, Nat.ne_of_gt (Nat.lt_of_lt_of_le I.lt hb), I.nofs hb, .inr (Nat.le_trans I.sz hb), fun x c e z => ?_, fun p hp z => ?_⟩
  · obtain ⟨v, q⟩ := I.cell x c e
    exact absurd (Nat.lt_of_lt_of_le q.lt (by rw [z]; exact hb)) (Nat.lt_irrefl _)
  · exact absurd (Nat.lt_of_lt_of_le (Heap.lt_size (I.pin p hp).1) (by rw [z]; exact hb)) (Nat.lt_irrefl _)
structure Turn (P : Program) (w : World) (K : PySem.W.Frag) (tg : Expr) (J : It) (fp : List Addr) (it : Addr) (tn : Nat → Heap → Prop) : Prop where
  mem : it ∈ fp
  obj : ∀ i h, tn i h → ∀ b ∈ fp, ∃ o, h.get? b = some o ∧ ∀ v, o.data ≠ .cell v
  keep : ∀ i h h', tn i h → (∀ b ∈ fp, ∀ o, h.get? b = some o → h'.get? b = some o) → tn i h'
  item : ∀ (X : Cx), X.prog = P → X.w = w → X.K = K → X.calm = true → ∀ (i : Nat) (pins : List (Addr × Obj)) (s : Shared) (σ : St) (H : Hp) (E : Value → Shared → Prop), Inv X pins σ H s → (∀ b ∈ fp, FpOk X pins H b) → tn i s.heap → J.go i H →
    wpAny (model P w) X.A (pyNext (.ref it)) (fun r s1 => ∃ u, r = some u ∧
      wpAny (model P w) X.A (letOwnedTupleGo tg (.ref it) u) (fun _ s2 => ∃ x H', Inv X pins σ H' s2 ∧ RelV x u ∧ J.yld i H x H' ∧ tn (i + 1) s2.heap ∧ ∀ b ∈ fp, H' b = none) E s1) E s
  done : ∀ (X : Cx), X.prog = P → X.w = w → X.K = K → X.calm = true → ∀ (i : Nat) (pins : List (Addr × Obj)) (s : Shared) (σ : St) (H : Hp) (E : Value → Shared → Prop), Inv X pins σ H s → (∀ b ∈ fp, FpOk X pins H b) → tn i s.heap → J.stop i H →
    wpAny (model P w) X.A (pyNext (.ref it)) (fun r s1 => r = none ∧ Inv X pins σ H s1) E s
  self : ∀ (A : Around) (i : Nat) (s : Shared) (Q : Value → Shared → Prop) (E : Value → Shared → Prop), tn i s.heap → Q (.ref it) s → wpAny (model P w) A (pyIter (.ref it)) Q E s
abbrev TI := St → Hp → (It → Hp → Prop) → Prop
def PIE (X : Cx) (pins : List (Addr × Obj)) (σ : St) (tg : Expr) (R : It → Hp → Prop) (itv : Value) (s2 : Shared) : Prop :=
  ∃ (it : Addr) (fp : List Addr) (tn : Nat → Heap → Prop) (J : It) (H' : Hp), itv = .ref it ∧ Inv X pins σ H' s2 ∧ Turn X.prog X.w X.K tg J fp it tn ∧ tn 0 s2.heap ∧ (∀ b ∈ fp, FpOk X pins H' b) ∧ R J H'
def PI (X : Cx) (tg iter : Expr) (wi : TI) : Prop :=
  ∀ (pins : List (Addr × Obj)) (s : Shared) (σ : St) (H : Hp) (R : It → Hp → Prop), Inv X pins σ H s → wi σ H R →
    wpAny (model X.prog X.w) X.A (eval iter X.env) (fun v s1 => wpAny (model X.prog X.w) X.A (pyIter v) (PIE X pins σ tg R) X.xe s1) X.xe s
theorem go_of {M : Model} {A : Around} {E : Value → Shared → Prop} {s : Shared} {tg : Expr} {it : Addr} {u : Value} {o : Obj} {n : String} {vs : Array Value} {Q : Unit → Shared → Prop} (ho : s.heap.get? it = some o) (hc : o.cls = .type n) (hd : o.data = .fields vs)
    (hn : ["enumerate", "zip", "dict_itemiterator", "dict_reverseitemiterator", "odict_iterator", "itertools.zip_longest", "itertools.pairwise"].contains n = false) (hQ : Q () s) : wpAny M A (letOwnedTupleGo tg (.ref it) u) Q E s := by
  unfold letOwnedTupleGo
  cases tg <;> first
    | exact wpAny_pure hQ
    | (cases u <;> first
        | exact wpAny_pure hQ
        | (refine wpAny_bind (wpAny_load ho ?_)
           rw [hc, hd]
           show wpAny M A (if (["enumerate", "zip", "dict_itemiterator", "dict_reverseitemiterator", "odict_iterator", "itertools.zip_longest", "itertools.pairwise"].contains n && vs[0]? == some (rawInt _)) = true then _ else _) Q E s
           rw [if_neg (by intro h; rw [hn, Bool.false_and] at h; cases h)]
           exact wpAny_pure hQ))
def Itl (K : PySem.W.Frag) (a : Addr) : It :=
  ⟨fun i H => ∃ xs x, SqL K H a xs ∧ xs[i]? = some x, fun i H x H' => H' = H ∧ ∀ xs, SqL K H a xs → xs[i]? = some x, fun i H => ∃ xs, SqL K H a xs ∧ xs.length ≤ i⟩
def Itt (K : PySem.W.Frag) (a : Addr) : It :=
  ⟨fun i H => ∃ xs x, SqT K H a xs ∧ xs[i]? = some x, fun i H x H' => H' = H ∧ ∀ xs, SqT K H a xs → xs[i]? = some x, fun i H => ∃ xs, SqT K H a xs ∧ xs.length ≤ i⟩
def Itr (lo : Int) (n : Nat) : It := ⟨fun i _ => i < n, fun i H x H' => H' = H ∧ x = .int (lo + i), fun i _ => n ≤ i⟩
theorem turn_list {P : Program} {w : World} {K : PySem.W.Frag} {tg : Expr} (a it : Addr) : Turn P w K tg (Itl K a) [it] it (fun i h => h.IsListIter it a i) where
  mem := by simp
  obj := fun i h st b hb => by
    have e : b = it := by simpa using hb
    subst e
    obtain ⟨o, e, c, d⟩ := st
    exact ⟨o, e, fun v z => by rw [d] at z; cases z⟩
  keep := fun i h h' st k => st.at fun o e => k it (by simp) o e
  item := by
    intro X hP hw hK hc i pins s σ H E I hf st hg
    subst hP hw hK
    obtain ⟨xs, x, hq, hx⟩ := hg
    obtain ⟨its, rv, p, hz⟩ := I.list hq
    obtain ⟨u, hu, ru⟩ := rv.get hx
    obtain ⟨f0, f1, f2, f3, f4, f5⟩ := hf it (by simp)
    refine wpAny_pyNext_list_item st p.isList (x := u) (by simpa using hu) fun h' st' sb => ?_
    have I1 : Inv X pins σ H { s with heap := h' } := I.turned (t' := s.toks) (fun b o hb e => (sb.2 b hb).trans e) f0 f1 f3 f4 f5
    obtain ⟨o, e, c, d⟩ := id st'
    exact ⟨u, rfl, go_of (s := { s with heap := h' }) e c d (by decide) ⟨x, H, I1, ru, ⟨rfl, fun ys hy => by rw [I.list_inj hy hq]; exact hx⟩, st', fun b hb => (hf b hb).1⟩⟩
  done := by
    intro X hP hw hK hc i pins s σ H E I hf st hg
    subst hP hw hK
    obtain ⟨xs, hq, hx⟩ := hg
    obtain ⟨its, rv, p, hz⟩ := I.list hq
    obtain ⟨f0, f1, f2, f3, f4, f5⟩ := hf it (by simp)
    have hl := rv.length
    exact wpAny_pyNext_list_end (I.ok.hd hc) st p.isList (by simp; omega) fun h' eb => ⟨rfl, I.turned (t' := s.toks) (fun b o hb e => eb b o hb e) f0 f1 f3 f4 f5⟩
  self := fun _ _ _ _ _ st h => wpAny_pyIter_listiter st h
theorem turn_range {P : Program} {w : World} {K : PySem.W.Frag} {tg : Expr} (it : Addr) (lo : Int) (n : Nat) : Turn P w K tg (Itr lo n) [it] it (fun i h => IsRangeIter h it (lo + (i : Nat) * 1) ((n : Int) - (i : Nat)) 1) where
  mem := by simp
  obj := fun i h st b hb => by
    have e : b = it := by simpa using hb
    subst e
    exact ⟨_, st, fun v z => by
      have z' : Data.fields _ = Data.cell v := z
      cases z'⟩
  keep := fun i h h' st k => k it (by simp) _ st
  item := by
    intro X hP hw hK hc i pins s σ H E I hf st hg
    subst hP hw hK
    obtain ⟨f0, f1, f2, f3, f4, f5⟩ := hf it (by simp)
    have W := Walks.range (prog := X.prog) (w := X.w) (I.ok.hd hc) it lo 1 n
    refine W.item i s _ _ hg st fun v h' tk hv st' kk => ?_
    obtain ⟨t, rfl⟩ := hv
    have I1 : Inv X pins σ H { s with heap := h', toks := tk } := I.turned (fun b o hb e => kk b o (by simpa using hb) e) f0 f1 f3 f4 f5
    refine ⟨_, rfl, go_of (s := { s with heap := h', toks := tk }) (n := "range_iterator") st' rfl rfl (by decide) ⟨.int (lo + i), H, I1, ⟨t, ?_⟩, ⟨rfl, rfl⟩, st', fun b hb => (hf b hb).1⟩⟩
    rw [Int.mul_one]
  done := by
    intro X hP hw hK hc i pins s σ H E I hf st hg
    subst hP hw hK
    obtain ⟨f0, f1, f2, f3, f4, f5⟩ := hf it (by simp)
    exact wpAny_pyNext_range_end (I.ok.hd hc) st (by have : n ≤ i := hg; omega) fun h' eb => ⟨rfl, I.turned (t' := s.toks) (fun b o hb e => eb b o hb e) f0 f1 f3 f4 f5⟩
  self := fun _ _ _ _ _ st h => wpAny_pyIter_rangeiter st h
end L2
namespace L2
open PySem PySem.Spec PyProof.Rows
section
variable {X : Cx} {tg : Expr}
def iList (K : PySem.W.Frag) (tl : TE) : TI := fun σ H R => tl σ H fun x H1 => ∃ a, x = .ref a ∧ (∃ xs, SqL K H1 a xs) ∧ R (Itl K a) H1
def iTup (K : PySem.W.Frag) (tl : TE) : TI := fun σ H R => tl σ H fun x H1 => ∃ a, x = .ref a ∧ (∃ xs, SqT K H1 a xs) ∧ R (Itt K a) H1
theorem pi_list {l : Expr} {tl : TE} (hl : PE X l tl) : PI X tg l (iList X.K tl) := by
  intro pins s σ H R I h
  refine thn (hl pins s σ H _ I h) fun v s1 ⟨x, H1, I1, r1, q1⟩ => ?_
  obtain ⟨a, e, ⟨xs, hq⟩, q⟩ := q1
  subst e
  cases r1
  obtain ⟨its, rv, p, hz⟩ := I1.list hq
  refine wpAny_pyIter_list p.isList ?_
  refine ⟨s1.heap.objs.size, [s1.heap.objs.size], _, _, H1, rfl, I1.kept (t' := s1.toks) fun b o e => Heap.get?_push_of_some _ e, turn_list a _, ⟨_, Heap.get?_push_size _ rfl, rfl, rfl⟩, fun b hb => ?_, q⟩
  have e : b = s1.heap.objs.size := by simpa using hb
  subst e
  exact I1.fpOk (Nat.le_refl _) (I1.hok.fresh (Nat.le_refl _))
theorem range_it {pins : List (Addr × Obj)} {σ : St} {H : Hp} {s : Shared} {R : It → Hp → Prop} {E : Value → Shared → Prop} {lo hi : Int} {t u v : Tok} {tk : Nat} (I : Inv X pins σ H s) (h1 : -(2 ^ 62) ≤ lo) (h2 : lo < 2 ^ 62) (h3 : -(2 ^ 62) ≤ hi) (h4 : hi < 2 ^ 62)
    (q : R (Itr lo (hi - lo).toNat) H) : wpAny (model X.prog X.w) X.A (pyIter (.ref s.heap.objs.size)) (PIE X pins σ tg R) E { s with heap := s.heap.push { cls := .type "range", data := .fields #[.int lo t, .int hi u, .int 1 v] }, toks := tk } := by
  refine wpAny_pyIter_range (IsRange.new ..) (small_one h1 h2 h3 h4) ?_
  have I1 : Inv X pins σ H { s with heap := s.heap.push { cls := .type "range", data := .fields #[.int lo t, .int hi u, .int 1 v] }, toks := tk } := I.kept fun b o e => Heap.get?_push_of_some _ e
  refine ⟨(s.heap.push { cls := .type "range", data := .fields #[.int lo t, .int hi u, .int 1 v] }).objs.size, [(s.heap.push { cls := .type "range", data := .fields #[.int lo t, .int hi u, .int 1 v] }).objs.size], _, _, H, rfl,
    I1.kept (t' := tk) fun b o e => Heap.get?_push_of_some _ e, turn_range _ lo (hi - lo).toNat, ?_, fun b hb => ?_, q⟩
  · have e1 : lo + ((0 : Nat) : Int) * 1 = lo := by simp
    have e2 : (((hi - lo).toNat : Nat) : Int) - ((0 : Nat) : Int) = Builtin.Range.rangeSize lo hi 1 := by rw [rangeSize_one]; split <;> omega
    show IsRangeIter _ _ (lo + ((0 : Nat) : Int) * 1) ((((hi - lo).toNat : Nat) : Int) - ((0 : Nat) : Int)) 1
    rw [e1, e2]
    exact Heap.get?_push_size _ rfl
  · have e : b = (s.heap.push { cls := .type "range", data := .fields #[.int lo t, .int hi u, .int 1 v] }).objs.size := by simpa using hb
    subst e
    exact I1.fpOk (Nat.le_refl _) (I1.hok.fresh (Nat.le_refl _))
def iRng1 (ta : TA) : TI := fun σ H R => ta σ H fun vs H1 => ∃ j : Int, vs = [.int j] ∧ -(2 ^ 62) ≤ j ∧ j < 2 ^ 62 ∧ R (Itr 0 j.toNat) H1
def iRng2 (ta : TA) : TI := fun σ H R => ta σ H fun vs H1 => ∃ i j : Int, vs = [.int i, .int j] ∧ (-(2 ^ 62) ≤ i ∧ i < 2 ^ 62 ∧ -(2 ^ 62) ≤ j ∧ j < 2 ^ 62) ∧ R (Itr i (j - i).toNat) H1
theorem pi_range1 {a : Expr} {ta : TA} {p pos : Pos} (hg : Gl X "range") (hm : X.mg "range" = none) (ha : PA X [a] ta) (hs : starEach [a] X.env = [(false, eval a X.env)] := by rfl) : PI X tg (.Call (.Name "range" p) [a] [] pos) (iRng1 ta) := by
  intro pins s σ H R I h
  refine Call_ (ld_blt I hg hm boot_range (PyProof.Rows.callWith_type1 (thn (ha pos pins s σ H _ I h) fun us s1 ⟨vs, H1, I1, r1, q1⟩ => ?_) hs rfl))
  obtain ⟨j, e, q1, q2, q⟩ := q1
  subst e
  cases r1 with
  | cons r rr =>
    cases rr
    obtain ⟨t, rfl⟩ := r
    exact call_range_1 (range_it I1 (by omega) (by omega) q1 q2 (by simpa using q))
theorem pi_range2 {a b : Expr} {ta : TA} {p pos : Pos} (hg : Gl X "range") (hm : X.mg "range" = none) (ha : PA X [a, b] ta) (hs : starEach [a, b] X.env = [(false, eval a X.env), (false, eval b X.env)] := by rfl) (hs2 : starEach [b] X.env = [(false, eval b X.env)] := by rfl) :
    PI X tg (.Call (.Name "range" p) [a, b] [] pos) (iRng2 ta) := by
  intro pins s σ H R I h
  refine Call_ (ld_blt I hg hm boot_range (PyProof.Rows.callWith_type1 (thn (ha pos pins s σ H _ I h) fun us s1 ⟨vs, H1, I1, r1, q1⟩ => ?_) (by rw [hs, hs2]) (by rw [hs2]; rfl)))
  obtain ⟨i, j, e, ⟨q1, q2, q3, q4⟩, q⟩ := q1
  subst e
  cases r1 with
  | cons r rr =>
    cases rr with
    | cons r' rr =>
      cases rr
      obtain ⟨t, rfl⟩ := r
      obtain ⟨t', rfl⟩ := r'
      exact call_range_2 (range_it I1 q1 q2 q3 q4 q)
def tFor (wi : TI) (g : TG) (tb : TS) : TS := fun D σ H => wi σ H fun J H1 => ∃ W : Nat → Nat → St → Hp → Prop, (∃ m, W 0 m σ H1) ∧ ∀ i m σ H, W i m σ H →
  (J.stop i H ∧ D.nx σ H) ∨ (J.go i H ∧ ∃ N : St → Hp → Prop, (∀ σ' H', N σ' H' → ∃ m', m' < m ∧ W (i + 1) m' σ' H') ∧ ∀ x H', J.yld i H x H' → g x σ H' fun σ2 H2 => tb { D with nx := N, ct := N, bk := D.nx } σ2 H2)
def pinsAt (fp : List Addr) (h : Heap) : List (Addr × Obj) := fp.filterMap fun b => (h.get? b).map fun o => (b, o)
theorem mem_pinsAt {fp : List Addr} {h : Heap} {b : Addr} {o : Obj} (hb : b ∈ fp) (e : h.get? b = some o) : (b, o) ∈ pinsAt fp h := List.mem_filterMap.mpr ⟨b, hb, by rw [e]; rfl⟩
theorem of_pinsAt {fp : List Addr} {h : Heap} {p : Addr × Obj} (hp : p ∈ pinsAt fp h) : p.1 ∈ fp ∧ h.get? p.1 = some p.2 := by
  obtain ⟨b, hb, e⟩ := List.mem_filterMap.mp hp
  cases q : h.get? b with
  | none => rw [q] at e; cases e
  | some o =>
    rw [q] at e
    have e' : (b, o) = p := Option.some.inj e
    subst e'
    exact ⟨hb, q⟩
theorem Inv.pinned {pins : List (Addr × Obj)} {σ : St} {H : Hp} {s : Shared} {fp : List Addr} (I : Inv X pins σ H s) (hf : ∀ b ∈ fp, FpOk X pins H b) (ho : ∀ b ∈ fp, ∃ o, s.heap.get? b = some o ∧ ∀ v, o.data ≠ .cell v) : Inv X (pins ++ pinsAt fp s.heap) σ H s :=
  I.pins_of fun p hp => (List.mem_append.mp hp).elim (fun z => I.pin p (List.mem_append_right _ z)) fun z => by
    obtain ⟨hb, e⟩ := of_pinsAt z
    obtain ⟨f0, f1, f2, _⟩ := hf p.1 hb
    obtain ⟨o, e', d⟩ := ho p.1 hb
    rw [e] at e'; cases e'
    exact ⟨e, f0, f1, f2, d⟩
theorem Inv.unpinned {pins pl : List (Addr × Obj)} {σ : St} {H : Hp} {s : Shared} (I : Inv X (pins ++ pl) σ H s) : Inv X pins σ H s := I.pins_of fun p hp => I.pin p (List.mem_append_right _ (List.mem_append_left _ hp))
theorem ps_for {iter : Expr} {body : List Stmt} {wi : TI} {g : TG} {tb : TS} {pos : Pos} (hp : PassesOwn (model X.prog X.w) X.A X.env X.xe) (hc : X.calm = true) (hi : PI X tg iter wi) (hg : PG X tg g) (hb : PSs X body tb)
    (hs : ∀ x, foldedSetIterable iter X.env x = pure x := by intro _; rfl) : PS X (.For tg iter body [] pos) (tFor wi g tb) := by
  intro pins s σ H D I h
  refine wpAny_For (thn (hi pins s σ H _ I h) fun v s1 h1 => thn h1 fun itv s2 h2 => ?_) hs
  obtain ⟨it, fp, tn, J, H2, e, I2, T, st2, f2, W, ⟨m0, w0⟩, turn⟩ := h2
  subst e
  have stat : ∀ {H' : Hp}, (∀ b ∈ fp, H' b = none) → ∀ b ∈ fp, FpOk X pins H' b := fun hn b hb => ⟨hn b hb, (f2 b hb).2⟩
  refine codeAny_forLoop_any (fun n s' => ∃ i σ' H', Inv X pins σ' H' s' ∧ tn i s'.heap ∧ (∀ b ∈ fp, H' b = none) ∧ W i n σ' H') ?_ m0 ⟨0, σ, H2, I2, st2, fun b hb => (f2 b hb).1, w0⟩
  rintro n s3 ⟨i, σ3, H3, I3, st3, fr3, w3⟩
  rcases turn i n σ3 H3 w3 with ⟨stop, qn⟩ | ⟨go, N, hN, step⟩
  · refine wpAny_passesOwn hp (thn (T.done X rfl rfl rfl hc i pins s3 σ3 H3 X.xe I3 (stat fr3) st3 stop) fun r s4 ⟨hr, I4⟩ => ?_)
    subst hr
    exact wpAny_execs_nil ⟨σ3, H3, I4, qn⟩
  · refine wpAny_passesOwn hp (thn (T.item X rfl rfl rfl hc i pins s3 σ3 H3 X.xe I3 (stat fr3) st3 go) fun r s4 ⟨u, hr, h4⟩ => ?_)
    subst hr
    refine wpAny_passesOwn hp (thn h4 fun _ s5 ⟨x, H5, I5, r5, y5, st5, fr5⟩ => ?_)
    have I5' := I5.pinned (stat fr5) (T.obj _ _ st5)
    refine wpAny_passesOwn hp (thn (hg _ s5 σ3 H5 x u _ I5' r5 (step x H5 y5)) fun _ s6 ⟨σ6, H6, I6, q6⟩ => ?_)
    refine wpAny_passesOwn hp (thn (hb _ s6 σ6 H6 _ I6 q6) fun f s7 q7 => ?_)
    have again : ∀ {σ7 : St} {H7 : Hp}, Inv X (pins ++ pinsAt fp s5.heap) σ7 H7 s7 → N σ7 H7 → ∃ m, m < n ∧ ∃ i σ' H', Inv X pins σ' H' s7 ∧ tn i s7.heap ∧ (∀ b ∈ fp, H' b = none) ∧ W i m σ' H' := fun {σ7 H7} I7 n7 => by
      obtain ⟨m', hm, w7⟩ := hN σ7 H7 n7
      refine ⟨m', hm, i + 1, σ7, H7, I7.unpinned, T.keep _ _ _ st5 fun b hb o e => (I7.pin (b, o) (List.mem_append_right _ (List.mem_append_right _ (mem_pinsAt hb e)))).1, fun b hb => ?_, w7⟩
      obtain ⟨o, e, d⟩ := T.obj _ _ st5 b hb
      exact (I7.pin (b, o) (List.mem_append_right _ (List.mem_append_right _ (mem_pinsAt hb e)))).2.1
    cases f with
    | next => obtain ⟨σ7, H7, I7, n7⟩ := q7; exact again I7 n7
    | cont => obtain ⟨σ7, H7, I7, n7⟩ := q7; exact again I7 n7
    | brk => obtain ⟨σ7, H7, I7, q7⟩ := q7; exact ⟨σ7, H7, I7.unpinned, q7⟩
    | ret v => obtain ⟨x7, σ7, H7, I7, r7, q7⟩ := q7; exact ⟨x7, σ7, H7, I7.unpinned, r7, q7⟩
end
theorem for_list {K : PySem.W.Frag} {a : Addr} {xs : List V} {g : TG} {tb : TS} {D : Ends} {σ : St} {H : Hp} (Pv : Nat → St → Hp → Prop) (h0 : Pv 0 σ H) (hl : ∀ i σ H, i ≤ xs.length → Pv i σ H → SqL K H a xs)
    (hs : ∀ i x σ H, xs[i]? = some x → Pv i σ H → g x σ H fun σ2 H2 => tb { D with nx := Pv (i + 1), ct := Pv (i + 1), bk := D.nx } σ2 H2) (hd : ∀ σ H, Pv xs.length σ H → D.nx σ H) :
    ∃ W : Nat → Nat → St → Hp → Prop, (∃ m, W 0 m σ H) ∧ ∀ i m σ H, W i m σ H →
      ((Itl K a).stop i H ∧ D.nx σ H) ∨ ((Itl K a).go i H ∧ ∃ N : St → Hp → Prop, (∀ σ' H', N σ' H' → ∃ m', m' < m ∧ W (i + 1) m' σ' H') ∧ ∀ x H', (Itl K a).yld i H x H' → g x σ H' fun σ2 H2 => tb { D with nx := N, ct := N, bk := D.nx } σ2 H2) := by
  refine ⟨fun i m σ H => m = xs.length - i ∧ i ≤ xs.length ∧ Pv i σ H, ⟨xs.length, by simp, Nat.zero_le _, h0⟩, ?_⟩
  rintro i m σ H ⟨rfl, hi, p⟩
  have q := hl i σ H hi p
  by_cases hlt : i < xs.length
  · refine .inr ⟨⟨xs, xs[i], q, by simp [hlt]⟩, Pv (i + 1), fun σ' H' p' => ⟨xs.length - (i + 1), by omega, rfl, hlt, p'⟩, fun x H' y => ?_⟩
    obtain ⟨e, y⟩ := y
    subst e
    exact hs i x σ _ (y xs q) p
  · have e : i = xs.length := by omega
    subst e
    exact .inl ⟨⟨xs, q, Nat.le_refl _⟩, hd σ H p⟩
theorem for_range {lo : Int} {n : Nat} {g : TG} {tb : TS} {D : Ends} {σ : St} {H : Hp} (Pv : Nat → St → Hp → Prop) (h0 : Pv 0 σ H)
    (hs : ∀ i σ H, i < n → Pv i σ H → g (.int (lo + i)) σ H fun σ2 H2 => tb { D with nx := Pv (i + 1), ct := Pv (i + 1), bk := D.nx } σ2 H2) (hd : ∀ σ H, Pv n σ H → D.nx σ H) :
    ∃ W : Nat → Nat → St → Hp → Prop, (∃ m, W 0 m σ H) ∧ ∀ i m σ H, W i m σ H →
      ((Itr lo n).stop i H ∧ D.nx σ H) ∨ ((Itr lo n).go i H ∧ ∃ N : St → Hp → Prop, (∀ σ' H', N σ' H' → ∃ m', m' < m ∧ W (i + 1) m' σ' H') ∧ ∀ x H', (Itr lo n).yld i H x H' → g x σ H' fun σ2 H2 => tb { D with nx := N, ct := N, bk := D.nx } σ2 H2) := by
  refine ⟨fun i m σ H => m = n - i ∧ i ≤ n ∧ Pv i σ H, ⟨n, by simp, Nat.zero_le _, h0⟩, ?_⟩
  rintro i m σ H ⟨rfl, hi, p⟩
  by_cases hlt : i < n
  · refine .inr ⟨hlt, Pv (i + 1), fun σ' H' p' => ⟨n - (i + 1), by omega, rfl, hlt, p'⟩, fun x H' y => ?_⟩
    obtain ⟨e, y⟩ := y
    subst e y
    exact hs i σ _ hlt p
  · have e : i = n := by omega
    subst e
    exact .inl ⟨Nat.le_refl _, hd σ H p⟩
end L2
namespace L2
open PySem PySem.Spec PyProof.Rows
abbrev R2 := V → V → Hp → VK → Prop
def OpR (X : Cx) (f : Value → Value → Sem Value) (r : R2) : Prop :=
  ∀ (pins : List (Addr × Obj)) (s : Shared) (σ : St) (H : Hp) (x y : V) (v u : Value) (Q : VK), Inv X pins σ H s → RelV x v → RelV y u → r x y H Q →
    wpAny (model X.prog X.w) X.A (f v u) (EP X pins σ Q) X.xe s
def UnR (X : Cx) (f : Value → Sem Value) (r : V → Hp → VK → Prop) : Prop :=
  ∀ (pins : List (Addr × Obj)) (s : Shared) (σ : St) (H : Hp) (x : V) (v : Value) (Q : VK), Inv X pins σ H s → RelV x v → r x H Q →
    wpAny (model X.prog X.w) X.A (f v) (EP X pins σ Q) X.xe s
def CallR (X : Cx) (f : Value) (r : List V → Hp → VK → Prop) : Prop :=
  ∀ (pins : List (Addr × Obj)) (s : Shared) (σ : St) (H : Hp) (xs : List V) (us : List Value) (Q : VK), Inv X pins σ H s → Vals xs us → r xs H Q →
    wpAny (model X.prog X.w) X.A (call f us) (EP X pins σ Q) X.xe s
def tOp (r : R2) (ta tb : TE) : TE := fun σ H Q => ta σ H fun x H1 => tb σ H1 fun y H2 => r x y H2 Q
def tUn (r : V → Hp → VK → Prop) (ta : TE) : TE := fun σ H Q => ta σ H fun x H1 => r x H1 Q
def rI (C : Int → Int → Prop) (g : Int → Int → V) : R2 := fun x y H Q => ∃ i j, x = .int i ∧ y = .int j ∧ C i j ∧ Q (g i j) H
def rI0 (g : Int → Int → V) : R2 := fun x y H Q => ∃ i j, x = .int i ∧ y = .int j ∧ Q (g i j) H
def rU (g : Int → V) : V → Hp → VK → Prop := fun x H Q => ∃ i, x = .int i ∧ Q (g i) H
section
variable {X : Cx} {a b c : Expr} {ta tb tc : TE} {pos : Pos}
theorem binT (ha : PE X a ta) (hb : PE X b tb) {pins : List (Addr × Obj)} {s : Shared} {σ : St} {H : Hp} {R : V → V → Hp → Prop} (I : Inv X pins σ H s)
    (h : ta σ H fun x H1 => tb σ H1 fun y H2 => R x y H2) {Q : Value → Shared → Prop} {f : Value → Value → Sem Value}
    (hf : ∀ v u s2 x y H2, Inv X pins σ H2 s2 → RelV x v → RelV y u → R x y H2 → wpAny (model X.prog X.w) X.A (f v u) Q X.xe s2) :
    wpAny (model X.prog X.w) X.A (eval a X.env) (fun v s₁ => wpAny (model X.prog X.w) X.A (eval b X.env) (fun u s₂ => wpAny (model X.prog X.w) X.A (f v u) Q X.xe s₂) X.xe s₁) X.xe s := by
  refine thn (ha pins s σ H _ I h) fun v s1 ⟨x, H1, I1, r1, q1⟩ => ?_
  refine thn (hb pins s1 σ H1 _ I1 q1) fun u s2 ⟨y, H2, I2, r2, q2⟩ => ?_
  exact hf v u s2 x y H2 I2 r1 r2 q2
theorem pe_op {op : Operator} {r : R2} (ho : OpR X (binaryOp op) r) (ha : PE X a ta) (hb : PE X b tb) : PE X (.BinOp a op b pos) (tOp r ta tb) := by
  intro pins s σ H Q I h
  exact wpAny_BinOp (binT ha hb I h fun v u s2 x y H2 I2 rx ry q => ho pins s2 σ H2 x y v u Q I2 rx ry q)
theorem pe_un {op : UnaryOp} {r : V → Hp → VK → Prop} (ho : UnR X (unaryOp op) r) (ha : PE X a ta) : PE X (.UnaryOp op a pos) (tUn r ta) := by
  intro pins s σ H Q I h
  exact UnaryOp_ (thn (ha pins s σ H _ I h) fun v s1 ⟨x, H1, I1, r1, q1⟩ => ho pins s1 σ H1 x v Q I1 r1 q1)
theorem opI {f : Value → Value → Sem Value} {C : Int → Int → Prop} {g : Int → Int → Int}
    (rule : ∀ (i j : Int) (t u : Tok) (s : Shared) (Q : Value → Shared → Prop) (E : Value → Shared → Prop), C i j → Q (.int (g i j) s.toks) { s with toks := s.toks + 1 } → wpAny (model X.prog X.w) X.A (f (.int i t) (.int j u)) Q E s) :
    OpR X f (rI C fun i j => .int (g i j)) := by
  intro pins s σ H x y v u Q I rx ry h
  obtain ⟨i, j, rfl, rfl, hc, q⟩ := h
  obtain ⟨t, rfl⟩ := rx
  obtain ⟨t', rfl⟩ := ry
  exact rule i j t t' s _ _ hc ⟨.int (g i j), H, I.tok _, ⟨_, rfl⟩, q⟩
theorem opI0 {f : Value → Value → Sem Value} {g : Int → Int → Int}
    (rule : ∀ (i j : Int) (t u : Tok) (s : Shared) (Q : Value → Shared → Prop) (E : Value → Shared → Prop), Q (.int (g i j) s.toks) { s with toks := s.toks + 1 } → wpAny (model X.prog X.w) X.A (f (.int i t) (.int j u)) Q E s) :
    OpR X f (rI0 fun i j => .int (g i j)) := by
  intro pins s σ H x y v u Q I rx ry h
  obtain ⟨i, j, rfl, rfl, q⟩ := h
  obtain ⟨t, rfl⟩ := rx
  obtain ⟨t', rfl⟩ := ry
  exact rule i j t t' s _ _ ⟨.int (g i j), H, I.tok _, ⟨_, rfl⟩, q⟩
theorem opB0 {f : Value → Value → Sem Value} {g : Int → Int → Bool}
    (rule : ∀ (i j : Int) (t u : Tok) (s : Shared) (Q : Value → Shared → Prop) (E : Value → Shared → Prop), Q (.bool (g i j)) s → wpAny (model X.prog X.w) X.A (f (.int i t) (.int j u)) Q E s) :
    OpR X f (rI0 fun i j => .bl (g i j)) := by
  intro pins s σ H x y v u Q I rx ry h
  obtain ⟨i, j, rfl, rfl, q⟩ := h
  obtain ⟨t, rfl⟩ := rx
  obtain ⟨t', rfl⟩ := ry
  exact rule i j t t' s _ _ ⟨.bl (g i j), H, I, rfl, q⟩
theorem op_add : OpR X (binaryOp .Add) (rI0 fun i j => .int (i + j)) := opI0 fun _ _ _ _ _ _ _ q => add_int q
theorem op_sub : OpR X (binaryOp .Sub) (rI0 fun i j => .int (i - j)) := opI0 fun _ _ _ _ _ _ _ q => sub_int q
theorem op_mod : OpR X (binaryOp .Mod) (rI (fun _ j => 0 < j) fun i j => .int (i % j)) := opI fun i j _ _ _ _ _ hc q => by
  have h1 : (0 : Int) < j := hc
  exact mod_int' (by omega) (by rw [Int.fmod_eq_emod_of_nonneg i (by omega)]; exact q)
theorem unI {f : Value → Sem Value} {g : Int → Int}
    (rule : ∀ (i : Int) (t : Tok) (s : Shared) (Q : Value → Shared → Prop) (E : Value → Shared → Prop), Q (.int (g i) s.toks) { s with toks := s.toks + 1 } → wpAny (model X.prog X.w) X.A (f (.int i t)) Q E s) :
    UnR X f (rU fun i => .int (g i)) := by
  intro pins s σ H x v Q I rx h
  obtain ⟨i, rfl, q⟩ := h
  obtain ⟨t, rfl⟩ := rx
  exact rule i t s _ _ ⟨.int (g i), H, I.tok _, ⟨_, rfl⟩, q⟩
theorem un_neg : UnR X (unaryOp .USub) (rU fun i => .int (-i)) := unI fun _ _ _ _ _ q => neg_int q
end
def scal : V → V → Bool
  | .non, .non => true | .non, .int _ => true | .int _, .non => true | .non, .bl _ => true | .bl _, .non => true | .non, .str _ => true | .str _, .non => true
  | .int _, .int _ => true | .bl _, .bl _ => true | .str _, .str _ => true | .byt _, .byt _ => true
  | .int _, .str _ => true | .str _, .int _ => true | .bl _, .str _ => true | .str _, .bl _ => true
  | _, _ => false
def rEq : R2 := fun x y H Q => scal x y = true ∧ Q (.bl (decide (x = y))) H
def rNe : R2 := fun x y H Q => scal x y = true ∧ Q (.bl (!decide (x = y))) H
theorem dec_int {i j : Int} : decide (V.int i = V.int j) = (i == j) := by
  rw [Bool.eq_iff_iff]
  simp
theorem dec_bl {i j : Bool} : decide (V.bl i = V.bl j) = (i == j) := by
  rw [Bool.eq_iff_iff]
  simp
theorem dec_str {i j : Str} : decide (V.str i = V.str j) = (i == j) := by
  rw [Bool.eq_iff_iff]
  simp
theorem dec_byt {i j : Array UInt8} : decide (V.byt i = V.byt j) = (i.toList == j.toList) := by
  rw [Bool.eq_iff_iff]
  cases i
  cases j
  simp
section
variable {X : Cx} {a b c : Expr} {ta tb tc : TE} {pos : Pos}
theorem fin_bl {pins : List (Addr × Obj)} {σ : St} {H : Hp} {s : Shared} {Q : VK} {k k' : Bool} (I : Inv X pins σ H s) (q : Q (.bl k) H) (e : k = k') : EP X pins σ Q (.bool k') s := by
  subst e
  exact ⟨.bl k, H, I, rfl, q⟩
theorem op_eq : OpR X (compareOp .Eq) rEq := by
  intro pins s σ H x y v u Q I rx ry h
  obtain ⟨hs, q⟩ := h
  cases x with
  | non =>
    cases rx
    cases y with
    | non => cases ry; exact PySem.EqNone.eq_none_none (fin_bl I q (by simp))
    | bl j => cases ry; exact PySem.EqNone.eq_none_bool (fin_bl I q (by simp))
    | int j => obtain ⟨t', rfl⟩ := ry; exact PySem.EqNone.eq_none_int (fin_bl I q (by simp))
    | str j => obtain ⟨t', rfl⟩ := ry; exact PySem.EqNone.eq_none_str (fin_bl I q (by simp))
    | _ => exact absurd (show false = true from hs) Bool.false_ne_true
  | bl i =>
    cases rx
    cases y with
    | non => cases ry; exact PySem.EqNone.eq_bool_none (fin_bl I q (by simp))
    | bl j => cases ry; exact eq_bool (fin_bl I q dec_bl)
    | str j => obtain ⟨t', rfl⟩ := ry; exact PySem.EqMixed.eq_bool_str (fin_bl I q (by simp))
    | _ => exact absurd (show false = true from hs) Bool.false_ne_true
  | int i =>
    obtain ⟨t, rfl⟩ := rx
    cases y with
    | non => cases ry; exact PySem.EqNone.eq_int_none (fin_bl I q (by simp))
    | int j => obtain ⟨t', rfl⟩ := ry; exact eq_int (fin_bl I q dec_int)
    | str j => obtain ⟨t', rfl⟩ := ry; exact PySem.EqMixed.eq_int_str (fin_bl I q (by simp))
    | _ => exact absurd (show false = true from hs) Bool.false_ne_true
  | str i =>
    obtain ⟨t, rfl⟩ := rx
    cases y with
    | non => cases ry; exact PySem.EqNone.eq_str_none (fin_bl I q (by simp))
    | bl j => cases ry; exact PySem.EqMixed.eq_str_bool (fin_bl I q (by simp))
    | int j => obtain ⟨t', rfl⟩ := ry; exact PySem.EqMixed.eq_str_int (fin_bl I q (by simp))
    | str j => obtain ⟨t', rfl⟩ := ry; exact eq_str (fin_bl I q dec_str)
    | _ => exact absurd (show false = true from hs) Bool.false_ne_true
  | byt i =>
    obtain ⟨t, rfl⟩ := rx
    cases y with
    | byt j => obtain ⟨t', rfl⟩ := ry; exact PySem.W.eq_bytes (fin_bl I q dec_byt)
    | _ => exact absurd (show false = true from hs) Bool.false_ne_true
  | _ => cases y <;> exact absurd (show false = true from hs) Bool.false_ne_true
theorem op_ne : OpR X (compareOp .NotEq) rNe := by
  intro pins s σ H x y v u Q I rx ry h
  obtain ⟨hs, q⟩ := h
  cases x with
  | non =>
    cases rx
    cases y with
    | non => cases ry; exact PySem.EqNone.ne_none_none (fin_bl I q (by simp))
    | bl j => cases ry; exact PySem.EqNone.ne_none_bool (fin_bl I q (by simp))
    | int j => obtain ⟨t', rfl⟩ := ry; exact PySem.EqNone.ne_none_int (fin_bl I q (by simp))
    | str j => obtain ⟨t', rfl⟩ := ry; exact PySem.EqNone.ne_none_str (fin_bl I q (by simp))
    | _ => exact absurd (show false = true from hs) Bool.false_ne_true
  | bl i =>
    cases rx
    cases y with
    | non => cases ry; exact PySem.EqNone.ne_bool_none (fin_bl I q (by simp))
    | bl j => cases ry; exact ne_bool (fin_bl I q (congrArg not dec_bl))
    | str j => obtain ⟨t', rfl⟩ := ry; exact PySem.EqMixed.ne_bool_str (fin_bl I q (by simp))
    | _ => exact absurd (show false = true from hs) Bool.false_ne_true
  | int i =>
    obtain ⟨t, rfl⟩ := rx
    cases y with
    | non => cases ry; exact PySem.EqNone.ne_int_none (fin_bl I q (by simp))
    | int j => obtain ⟨t', rfl⟩ := ry; exact ne_int (fin_bl I q (congrArg not dec_int))
    | str j => obtain ⟨t', rfl⟩ := ry; exact PySem.EqMixed.ne_int_str (fin_bl I q (by simp))
    | _ => exact absurd (show false = true from hs) Bool.false_ne_true
  | str i =>
    obtain ⟨t, rfl⟩ := rx
    cases y with
    | non => cases ry; exact PySem.EqNone.ne_str_none (fin_bl I q (by simp))
    | bl j => cases ry; exact PySem.EqMixed.ne_str_bool (fin_bl I q (by simp))
    | int j => obtain ⟨t', rfl⟩ := ry; exact PySem.EqMixed.ne_str_int (fin_bl I q (by simp))
    | str j => obtain ⟨t', rfl⟩ := ry; exact ne_str (fin_bl I q (congrArg not dec_str))
    | _ => exact absurd (show false = true from hs) Bool.false_ne_true
  | byt i =>
    obtain ⟨t, rfl⟩ := rx
    cases y with
    | byt j => obtain ⟨t', rfl⟩ := ry; exact PySem.W.ne_bytes (fin_bl I q (congrArg not dec_byt))
    | _ => exact absurd (show false = true from hs) Bool.false_ne_true
  | _ => cases y <;> exact absurd (show false = true from hs) Bool.false_ne_true
theorem op_lt : OpR X (compareOp .Lt) (rI0 fun i j => .bl (decide (i < j))) := opB0 fun _ _ _ _ _ _ _ q => lt_int q
theorem op_le : OpR X (compareOp .LtE) (rI0 fun i j => .bl (decide (i ≤ j))) := opB0 fun _ _ _ _ _ _ _ q => le_int q
theorem op_gt : OpR X (compareOp .Gt) (rI0 fun i j => .bl (decide (j < i))) := opB0 fun _ _ _ _ _ _ _ q => gt_int q
theorem op_in_str : OpR X (compareOp .In) (fun x y H Q => ∃ i j, x = .str i ∧ y = .str j ∧ Q (.bl (!(Builtin.Str.occurrences j i 0 j.length 1).isEmpty)) H) := by
  intro pins s σ H x y v u Q I rx ry h
  obtain ⟨i, j, rfl, rfl, q⟩ := h
  obtain ⟨t, rfl⟩ := rx
  obtain ⟨t', rfl⟩ := ry
  exact in_str (fin_bl I q rfl)
theorem op_isN : OpR X (compareOp .Is) (fun x y H Q => y = .non ∧ Q (.bl (decide (x = .non))) H) := by
  intro pins s σ H x y v u Q I rx ry h
  obtain ⟨rfl, q⟩ := h
  cases ry
  refine is_none_gen (fin_bl I q ?_)
  cases x <;> first
    | (cases rx; rfl)
    | (obtain ⟨t, rfl⟩ := rx; rfl)
theorem nomark (b : Expr) {op : CmpOp} (h : op ≠ .In := by decide) (h2 : op ≠ .NotIn := by decide) : behindInMarks op b = false := by
  have e1 : (op == CmpOp.In) = false := by cases op <;> first | rfl | exact absurd rfl h
  have e2 : (op == CmpOp.NotIn) = false := by cases op <;> first | rfl | exact absurd rfl h2
  cases b <;> simp [behindInMarks, e1, e2]
theorem pe_cmpR {op : CmpOp} {r : R2} (ho : OpR X (compareOp op) r) (ha : PE X a ta) (hb : PE X b tb) (hm : behindInMarks op b = false) : PE X (.Compare a [op] [b] pos) (tOp r ta tb) := by
  intro pins s σ H Q I h
  exact wpAny_Compare1 (binT ha hb I h fun v u s2 x y H2 I2 rx ry q => ho pins s2 σ H2 x y v u Q I2 rx ry q) hm
def tTest (t : TE) : TT := fun σ H Q => t σ H fun x H' => ∃ k, x = .bl k ∧ Q k H'
theorem pt_cmpR {op : CmpOp} {r : R2} (ho : OpR X (compareOp op) r) (ha : PE X a ta) (hb : PE X b tb) (hm : behindInMarks op b = false) : PT X (.Compare a [op] [b] pos) (tTest (tOp r ta tb)) := by
  intro pins s σ H Q I h
  refine wpAny_isTrue_Compare1 (thn (ha pins s σ H _ I h) fun v s1 ⟨x, H1, I1, r1, q1⟩ => thn (hb pins s1 σ H1 _ I1 q1) fun u s2 ⟨y, H2, I2, r2, q2⟩ =>
    thn (ho pins s2 σ H2 x y v u _ I2 r1 r2 q2) fun c s3 ⟨z, H3, I3, r3, k, e, q3⟩ => ?_) hm
  subst e
  cases r3
  exact wpAny_truthy_bool ⟨H3, I3, q3⟩
def tChain (r r' : R2) (ta tb tc : TE) : TE := fun σ H Q => ta σ H fun x H1 => tb σ H1 fun y H2 => r x y H2 fun z H3 => ∃ k, z = .bl k ∧
  (if k = true then tc σ H3 fun w' H4 => r' y w' H4 Q else Q (.bl false) H3)
theorem line63 : (sizeLine : Nat) < 2 ^ 63 := by rw [sizeLine_eq]; decide
theorem op_add_str : OpR X (binaryOp .Add) (fun x y H Q => ∃ i j, x = .str i ∧ y = .str j ∧ i.length + j.length ≤ sizeLine ∧ Q (.str (i ++ j)) H) := by
  intro pins s σ H x y v u Q I rx ry h
  obtain ⟨i, j, rfl, rfl, hz, q⟩ := h
  obtain ⟨t, rfl⟩ := rx
  obtain ⟨t', rfl⟩ := ry
  exact add_str (fun t' tk => ⟨.str (i ++ j), H, I.tok _, ⟨_, rfl⟩, q⟩) hz
theorem vals1 {x : V} {us : List Value} (r : Vals [x] us) : ∃ u, us = [u] ∧ RelV x u := by
  cases r with
  | cons r1 r2 => cases r2; exact ⟨_, rfl, r1⟩
theorem vals2 {x y : V} {us : List Value} (r : Vals [x, y] us) : ∃ u w', us = [u, w'] ∧ RelV x u ∧ RelV y w' := by
  cases r with
  | cons r1 r2 =>
    cases r2 with
    | cons r3 r4 => cases r4; exact ⟨_, _, rfl, r1, r3⟩
theorem call_abs : CallR X (.builtin "abs") (fun xs H Q => ∃ i, xs = [.int i] ∧ Q (.int (if i < 0 then -i else i)) H) := by
  intro pins s σ H xs us Q I r h
  obtain ⟨i, rfl, q⟩ := h
  obtain ⟨u, rfl, t, rfl⟩ := vals1 r
  exact call_abs_int fun u tk => ⟨.int (if i < 0 then -i else i), H, I.tok _, ⟨_, rfl⟩, q⟩
theorem call_max2 (hc : X.calm = true) : CallR X (.builtin "max") (fun xs H Q => ∃ i j, xs = [.int i, .int j] ∧ Q (.int (if j > i then j else i)) H) := by
  intro pins s σ H xs us Q I r h
  obtain ⟨i, j, rfl, q⟩ := h
  obtain ⟨u, w', rfl, ⟨t, rfl⟩, ⟨t', rfl⟩⟩ := vals2 r
  refine max_two_ints (I.ok.hd hc) fun h' tk k => ⟨_, H, I.kept k, ?_, q⟩
  by_cases hj : j > i
  · rw [if_pos hj, if_pos hj]; exact ⟨_, rfl⟩
  · rw [if_neg hj, if_neg hj]; exact ⟨_, rfl⟩
theorem call_min2 (hc : X.calm = true) : CallR X (.builtin "min") (fun xs H Q => ∃ i j, xs = [.int i, .int j] ∧ Q (.int (if j < i then j else i)) H) := by
  intro pins s σ H xs us Q I r h
  obtain ⟨i, j, rfl, q⟩ := h
  obtain ⟨u, w', rfl, ⟨t, rfl⟩, ⟨t', rfl⟩⟩ := vals2 r
  refine min_two_ints (I.ok.hd hc) fun h' tk k => ⟨_, H, I.kept k, ?_, q⟩
  by_cases hj : j < i
  · rw [if_pos hj, if_pos hj]; exact ⟨_, rfl⟩
  · rw [if_neg hj, if_neg hj]; exact ⟨_, rfl⟩
theorem call_str_int : CallR X (.type "str") (fun xs H Q => ∃ i, xs = [.int i] ∧ i.natAbs.log2 < 1920 ∧ Q (.str (toString i)) H) := by
  intro pins s σ H xs us Q I r h
  obtain ⟨i, rfl, hz, q⟩ := h
  obtain ⟨u, rfl, t, rfl⟩ := vals1 r
  exact PySem.P.str_of_int hz ⟨.str _, H, I.tok _, ⟨_, rfl⟩, q⟩
end
end L2
namespace L2
open PySem PySem.Spec PyProof.Rows
structure ObjM (h : Heap) (x dx C : Addr) (mA : Str → Option Value) : Prop where
  obj : h.get? x = some (PySem.W.instObj C dx)
  ns : h.Ns1 dx mA
  ne : dx ≠ x
theorem lookIn_ns {h : Heap} {dx : Addr} {mA : Str → Option Value} (n : h.Ns1 dx mA) : ∃ od, h.get? dx = some od ∧ ∀ name, PySem.W.lookIn name od = some (mA name) := by
  obtain ⟨o, es, ep, ho, hd, hk, _, hm⟩ := n
  refine ⟨o, ho, fun name => ?_⟩
  have e := hm name
  unfold nsFind findBy at e
  rw [← Array.find?_toList] at e
  unfold PySem.W.lookIn
  rw [hd]
  dsimp only
  split
  · rename_i y q
    rw [q] at e
    exact congrArg some e
  · rename_i q
    rw [q] at e
    have a : es.toList.any (·.refKey) = false := by
      rw [List.any_eq_false]
      intro y hy
      obtain ⟨z, t, hkey⟩ := hk y (Array.mem_toList_iff.mp hy)
      simp [DictEntry.refKey, hkey]
    have a' : ¬ es.toList.any (·.refKey) = true := by rw [a]; exact Bool.false_ne_true
    rw [if_neg a']
    exact congrArg some e
theorem ObjM.look {h : Heap} {x dx C : Addr} {mA : Str → Option Value} (I : ObjM h x dx C mA) : ∃ od, PySem.W.InstAt h x (PySem.W.instObj C dx) C (some od) ∧ ∀ name, PySem.W.lookIn name od = some (mA name) :=
  let ⟨od, ho, hl⟩ := lookIn_ns I.ns
  ⟨od, ⟨I.obj, rfl, rfl, ho⟩, hl⟩
section
variable {prog : Program} {w : World} {A : Around} {E : Value → Shared → Prop} {s : Shared} {K : PySem.W.Frag} {x dx C f : Addr} {mA : Str → Option Value} {name : Str} {v : Value}
theorem get_map {expr : Bool} {Q : Value → Shared → Prop} (X : K.In s.heap) (I : ObjM s.heap x dx C mA) (hg : PySem.W.plainGet K C name = true) (hh : PySem.W.hasDictIn K C = true)
    (ha : PySem.W.findIn K (.ref C) name = some none) (hv : mA name = some v) (hv' : PySem.W.handedIn v = true) (h : Q v { s with toks := s.toks + 1 }) :
    wpAny (model prog w) A (getAttr (.ref x) name expr) Q E s := by
  obtain ⟨od, J, hl⟩ := I.look
  exact PySem.W.get_value X J (PySem.W.plainGet_of hg).1 (PySem.W.findObj_own hh ha rfl (by rw [hl, hv])) hv' h
theorem get_meth {pl : Sem Bool} {Q : Value × List Value → Shared → Prop} (X : K.In s.heap) (I : ObjM s.heap x dx C mA) (hg : PySem.W.plainGet K C name = true)
    (hf : PySem.W.findIn K (.ref C) name = some (some (.ref f))) (ht : PySem.W.isFn K (.ref f) = true) (hv : mA name = none) (h : Q (.ref f, [.ref x]) s) :
    wpAny (model prog w) A (getMethod (.ref x) name pl) Q E s := by
  obtain ⟨od, J, hl⟩ := I.look
  exact PySem.W.method_fn X J (PySem.W.plainGet_of hg).1 (PySem.W.plainGet_of hg).2 hf (beq_iff_eq.mp ht) (by show (PySem.W.lookIn name od).map (·.isSome) = some false; rw [hl, hv]; rfl) h
theorem set_map {ns : List Str} {Q : Unit → Shared → Prop} (X : K.In s.heap) (I : ObjM s.heap x dx C mA)
    (hs : PySem.W.findIn K (.ref C) "__setattr__" = some (some (.builtin "object.__setattr__"))) (hp : PySem.W.plainOver K C = true) (ht : PySem.W.takerIn K C name = some none) (hh : PySem.W.hasDictIn K C = true)
    (hw : PySem.Within mA ns) (hsz : ns.length ≤ sizeLine)
    (h : ∀ h', ObjM h' x dx C (fun y => if y = name then some v else mA y) → Heap.SameBut dx s.heap h' → Q () { s with heap := h', toks := s.toks + 2 }) :
    wpAny (model prog w) A (setAttr (.ref x) name v) Q E s := by
  obtain ⟨od, J, hl⟩ := I.look
  refine PySem.W.set_plain X J hs (PySem.W.osa_open (s := { s with toks := s.toks + 1 }) (r := none) X J hp ht fun b => ?_)
  obtain ⟨cd, hc, hd'⟩ := PySem.W.any_some hh
  have hx : s.heap.get? x = some ⟨.ref C, some dx, .plain, #[]⟩ := I.obj
  refine wpAny_bind (wpAny_pure (wpAny_bind (wpAny_bind (wpAny_loadPart hx (wpAny_bind (PySem.W.Looks.here (s := { s with toks := s.toks + 1 }) (PySem.W.looks_clsIn X hc) ?_))))))
  rw [hd']
  refine wpAny_pure (a := some dx) (wpAny_bind (wpAny_pure (wpAny_bind ?_)))
  refine wpAny_nsSet1 (s := { s with toks := s.toks + 1 }) I.ns fun h' hn2 hs2 => ?_
  obtain ⟨oD, esD, epD, hoD, hdD, hcD⟩ := hn2.count (PySem.Within.cons name v hw)
  refine wpAny_bind (wpAny_lookBehind hoD (by rw [hdD]; exact pastItsLine_dict (Nat.le_trans hcD (by rw [List.length_cons]; omega))) ?_)
  exact wpAny_pure (h _ ⟨(hs2.2 _ (Ne.symm I.ne)).trans I.obj, hn2, I.ne⟩ hs2)
theorem make_map {R : Result → Shared → Prop} {vs : List Value} {kw : List (Str × Value)} (X : K.In s.heap) (hm : PySem.W.makesIn K C = true)
    (hi : PySem.W.findIn K (.ref C) "__init__" = some (some (.ref f))) (hf : PySem.W.typeIn K (.ref f) = some (.type "function"))
    (h : codeAny (model prog w) (A.under (.builtin "type.__call__" ⟨.ref C :: vs, kw⟩)) (.call (.ref f) ⟨.ref (s.heap.objs.size + 1) :: vs, kw⟩) (PySem.W.InitBack (s.heap.objs.size + 1) R)
      { s with heap := (s.heap.push PySem.W.emptyDict).push (PySem.W.instObj C s.heap.objs.size) }) :
    codeAny (model prog w) A (.call (.ref C) ⟨vs, kw⟩) R s := by
  obtain ⟨hh, g, d, t, os⟩ := s
  exact PySem.W.make_core (PySem.W.makes_of X hm) (PySem.W.looks_findIn X hi) (fun self => PySem.W.bind_fn X self hf) (.inl rfl) h
end
def putF (f : Str) (v : V) : List (Str × V) → List (Str × V)
  | [] => [(f, v)]
  | (g, x) :: r => if g = f then (g, v) :: r else (g, x) :: putF f v r
theorem lookup_putF (f g : Str) (v : V) : ∀ fs : List (Str × V), (putF f v fs).lookup g = if g = f then some v else fs.lookup g
  | [] => by
    show List.lookup g [(f, v)] = _
    by_cases h : g = f
    · have hb : (g == f) = true := beq_iff_eq.mpr h
      simp only [List.lookup, hb, if_pos h]
    · have hb : (g == f) = false := beq_eq_false_iff_ne.mpr h
      simp only [List.lookup, hb, if_neg h]
  | (k, x) :: r => by
    have ih := lookup_putF f g v r
    rw [show putF f v ((k, x) :: r) = (if k = f then (k, v) :: r else (k, x) :: putF f v r) from rfl]
    by_cases hk : k = f
    · rw [if_pos hk]
      by_cases h : g = k
      · have hb : (g == k) = true := beq_iff_eq.mpr h
        simp only [List.lookup, hb, if_pos (h.trans hk)]
      · have hb : (g == k) = false := beq_eq_false_iff_ne.mpr h
        simp only [List.lookup, hb, if_neg (fun e : g = f => h (e.trans hk.symm))]
    · rw [if_neg hk]
      by_cases h : g = k
      · have hb : (g == k) = true := beq_iff_eq.mpr h
        simp only [List.lookup, hb, if_neg (fun e : g = f => hk (h.symm.trans e))]
      · have hb : (g == k) = false := beq_eq_false_iff_ne.mpr h
        simp only [List.lookup, hb]
        exact ih
theorem keys_putF (f : Str) (v : V) : ∀ fs : List (Str × V), f ∈ (putF f v fs).map (·.1) ∧ ∀ g, g ∈ fs.map (·.1) → g ∈ (putF f v fs).map (·.1)
  | [] => ⟨by simp [putF], fun g h => by simp at h⟩
  | (k, x) :: r => by
    obtain ⟨i1, i2⟩ := keys_putF f v r
    rw [show putF f v ((k, x) :: r) = (if k = f then (k, v) :: r else (k, x) :: putF f v r) from rfl]
    by_cases hk : k = f
    · rw [if_pos hk]
      subst hk
      exact ⟨by simp, fun g h => by simpa using h⟩
    · rw [if_neg hk]
      refine ⟨?_, fun g h => ?_⟩
      · rw [List.map_cons]
        exact List.mem_cons_of_mem _ i1
      · rw [List.map_cons] at h ⊢
        rcases List.mem_cons.mp h with e | e
        · exact List.mem_cons.mpr (.inl e)
        · exact List.mem_cons_of_mem _ (i2 g e)
theorem length_putF (f : Str) (v : V) : ∀ fs : List (Str × V), (putF f v fs).length ≤ fs.length + 1
  | [] => by simp [putF]
  | (k, x) :: r => by
    have ih := length_putF f v r
    rw [show putF f v ((k, x) :: r) = (if k = f then (k, v) :: r else (k, x) :: putF f v r) from rfl]
    by_cases hk : k = f
    · rw [if_pos hk, List.length_cons, List.length_cons]; omega
    · rw [if_neg hk, List.length_cons, List.length_cons]; omega
theorem RelO.some_of {v : V} {o : Option Value} (r : RelO (some v) o) : ∃ u, o = some u ∧ RelV v u := by
  cases o with
  | none => exact (show False from r).elim
  | some u => exact ⟨u, rfl, r⟩
theorem RelO.none_of {o : Option Value} (r : RelO none o) : o = none := by
  cases o with
  | none => rfl
  | some u => exact (show False from r).elim
theorem handed_of {v : V} {u : Value} (r : RelV v u) : PySem.W.handedIn u = true := by
  cases v with
  | non => cases (show u = Value.none from r); rfl
  | bl b => cases (show u = Value.bool b from r); rfl
  | int i => obtain ⟨t, e⟩ := (show ∃ t, u = Value.int i t from r); cases e; rfl
  | str x => obtain ⟨t, e⟩ := (show ∃ t, u = Value.str x t from r); cases e; rfl
  | byt b => obtain ⟨t, e⟩ := (show ∃ t, u = Value.bytes b t from r); cases e; rfl
  | flt b => obtain ⟨t, e⟩ := (show ∃ t, u = Value.float b t from r); cases e; rfl
  | ref a => cases (show u = Value.ref a from r); rfl
  | ty n => cases (show u = Value.type n from r); rfl
section
variable {P : Program} {w : World} {H H' : Hp} {h h' : Heap} {a C dx : Addr} {fs fs' : List (Str × V)}
theorem ins_get (hok : HOk P w H h) (e : H a = some (.ins C dx fs)) : ∃ mA, ObjM h a dx C mA ∧ (∀ f, RelO (fs.lookup f) (mA f)) ∧ PySem.Within mA (fs.map (·.1)) ∧ fs.length ≤ 1000 ∧ H dx = some (.own a) := by
  obtain ⟨d, z, ne, ob, mA, n, r, q⟩ := (show ObjOk P w H h a (.ins C dx fs) from hok a _ e)
  exact ⟨mA, ⟨ob, n, ne⟩, r, q, z, d⟩
end
structure Cls (K : PySem.W.Frag) (C : Addr) : Prop where
  pg : PySem.W.plainGet K C Str.empty = true
  hd : PySem.W.hasDictIn K C = true
  po : PySem.W.plainOver K C = true
  sa : PySem.W.findIn K (.ref C) "__setattr__" = some (some (.builtin "object.__setattr__"))
theorem Cls.get {K : PySem.W.Frag} {C : Addr} (c : Cls K C) (f : Str) : PySem.W.plainGet K C f = true := c.pg
def NoAttr (K : PySem.W.Frag) (C : Addr) (f : Str) : Prop := PySem.W.findIn K (.ref C) f = some none
theorem NoAttr.taker {K : PySem.W.Frag} {C : Addr} {f : Str} (n : NoAttr K C f) : PySem.W.takerIn K C f = some none := by
  unfold PySem.W.takerIn
  rw [show PySem.W.findIn K (.ref C) f = some none from n]
  rfl
structure Meth (K : PySem.W.Frag) (C : Addr) (m : Str) (f : Addr) : Prop where
  at_ : PySem.W.findIn K (.ref C) m = some (some (.ref f))
  fn : PySem.W.isFn K (.ref f) = true
  kp : PySem.W.keepIn K (.ref f) = true
section
variable {X : Cx} {pins : List (Addr × Obj)} {σ : St} {H : Hp} {s : Shared} {a C dx : Addr} {fs : List (Str × V)} {f : Str} {v : V} {A : Around} {E : Value → Shared → Prop}
theorem getattr_ok {b : Bool} {Q : Value → Shared → Prop} (I : Inv X pins σ H s) (e : H a = some (.ins C dx fs)) (c : Cls X.K C) (n : NoAttr X.K C f) (l : fs.lookup f = some v)
    (h : ∀ u s', Inv X pins σ H s' → RelV v u → Q u s') : wpAny (model X.prog X.w) A (getAttr (.ref a) f b) Q E s := by
  obtain ⟨mA, O, r, _, _, _⟩ := ins_get I.hok e
  obtain ⟨u, hu, ru⟩ := RelO.some_of (v := v) (o := mA f) (by rw [← l]; exact r f)
  exact get_map I.kIn O (c.get f) c.hd n hu (handed_of ru) (h u _ (I.tok _) ru)
theorem getmeth_ok {m : Str} {g : Addr} {pl : Sem Bool} {Q : Value × List Value → Shared → Prop} (I : Inv X pins σ H s) (e : H a = some (.ins C dx fs)) (c : Cls X.K C) (k : Meth X.K C m g) (l : fs.lookup m = none)
    (h : Q (.ref g, [.ref a]) s) : wpAny (model X.prog X.w) A (getMethod (.ref a) m pl) Q E s := by
  obtain ⟨mA, O, r, _, _, _⟩ := ins_get I.hok e
  have hn : mA m = none := RelO.none_of (by rw [← l]; exact r m)
  exact get_meth I.kIn O (c.get m) k.at_ k.fn hn h
theorem setattr_ok {y : V} {u : Value} {Q : Unit → Shared → Prop} (I : Inv X pins σ H s) (e : H a = some (.ins C dx fs)) (c : Cls X.K C) (n : NoAttr X.K C f) (hl : fs.length < 1000) (ry : RelV y u)
    (h : ∀ s', Inv X pins σ (upd H a (.ins C dx (putF f y fs))) s' → Q () s') : wpAny (model X.prog X.w) A (setAttr (.ref a) f u) Q E s := by
  obtain ⟨mA, O, r, wi, _, ho⟩ := ins_get I.hok e
  have hz : (fs.map (·.1)).length ≤ sizeLine := by rw [List.length_map, sizeLine_eq]; omega
  refine set_map I.kIn O c.sa c.po n.taker c.hd wi hz fun h' O' sb => h _ ?_
  have hd : ∃ o, h'.get? dx = some o := let ⟨o, _, _, e', _⟩ := O'.ns; ⟨o, e'⟩
  refine I.write (x := a) (e := dx) (by rw [e]; exact True.intro) (.inr ho) (fun b q hb z => (sb.2 b hb).trans z) hd ?_
  refine ⟨by rw [upd_ne O.ne]; exact ho, ?_, O.ne, O'.obj, _, O'.ns, fun g => ?_, fun g hg => ?_⟩
  · have := length_putF f y fs; omega
  · show RelO ((putF f y fs).lookup g) (if g = f then some u else mA g)
    rw [lookup_putF]
    by_cases q : g = f
    · rw [if_pos q, if_pos q]; exact ry
    · rw [if_neg q, if_neg q]; exact r g
  · by_cases q : g = f
    · rw [q]; exact (keys_putF f y fs).1
    · refine (keys_putF f y fs).2 g (wi g fun z => hg ?_)
      show (if g = f then some u else mA g) = none
      rw [if_neg q]; exact z
theorem Inv.made (I : Inv X pins σ H s) : Inv X pins σ (upd (upd H s.heap.objs.size (.own (s.heap.objs.size + 1))) (s.heap.objs.size + 1) (.ins C s.heap.objs.size []))
    { s with heap := (s.heap.push PySem.W.emptyDict).push (PySem.W.instObj C s.heap.objs.size) } := by
  have e1 : (s.heap.push PySem.W.emptyDict).get? s.heap.objs.size = some PySem.W.emptyDict := Heap.get?_push_size s.heap rfl
  have e2 : ((s.heap.push PySem.W.emptyDict).push (PySem.W.instObj C s.heap.objs.size)).get? (s.heap.objs.size + 1) = some (PySem.W.instObj C s.heap.objs.size) := by
    have := Heap.get?_push_size (s.heap.push PySem.W.emptyDict) (o := PySem.W.instObj C s.heap.objs.size) rfl
    rwa [Heap.size_push] at this
  have e3 : (s.heap.push PySem.W.emptyDict).Ns s.heap.objs.size (fun _ => none) := ⟨PySem.W.emptyDict, #[], _, e1, rfl, (fun e he => absurd he (by simp)), fun _ => rfl⟩
  have I1 := I.laid (a := s.heap.objs.size) (o := .own (s.heap.objs.size + 1)) (h' := s.heap.push PySem.W.emptyDict) (t' := s.toks) (fun b u q => Heap.get?_push_of_some _ q) (Nat.le_refl _) ⟨_, e1⟩
  refine I1.laid (a := s.heap.objs.size + 1) (o := .ins C s.heap.objs.size []) (t' := s.toks) (fun b u q => Heap.get?_push_of_some _ q) (Nat.le_of_eq (Heap.size_push _ _)) ?_
  have ne : s.heap.objs.size ≠ s.heap.objs.size + 1 := Nat.ne_of_lt (Nat.lt_succ_self _)
  refine ⟨by rw [upd_ne ne, upd_same], Nat.zero_le _, ne, e2, fun _ => none, (Heap.Ns1.of_empty e3).at fun o q => Heap.get?_push_of_some _ q, fun _ => True.intro, fun y hy => absurd rfl hy⟩
theorem attr_of {prog : Program} {w : World} {env : Env} {e : Expr} {f : Str} {pos : Pos} {s : Shared} {Q : Value → Shared → Prop} (hb : attributeBase e f env (eval e env) = eval e env)
    (h : wpAny (model prog w) A (eval e env) (fun o s₁ => wpAny (model prog w) A (getAttr o f true) Q E s₁) E s) : wpAny (model prog w) A (eval (.Attribute e f pos) env) Q E s :=
  Attribute_any_ h (by rw [arm_eval_Attribute, hb])
end
def tFld (K : PySem.W.Frag) (ta : TE) (f : Str) : TE := fun σ H Q => ta σ H fun x H1 => ∃ a C dx fs v, x = .ref a ∧ H1 a = some (.ins C dx fs) ∧ Cls K C ∧ NoAttr K C f ∧ fs.lookup f = some v ∧ Q v H1
def sFld (K : PySem.W.Frag) (ta tv : TE) (f : Str) : TS := fun D σ H => tv σ H fun y H1 => ta σ H1 fun x H2 => ∃ a C dx fs, x = .ref a ∧ H2 a = some (.ins C dx fs) ∧ Cls K C ∧ NoAttr K C f ∧ fs.length < 1000 ∧
  D.nx σ (upd H2 a (.ins C dx (putF f y fs)))
section
variable {X : Cx} {o e value : Expr} {f : Str} {pos pos' tpos : Pos} {ta tv : TE}
theorem pe_fld (he : PE X e ta) (hb : attributeBase e f X.env (eval e X.env) = eval e X.env) : PE X (.Attribute e f pos) (tFld X.K ta f) := by
  intro pins s σ H Q I h
  refine attr_of hb (thn (he pins s σ H _ I h) fun u s1 ⟨x, H1, I1, rx, a, C, dx, fs, v, ex, ea, c, n, l, q⟩ => ?_)
  subst ex
  obtain rfl : u = Value.ref a := rx
  exact getattr_ok I1 ea c n l fun u' s2 I2 ru => ⟨v, H1, I2, ru, q⟩
theorem ps_fld (ha : PE X o ta) (hv : PE X value tv) (hs : swapsWith value (some (.Attribute o f pos')) pos.line X.env = pure false) : PS X (.Assign [.Attribute o f pos'] value pos) (sFld X.K ta tv f) := by
  intro pins s σ H D I h
  refine plainObj_wpAny_Assign_Attribute (thn (hv pins s σ H _ I h) fun u s1 ⟨y, H1, I1, ry, q⟩ => thn (ha pins s1 σ H1 _ I1 q) fun ov s2 ⟨x, H2, I2, rx, a, C, dx, fs, ex, ea, c, n, l, q2⟩ => ?_) hs
  subst ex
  obtain rfl : ov = Value.ref a := rx
  exact setattr_ok I2 ea c n l ry fun s3 I3 => ⟨σ, _, I3, q2⟩
def rAdd : V → V → Hp → VK → Prop := fun x y H Q => ∃ i j, x = .int i ∧ y = .int j ∧ Q (.int (i + j)) H
def rSub : V → V → Hp → VK → Prop := fun x y H Q => ∃ i j, x = .int i ∧ y = .int j ∧ Q (.int (i - j)) H
end
section
variable {X : Cx} {pins : List (Addr × Obj)} {σ : St} {H : Hp} {s : Shared} {A : Around} {E : Value → Shared → Prop} {Q : Value → Shared → Prop} {c : Value} {b : Bool}
inductive TyOf (K : PySem.W.Frag) (H : Hp) : V → Value → Prop where
  | non : TyOf K H .non (.type "NoneType")
  | bl (x : Bool) : TyOf K H (.bl x) (.type "bool")
  | int (i : Int) : TyOf K H (.int i) (.type "int")
  | str (x : Str) : TyOf K H (.str x) (.type "str")
  | flt (x : UInt64) : TyOf K H (.flt x) (.type "float")
  | lst {a : Addr} {xs : List V} (e : H a = some (.lst xs)) : TyOf K H (.ref a) (.type "list")
  | frz {a : Addr} {o : Obj} {xs : List V} (e : H a = some (.frz o (.lst xs))) : TyOf K H (.ref a) (.type "list")
  | tup {a : Addr} {xs : List V} (e : H a = some (.tup xs)) : TyOf K H (.ref a) (.type "tuple")
  | dK {a : Addr} {kvs : List (Key × V)} (e : H a = some (.dK kvs)) : TyOf K H (.ref a) (.type "dict")
  | dT {a : Addr} {kvs : List (List Key × V)} (e : H a = some (.dT kvs)) : TyOf K H (.ref a) (.type "dict")
  | ins {a C dx : Addr} {fs : List (Str × V)} (e : H a = some (.ins C dx fs)) (cl : Cls K C) (ha : PySem.W.findIn K (.ref C) "__class__" = some (some (.builtin "object.__class__")))
      (hn : PySem.W.specialIn K (.builtin "object.__class__") "__get__" = some (some (.builtin "getset_descriptor.__get__"))) (htk : PySem.W.takesIn K (.builtin "object.__class__") = some true)
      (hm : PySem.W.mroIn K C (.type "object") = some true) : TyOf K H (.ref a) (.ref C)
theorem isinst_ok {x : V} {u t : Value} (I : Inv X pins σ H s) (rx : RelV x u) (ty : TyOf X.K H x t) (e : PySem.W.kitOne X.K t c = some b) (h : ∀ tk, Q (.bool b) { s with toks := tk }) :
    wpAny (model X.prog X.w) A (call (.builtin "isinstance") [u, c]) Q E s := by
  cases ty with
  | non => cases (show u = Value.none from rx); exact PySem.W.kia_one PySem.W.kitx_none I.kIn True.intro e (fun z => nomatch z) h
  | bl y => cases (show u = Value.bool y from rx); exact PySem.W.kia_one PySem.W.kitx_bool I.kIn True.intro e (fun z => nomatch z) h
  | int i => obtain ⟨t, q⟩ := (show ∃ t, u = Value.int i t from rx); cases q; exact PySem.W.kia_one PySem.W.kitx_int I.kIn True.intro e (fun z => nomatch z) h
  | str y => obtain ⟨t, q⟩ := (show ∃ t, u = Value.str y t from rx); cases q; exact PySem.W.kia_one PySem.W.kitx_str I.kIn True.intro e (fun z => nomatch z) h
  | flt y => obtain ⟨t, q⟩ := (show ∃ t, u = Value.float y t from rx); cases q; exact PySem.W.kia_one PySem.W.kitx_float I.kIn True.intro e (fun z => nomatch z) h
  | @lst a xs ea =>
    cases (show u = Value.ref a from rx)
    obtain ⟨_, _, n, _, h1⟩ := (show ObjOk X.prog X.w H s.heap a (.lst xs) from I.hok a _ ea)
    exact PySem.W.kia_one PySem.W.kitx_list I.kIn ⟨_, h1, rfl⟩ e (fun z => nomatch z) h
  | @frz a ob xs ea =>
    cases (show u = Value.ref a from rx)
    obtain ⟨_, _, _, n, _, h1⟩ := (show ObjOk X.prog X.w H s.heap a (.frz ob (.lst xs)) from I.hok a _ ea)
    exact PySem.W.kia_one PySem.W.kitx_list I.kIn ⟨_, h1, rfl⟩ e (fun z => nomatch z) h
  | @tup a xs ea =>
    cases (show u = Value.ref a from rx)
    obtain ⟨_, _, _, p⟩ := (show ObjOk X.prog X.w H s.heap a (.tup xs) from I.hok a _ ea)
    obtain ⟨o, h1, h2, _⟩ := p
    exact PySem.W.kia_one PySem.W.kitx_tuple I.kIn ⟨o, h1, h2⟩ e (fun z => nomatch z) h
  | @dK a kvs ea =>
    cases (show u = Value.ref a from rx)
    obtain ⟨_, _, vs, _, p⟩ := (show ObjOk X.prog X.w H s.heap a (.dK kvs) from I.hok a _ ea)
    obtain ⟨o, es, ep, h1, h2, _⟩ := p
    exact PySem.W.kia_one PySem.W.kitx_dict I.kIn ⟨o, h1, h2.1⟩ e (fun z => nomatch z) h
  | @dT a kvs ea =>
    cases (show u = Value.ref a from rx)
    obtain ⟨_, _, xs, _, o, es, ep, h1, h2, _⟩ := (show ObjOk X.prog X.w H s.heap a (.dT kvs) from I.hok a _ ea)
    exact PySem.W.kia_one PySem.W.kitx_dict I.kIn ⟨o, h1, h2.1⟩ e (fun z => nomatch z) h
  | @ins a C dx fs ea cl ha hn htk hm =>
    cases (show u = Value.ref a from rx)
    obtain ⟨mA, O, _⟩ := ins_get I.hok ea
    obtain ⟨od, J, _⟩ := O.look
    exact PySem.W.kia_one (PySem.W.kitx_own (cl.get _) cl.hd ha hn htk hm) I.kIn J e (fun z => nomatch z) h
end
end L2
namespace L2
open PySem PySem.Spec PyProof.Rows
structure Room (k : Nat) (A : Around) : Prop where
  hd : A.handled = none
  dp : A.depth + 3 * k + 5 < recursionLimit
  un : A.units + 16 * k + 200 < cLine
theorem Room.mono {j k : Nat} {A : Around} (r : Room k A) (h : j ≤ k) : Room j A := ⟨r.hd, by have := r.dp; omega, by have := r.un; omega⟩
theorem Room.deeper {k : Nat} {A : Around} (r : Room (k + 1) A) (env : Env) : Room k (A.deeper env) :=
  ⟨r.hd, by have := r.dp; show A.depth + 1 + 3 * k + 5 < _; omega, by have := r.un; show A.units + 3 + 16 * k + 200 < _; omega⟩
theorem make_depth {A : Around} {C : Addr} {us : List Value} {kw : List (Str × Value)} : (A.under (.builtin "type.__call__" ⟨.ref C :: us, kw⟩)).depth = A.depth + 1 := by
  first | rfl | simp [Around.under, Code.weight, Code.isCreation, Code.isGuard, Code.isCaller, Code.frames, Code.isFrame, guardIds]
theorem make_units {A : Around} {C : Addr} {us : List Value} {kw : List (Str × Value)} : (A.under (.builtin "type.__call__" ⟨.ref C :: us, kw⟩)).units = A.units + 1 := by
  first | rfl | simp [Around.under, Code.cUnits, Code.frames, Code.isFrame]
theorem Room.make {k : Nat} {A : Around} (r : Room (k + 1) A) (C : Addr) (us : List Value) (kw : List (Str × Value)) : Room k (A.under (.builtin "type.__call__" ⟨.ref C :: us, kw⟩)) :=
  ⟨r.hd, by have := r.dp; rw [make_depth]; omega, by have := r.un; rw [make_units]; omega⟩
theorem Room.depth {k : Nat} {A : Around} (r : Room k A) : A.depth < recursionLimit := by have := r.dp; omega
theorem Room.units {k : Nat} {A : Around} (r : Room k A) : A.units + 64 < cLine := by have := r.un; omega
def tNil : TA := fun _ H Q => Q [] H
def tCons (ta : TE) (tr : TA) : TA := fun σ H Q => ta σ H fun x H1 => tr σ H1 fun xs H2 => Q (x :: xs) H2
section
variable {X : Cx} {e : Expr} {es : List Expr} {te : TE} {t : TA} {pos : Pos}
theorem pa_nil : PA X [] tNil := fun _ _ _ _ H Q I h => Calls.spliced_nil ⟨[], H, I, .nil, h⟩
theorem pa_cons (ha : PE X e te) (hr : PA X es t) (hs : starEach (e :: es) X.env = (false, eval e X.env) :: starEach es X.env := by rfl) : PA X (e :: es) (tCons te t) := by
  intro pos pins s σ H Q I h
  rw [hs]
  show wpAny _ _ (spliced ((false, eval e X.env) :: backTo pos (starEach es X.env))) _ _ s
  refine Calls.spliced_cons (thn (ha pins s σ H _ I h) fun u s1 ⟨x, H1, I1, r1, q1⟩ => ?_)
  exact thn (hr pos pins s1 σ H1 _ I1 q1) fun us s2 ⟨xs, H2, I2, r2, q2⟩ => ⟨x :: xs, H2, I2, .cons r1 r2, q2⟩
def tTup (t : TA) : TE := fun σ H Q => t σ H fun xs H1 => xs.length ≤ sizeLine ∧ ∀ p, H1 p = none → Q (.ref p) (upd H1 p (.tup xs))
def tLst (t : TA) : TE := fun σ H Q => t σ H fun xs H1 => xs.length ≤ sizeLine ∧ ∀ p, H1 p = none → Q (.ref p) (upd H1 p (.lst xs))
theorem pe_lst (h : PA X es t) : PE X (.List es pos) (tLst t) := by
  intro pins s σ H Q I hq
  refine wpAny_List_spliced (thn (h pos pins s σ H _ I hq) fun us s1 ⟨xs, H1, I1, r, z, q⟩ => ⟨by rw [← r.length]; exact z, ?_⟩)
  have hf : H1 s1.heap.objs.size = none := I1.hok.fresh (Nat.le_refl _)
  refine ⟨.ref s1.heap.objs.size, upd H1 s1.heap.objs.size (.lst xs), I1.laid (t' := s1.toks) (fun b u e => Heap.get?_push_of_some _ e) (Nat.le_refl _) ?_, rfl, q _ hf⟩
  exact ⟨z, us, 0, r, Heap.get?_push_size _ rfl⟩
end
abbrev Sp := List V → Hp → VK → XK → Prop
abbrev CXT := List Env → Hp → Shared → XK → Value → Shared → Prop
structure Env0 (P : Program) (w : World) (K : PySem.W.Frag) (mg : Str → Option Value) (base : Heap) (A : Around) (outer : List Env) (s : Shared) (H : Hp) : Prop where
  frames : A.frames = some outer
  mod : Mod K mg base
  bs : ∀ b o, base.get? b = some o → s.heap.get? b = some o ∧ H b = none
  bsz : base.objs.size ≤ s.heap.objs.size
  funs : s.heap.FunFrames base outer
  frf : ∀ b ∈ frs outer, H b = none
  hok : HOk P w H s.heap
  bare : AllBare s.gens
def CE (outer : List Env) (P : Program) (w : World) (H : Hp) (s : Shared) (Q : VK) (u : Value) (s' : Shared) : Prop :=
  ∃ v H', s'.os = s.os ∧ AllBare s'.gens ∧ Un (frs outer) [] H H' s.heap s'.heap ∧ HOk P w H' s'.heap ∧ RelV v u ∧ Q v H'
def CR (CX : CXT) (outer : List Env) (P : Program) (w : World) (H : Hp) (s : Shared) (Q : VK) (E : XK) (r : Result) (s' : Shared) : Prop :=
  match r with
  | .ok (.ret u) => CE outer P w H s Q u s'
  | .ok _ => False
  | .error e => CX outer H s E e s'
structure FnOk (P : Program) (w : World) (K : PySem.W.Frag) (mg : Str → Option Value) (base : Heap) (CX : CXT) (k : Nat) (f : Addr) (fd : FuncData) (ps : List Str) (sp : Sp) : Prop where
  len : ∀ vs H Q E, sp vs H Q E → vs.length = ps.length
  run : ∀ (A : Around) (outer : List Env) (s : Shared) (H : Hp) (args : Args) (us : List Value) (vs : List V) (Q : VK) (E : XK), Room k A → Env0 P w K mg base A outer s H → BindsTo s fd args (ps.zip us) → Vals vs us → sp vs H Q E →
    codeAny (model P w) A (.call (.ref f) args) (CR CX outer P w H s Q E) s
theorem FnOk.mono {P : Program} {w : World} {K : PySem.W.Frag} {mg : Str → Option Value} {base : Heap} {CX : CXT} {j k : Nat} {f : Addr} {fd : FuncData} {ps : List Str} {sp : Sp} (F : FnOk P w K mg base CX j f fd ps sp) (h : j ≤ k) :
    FnOk P w K mg base CX k f fd ps sp := ⟨F.len, fun A outer s H args us vs Q E hr => F.run A outer s H args us vs Q E (hr.mono h)⟩
theorem Env0.make {P : Program} {w : World} {K : PySem.W.Frag} {mg : Str → Option Value} {base : Heap} {A : Around} {outer : List Env} {s : Shared} {H : Hp} (e : Env0 P w K mg base A outer s H) (C : Addr) (us : List Value) (kw : List (Str × Value)) :
    Env0 P w K mg base (A.under (.builtin "type.__call__" ⟨.ref C :: us, kw⟩)) outer s H := ⟨by first | exact e.frames | (simpa [Around.under, Code.envs, Code.isFrame, pushEnvs] using e.frames), e.mod, e.bs, e.bsz, e.funs, e.frf, e.hok, e.bare⟩
section
variable {X : Cx} {pins : List (Addr × Obj)} {σ : St} {H : Hp} {s s' : Shared}
theorem Inv.env0 (I : Inv X pins σ H s) : Env0 X.prog X.w X.K X.mg X.base X.A X.stack s H :=
  ⟨I.ok.frames, I.ok.mod, I.bs, Nat.le_trans I.ok.bsz I.sz, I.stack, I.stkFree, I.hok, I.bare⟩
theorem Inv.after {Q : VK} {u : Value} (I : Inv X pins σ H s) (h : CE X.stack X.prog X.w H s Q u s') : EP X pins σ Q u s' := by
  obtain ⟨v, H', os, bare, un, hok, r, q⟩ := h
  obtain ⟨hh, g, d, t, os'⟩ := s'
  obtain rfl : os' = s.os := os
  exact ⟨v, H', I.call (h' := hh) (g' := g) (d' := d) (t' := t) (ch := []) un hok bare (fun b z => absurd z (by simp)), r, q⟩
end
def tCall (sp : Sp) (dvs : List V) (E : XK) (t : TA) : TE := fun σ H Q => t σ H fun vs H1 => sp (vs ++ dvs) H1 Q E
def tMeth (C : Addr) (m : Str) (sp : Sp) (dvs : List V) (E : XK) (ta : TE) (t : TA) : TE := fun σ H Q => ta σ H fun x H1 => ∃ a dx fs, x = .ref a ∧ H1 a = some (.ins C dx fs) ∧ fs.lookup m = none ∧
  t σ H1 fun vs H2 => sp (x :: (vs ++ dvs)) H2 Q E
def tMake (C : Addr) (sp : Sp) (dvs : List V) (E : XK) (t : TA) : TE := fun σ H Q => t σ H fun vs H1 => ∀ x dx, H1 x = none → H1 dx = none → dx ≠ x →
  sp (.ref x :: (vs ++ dvs)) (upd (upd H1 dx (.own x)) x (.ins C dx [])) (fun v H2 => v = .non ∧ Q (.ref x) H2) E
def Binds (K : PySem.W.Frag) (fd : FuncData) (ps : List Str) (ds : List Value) : Prop :=
  ∀ (s : Shared) (us : List Value), K.In s.heap → (us ++ ds).length = ps.length → BindsTo s fd ⟨us, []⟩ (ps.zip (us ++ ds))
theorem Binds.all {K : PySem.W.Frag} {fd : FuncData} {ps : List Str} (h : ∀ us : List Value, us.length = ps.length → bindArgs fd ⟨us, []⟩ = pure (ps.zip us)) : Binds K fd ps [] := fun s us _ hl => by
  rw [List.append_nil] at hl ⊢
  exact .of_eq (h us hl)
def Passes (CX : CXT) (X : Cx) (E : XK) : Prop := ∀ (pins : List (Addr × Obj)) (σ : St) (H : Hp) (s : Shared) (e : Value) (s' : Shared), Inv X pins σ H s → CX X.stack H s E e s' → X.xe e s'
section
variable {X : Cx} {CX : CXT} {k : Nat} {f C : Addr} {fd : FuncData} {ps : List Str} {sp : Sp} {dvs : List V} {ds : List Value} {E : XK} {x m : Str} {p pos apos : Pos} {e o : Expr} {es : List Expr} {ta : TE} {t : TA}
theorem run_fn {pins : List (Addr × Obj)} {σ : St} {H : Hp} {s : Shared} {Q : VK} {us : List Value} {vs : List V} (F : FnOk X.prog X.w X.K X.mg X.base CX k f fd ps sp) (hr : Room k X.A) (hb : Binds X.K fd ps ds) (hd : Vals dvs ds) (hx : Passes CX X E)
    (I : Inv X pins σ H s) (r : Vals vs us) (h : sp (vs ++ dvs) H Q E) : wpAny (model X.prog X.w) X.A (call (.ref f) us) (EP X pins σ Q) X.xe s := by
  have r2 : Vals (vs ++ dvs) (us ++ ds) := r.append hd
  have hl : (us ++ ds).length = ps.length := by rw [← r2.length]; exact F.len _ _ _ _ h
  refine wpAny_call (codeAny_mono (F.run X.A X.stack s H ⟨us, []⟩ (us ++ ds) (vs ++ dvs) Q E hr I.env0 (hb s us I.kIn hl) r2 h) fun r s' hq => ?_)
  cases r with
  | error e => exact hx pins σ H s e s' I hq
  | ok fl =>
    cases fl with
    | ret u => exact I.after hq
    | next => exact False.elim hq
    | brk => exact False.elim hq
    | cont => exact False.elim hq
theorem pe_call (F : FnOk X.prog X.w X.K X.mg X.base CX k f fd ps sp) (hr : Room k X.A) (hg : Gl X x) (hm : X.mg x = some (.ref f)) (hk : PySem.W.keepIn X.K (.ref f) = true) (hb : Binds X.K fd ps ds) (hd : Vals dvs ds) (hx : Passes CX X E)
    (ha : PA X (e :: es) t) (hdb : (x == ("__debug__" : Str)) = false := by decide) (he : starEach (e :: es) X.env = (false, eval e X.env) :: starEach es X.env := by rfl) (hpl : (backTo pos (starEach es X.env)).any (·.1) = false := by rfl) :
    PE X (.Call (.Name x p) (e :: es) [] pos) (tCall sp dvs E t) := by
  intro pins s σ H Q I h
  refine wpAny_Call_Name_kw (ld_glob I hg hm ?_ hdb)
  refine PySem.W.callWith_K (h₀ := X.base) I.ok.mod.kin hk (thn (ha pos pins s σ H _ I h) fun us s1 ⟨vs, H1, I1, r, q⟩ => ⟨I1.kIn, ?_⟩) he hpl
  exact run_fn F hr hb hd hx I1 r q
theorem pe_meth {pl : Sem Bool} (he : PE X o ta) (c : Cls X.K C) (hm : Meth X.K C m f) (F : FnOk X.prog X.w X.K X.mg X.base CX k f fd ps sp) (hr : Room k X.A) (hb : Binds X.K fd ps ds) (hd : Vals dvs ds) (hx : Passes CX X E) (ha : PA X (e :: es) t)
    (hst : starEach (e :: es) X.env = (false, eval e X.env) :: starEach es X.env := by rfl) (hpl : (backTo pos (starEach es X.env)).any (·.1) = false := by rfl)
    (ht : eval (.Call (.Attribute o m apos) (e :: es) [] pos) X.env = (do
      let ov ← eval o X.env
      standAt apos.atName
      let (f, first) ← holding [ov] (getMethod ov m pl)
      callWith pos f first (backTo pos (starEach (e :: es) X.env)) (backToKw pos (keywordEach [] X.env))) := by rfl) :
    PE X (.Call (.Attribute o m apos) (e :: es) [] pos) (tMeth C m sp dvs E ta t) := by
  intro pins s σ H Q I h
  refine PySem.W.methodCall_KW (pl := pl) (thn (he pins s σ H _ I h) fun u s1 ⟨x, H1, I1, rx, a, dx, fs, ex, ea, l, q⟩ => ?_) ht
  subst ex
  obtain rfl : u = Value.ref a := rx
  refine getmeth_ok I1 ea c hm l ?_
  refine PySem.W.callWith_K (first := [.ref a]) (h₀ := X.base) I.ok.mod.kin hm.kp (thn (ha pos pins s1 σ H1 _ I1 q) fun us s2 ⟨vs, H2, I2, r, q2⟩ => ⟨I2.kIn, ?_⟩) hst hpl
  exact run_fn (us := .ref a :: us) (vs := .ref a :: vs) F hr hb hd hx I2 (.cons rfl r) q2
structure Mk (K : PySem.W.Frag) (C f : Addr) : Prop where
  makes : PySem.W.makesIn K C = true
  init : PySem.W.findIn K (.ref C) "__init__" = some (some (.ref f))
  fn : PySem.W.isFn K (.ref f) = true
  kp : PySem.W.keepIn K (.ref C) = true
theorem run_make {pins : List (Addr × Obj)} {σ : St} {H : Hp} {s : Shared} {Q : VK} {us : List Value} {vs : List V} (M : Mk X.K C f) (F : FnOk X.prog X.w X.K X.mg X.base CX k f fd ps sp) (hr : Room (k + 1) X.A) (hb : Binds X.K fd ps ds) (hd : Vals dvs ds)
    (hx : Passes CX X E) (I : Inv X pins σ H s) (r : Vals vs us)
    (h : ∀ x dx, H x = none → H dx = none → dx ≠ x → sp (.ref x :: (vs ++ dvs)) (upd (upd H dx (.own x)) x (.ins C dx [])) (fun v H2 => v = .non ∧ Q (.ref x) H2) E) :
    wpAny (model X.prog X.w) X.A (call (.ref C) us) (EP X pins σ Q) X.xe s := by
  have hq := h (s.heap.objs.size + 1) s.heap.objs.size (I.hok.fresh (Nat.le_succ _)) (I.hok.fresh (Nat.le_refl _)) (Nat.ne_of_lt (Nat.lt_succ_self _))
  have I2 := Inv.made (C := C) I
  have r2 : Vals (V.ref (s.heap.objs.size + 1) :: (vs ++ dvs)) (Value.ref (s.heap.objs.size + 1) :: (us ++ ds)) := .cons rfl (r.append hd)
  have hl : (Value.ref (s.heap.objs.size + 1) :: us ++ ds).length = ps.length := by
    have e := r2.length
    rw [F.len _ _ _ _ hq] at e
    exact e.symm
  refine wpAny_call (make_map (f := f) I.kIn M.makes M.init (beq_iff_eq.mp M.fn) (codeAny_mono (F.run _ X.stack _ _ ⟨Value.ref (s.heap.objs.size + 1) :: us, []⟩ (Value.ref (s.heap.objs.size + 1) :: (us ++ ds)) _ _ E (hr.make C us [])
    (I2.env0.make C us []) (hb _ (Value.ref (s.heap.objs.size + 1) :: us) I2.kIn hl) r2 hq) fun r s' hq' => ?_))
  cases r with
  | error e => exact hx pins σ _ _ e s' I2 hq'
  | ok fl =>
    cases fl with
    | ret u =>
      obtain ⟨v, H', I3, rv, ev, q3⟩ := I2.after hq'
      subst ev
      exact ⟨rv, ⟨V.ref (s.heap.objs.size + 1), H', I3, rfl, q3⟩⟩
    | next => exact False.elim hq'
    | brk => exact False.elim hq'
    | cont => exact False.elim hq'
theorem pe_make (M : Mk X.K C f) (F : FnOk X.prog X.w X.K X.mg X.base CX k f fd ps sp) (hr : Room (k + 1) X.A) (hg : Gl X x) (hm : X.mg x = some (.ref C)) (hb : Binds X.K fd ps ds) (hd : Vals dvs ds) (hx : Passes CX X E)
    (ha : PA X (e :: es) t) (hdb : (x == ("__debug__" : Str)) = false := by decide) (he : starEach (e :: es) X.env = (false, eval e X.env) :: starEach es X.env := by rfl) (hpl : (backTo pos (starEach es X.env)).any (·.1) = false := by rfl) :
    PE X (.Call (.Name x p) (e :: es) [] pos) (tMake C sp dvs E t) := by
  intro pins s σ H Q I h
  refine wpAny_Call_Name_kw (ld_glob I hg hm ?_ hdb)
  refine PySem.W.callWith_K (h₀ := X.base) I.ok.mod.kin M.kp (thn (ha pos pins s σ H _ I h) fun us s1 ⟨vs, H1, I1, r, q⟩ => ⟨I1.kIn, ?_⟩) he hpl
  exact run_make M F hr hb hd hx I1 r q
end
section
variable {X : Cx} {CX : CXT} {k : Nat} {f C : Addr} {fd : FuncData} {ps ks : List Str} {sp : Sp} {E : XK} {x m : Str} {p pos apos kpos : Pos} {e o : Expr} {es : List Expr} {kws : List Keyword} {te ta : TE} {t tk : TA} {nm : Option Str}
variable {g : List Value → List Value → List Value} {gV : List V → List V → List V}
end
structure FnScope (N P : List Str) (sc : Scope) : Prop where
  kind : sc.kind = .function
  co : sc.isCoroutine = false
  gen : sc.isGenerator = false
  nd : N.Nodup
  pre : N.take P.length = P
  par : ∀ x ∈ P, sc.names.lookup x = some .local ∨ sc.names.lookup x = some .cell
  nofree : ∀ y ∈ sc.names, y.2 ≠ .free
theorem bindL_out {kindOf : Str → Option NameKind} {x : Str} : ∀ {binds : List (Str × Value)} {m : Str → Option Value}, (∀ v, (x, v) ∉ binds) → bindL kindOf binds m x = m x
  | [], _, _ => rfl
  | (n, v) :: r, m, h => by
    unfold bindL
    rw [bindL_out fun w hw => h w (List.mem_cons_of_mem _ hw)]
    split
    · have : x ≠ n := by rintro rfl; exact h v List.mem_cons_self
      simp [this]
    · rfl
theorem bindC_out {kindOf : Str → Option NameKind} {x : Str} : ∀ {binds : List (Str × Value)} {m : Str → Option Value}, (∀ v, (x, v) ∉ binds) → bindC kindOf binds m x = m x
  | [], _, _ => rfl
  | (n, v) :: r, m, h => by
    unfold bindC
    rw [bindC_out fun w hw => h w (List.mem_cons_of_mem _ hw)]
    split
    · rfl
    · have : x ≠ n := by rintro rfl; exact h v List.mem_cons_self
      simp [this]
theorem bindL_get {kindOf : Str → Option NameKind} {x : Str} {v : Value} : ∀ {P : List Str} {vs : List Value} {i : Nat} {m : Str → Option Value}, P.Nodup → P[i]? = some x → vs[i]? = some v → kindOf x = some .local →
    bindL kindOf (P.zip vs) m x = some v
  | [], _, _, _, _, h, _, _ => by simp at h
  | _ :: _, [], _, _, _, _, h, _ => by simp at h
  | p :: P, w :: vs, 0, m, nd, h1, h2, hk => by
    simp at h1 h2; subst h1; subst h2
    show bindL kindOf ((p, w) :: P.zip vs) m p = _
    unfold bindL
    rw [bindL_out fun v hv => (List.nodup_cons.mp nd).1 (List.of_mem_zip hv).1, if_pos hk]
    simp
  | p :: P, w :: vs, i + 1, m, nd, h1, h2, hk => by
    show bindL kindOf ((p, w) :: P.zip vs) m x = _
    unfold bindL
    exact bindL_get (i := i) (List.nodup_cons.mp nd).2 (by simpa using h1) (by simpa using h2) hk
theorem bindC_get {kindOf : Str → Option NameKind} {x : Str} {v : Value} : ∀ {P : List Str} {vs : List Value} {i : Nat} {m : Str → Option Value}, P.Nodup → P[i]? = some x → vs[i]? = some v → kindOf x ≠ some .local →
    bindC kindOf (P.zip vs) m x = some v
  | [], _, _, _, _, h, _, _ => by simp at h
  | _ :: _, [], _, _, _, _, h, _ => by simp at h
  | p :: P, w :: vs, 0, m, nd, h1, h2, hk => by
    simp at h1 h2; subst h1; subst h2
    show bindC kindOf ((p, w) :: P.zip vs) m p = _
    unfold bindC
    rw [bindC_out fun v hv => (List.nodup_cons.mp nd).1 (List.of_mem_zip hv).1, if_neg hk]
    simp
  | p :: P, w :: vs, i + 1, m, nd, h1, h2, hk => by
    show bindC kindOf ((p, w) :: P.zip vs) m x = _
    unfold bindC
    exact bindC_get (i := i) (List.nodup_cons.mp nd).2 (by simpa using h1) (by simpa using h2) hk
def start (N : List Str) (vs : List V) : St := vs.map some ++ List.replicate (N.length - vs.length) none
def cxOf (CX : CXT) (P : Program) (w : World) (K : PySem.W.Frag) (mg : Str → Option Value) (base : Heap) (N : List Str) (qual : Str) (scope : Scope) (f : Addr) (cd : Value) (A : Around) (outer : List Env) (s : Shared) (H : Hp) (E : XK) : Cx where
  prog := P
  w := w
  K := K
  mg := mg
  base := base
  A := A.deeper (envOfC qual scope s.heap.objs.size f cd)
  N := N
  s₀ := s
  H₀ := H
  env := envOfC qual scope s.heap.objs.size f cd
  outer := outer
  stack := envOfC qual scope s.heap.objs.size f cd :: outer
  ex := []
  calm := true
  fn := fun _ => true
  pn := []
  xe := fun e s' => wpAny (model P w) (A.deeper (envOfC qual scope s.heap.objs.size f cd)) (leaving (envOfC qual scope s.heap.objs.size f cd) e) (fun _ s'' => CX outer H s E e s'') (fun e' s'' => CX outer H s E e' s'') s'
theorem cell_has {sc : Scope} {n : Nat} {x : Str} (h : sc.names.lookup x = some .cell) : ∃ c, (cellsFrom n sc.names []).lookup x = some c := by
  have q := PySem.W.cellsFrom_some sc.names n [] (.inl h)
  exact Option.isSome_iff_exists.mp q
theorem inv_start {CX : CXT} {P : Program} {w : World} {K : PySem.W.Frag} {mg : Str → Option Value} {base : Heap} {N ps : List Str} {qual : Str} {scope : Scope} {f : Addr} {cd : Value} {A : Around} {outer : List Env} {s s1 : Shared} {H : Hp} {E : XK} {us : List Value} {vs : List V}
    (S : FnScope N ps scope) (hd : A.handled = none) (e0 : Env0 P w K mg base A outer s H) (hl : vs.length = ps.length) (r : Vals vs us)
    (x : InCallC s s.heap.objs.size (bindL (envOfC qual scope s.heap.objs.size f cd).kindOf (ps.zip us) fun _ => none) (cellsFrom (s.heap.objs.size + 1) scope.names []) (bindC (envOfC qual scope s.heap.objs.size f cd).kindOf (ps.zip us) fun _ => none) s1) :
    Inv (cxOf CX P w K mg base N qual scope f cd A outer s H E) [] (start N vs) H s1 := by
  have hpl : ps.length ≤ N.length := by have := congrArg List.length S.pre; rw [List.length_take] at this; omega
  obtain ⟨h1, tk, rfl, hk⟩ := x.done
  have noA : ∀ b : Addr, b ∉ (cxOf CX P w K mg base N qual scope f cd A outer s H E).ex := fun b z => absurd (show b ∈ ([] : List Addr) from z) (by simp)
  refine ⟨⟨e0.mod, S.kind, rfl, rfl, Nat.le_refl _, fun y z c h1 h2 => ?_, fun y hy => ?_, fun y c _ h => ?_, fun _ => hd, Around.frames_deeper e0.frames, .inr ⟨rfl, rfl⟩, fun b z => absurd z (noA b), e0.bs, e0.bsz, fun b _ _ => noA b, fun b z => absurd z (noA b), e0.funs, e0.frf⟩,
    rfl, e0.bare, Un.kept hk, ⟨_, x.toInCall.ns, fun i y v h1 h2 h3 => ?_⟩, fun y c h => ⟨_, x.cell y c h⟩, e0.hok.fresh (Nat.le_refl _), fun y c h => ?_, fun p hp => absurd (show p ∈ ([] : List (Addr × Obj)) from hp) (by simp), e0.hok.kept hk, ?_⟩
  · exact name_of_addr x.apart (PySem.mem_of_lookup h1) (PySem.mem_of_lookup h2)
  · have hy : scope.names.lookup y = some .cell ∨ scope.names.lookup y = some .free := hy
    rcases hy with hy | hy
    · exact cell_has hy
    · exact absurd rfl (S.nofree _ (PySem.mem_of_lookup hy))
  · exact Nat.le_of_lt (x.above y c (PySem.mem_of_lookup h))
  · have hi : i < vs.length := by
      unfold start at h2
      by_cases hi : i < vs.length
      · exact hi
      · rw [List.getElem?_append_right (by simpa using hi)] at h2
        rw [List.getElem?_replicate] at h2
        split at h2 <;> cases h2
    have ha : vs[i]? = some v := by
      unfold start at h2
      rw [List.getElem?_append_left (by simpa using hi), List.getElem?_map] at h2
      cases e : vs[i]? with
      | none => rw [e] at h2; cases h2
      | some a => rw [e] at h2; cases h2; rfl
    obtain ⟨u, hu, rv⟩ := r.get ha
    have hp : ps[i]? = some y := by
      rw [← S.pre, List.getElem?_take_of_lt (by omega)]; exact h1
    have ndP : ps.Nodup := by rw [← S.pre]; exact S.nd.sublist (List.take_sublist _ _)
    refine ⟨u, rv, ?_⟩
    rcases S.par y (List.mem_of_getElem? hp) with k | k
    · exact .inl ⟨k, bindL_get ndP hp hu k⟩
    · obtain ⟨c, e⟩ := cell_has (n := s.heap.objs.size + 1) k
      refine .inr ⟨.inl k, c, e, ?_⟩
      have q := x.cell y c e
      rw [bindC_get ndP hp hu (by show scope.names.lookup y ≠ _; rw [k]; decide)] at q
      exact q
  · exact e0.hok.fresh (Nat.le_of_lt (x.above y c (PySem.mem_of_lookup h)))
  · unfold start
    show _ = N.length
    rw [List.length_append, List.length_map, List.length_replicate]
    omega
theorem fn_of {CX : CXT} {P : Program} {w : World} {K : PySem.W.Frag} {mg : Str → Option Value} {base : Heap} {k : Nat} {f : Addr} {name qual : Str} {params : Arguments} {body : List Stmt} {scope : Scope} {dV kV doc pm cdv ct oc : Value} {an od : Option Addr}
    {osl : Array (Option Value)} {N ps : List Str} {sp : Sp} (lk : K.lookup f = some ⟨oc, od, .func (PySem.W.fnOf name qual params body scope dV kV doc pm an cdv ct), osl⟩) (hcd : PySem.W.codeIn K cdv qual = true) (S : FnScope N ps scope)
    (len : ∀ vs H Q E, sp vs H Q E → vs.length = ps.length)
    (hbody : ∀ (A : Around) (outer : List Env) (s : Shared) (H : Hp) (vs : List V) (Q : VK) (E : XK), Room k (A.deeper (envOfC qual scope s.heap.objs.size f cdv)) → sp vs H Q E →
      ∃ t, PSs (cxOf CX P w K mg base N qual scope f cdv A outer s H E) body t ∧ t { nx := fun _ H' => Q .non H', rt := Q } (start N vs) H) :
    FnOk P w K mg base CX (k + 1) f (PySem.W.fnOf name qual params body scope dV kV doc pm an cdv ct) ps sp := by
  refine ⟨len, fun A outer s H args us vs Q E hr e0 hb r hsp => ?_⟩
  have hl := len _ _ _ _ hsp
  have KX : K.In s.heap := e0.mod.kin.keeps fun b o e => (e0.bs b o e).1
  have lim : s.heap.NoLimit := e0.mod.nolimit.keeps fun b o e => (e0.bs b o e).1
  have hkind : ∀ y ∈ ps.zip us, scope.names.lookup y.1 = some .local ∨ (scope.names.lookup y.1 = some .cell ∧ ((cellsFrom (s.heap.objs.size + 1) scope.names []).lookup y.1).isSome = true) := fun ⟨n, v⟩ hy => by
    rcases S.par n (List.of_mem_zip hy).1 with q | q
    · exact .inl q
    · exact .inr ⟨q, PySem.W.cellsFrom_some _ _ _ (.inl q)⟩
  refine codeAny_call_function hr.depth (KX _ _ lk) rfl S.co S.gen rfl (PySem.W.codeRec_of KX hcd) (hb _ _ _ _ ?_)
  refine wpAny_newFunctionEnv_cells S.kind hkind fun env he s1 x => ?_
  subst he
  refine ⟨lim.keeps x.toInCall.keep, codeAny_func ?_⟩
  obtain ⟨t, ht, hq⟩ := hbody A outer s H vs Q E (hr.deeper _) hsp
  have I : Inv (cxOf CX P w K mg base N qual scope f cdv A outer s H E) [] (start N vs) H s1 := inv_start S hr.hd e0 hl r x
  refine wpAny_mono (ht [] s1 (start N vs) H _ I hq) (fun fl s' hs => ?_) fun e s' hs => hs
  have fin : ∀ {σ' : St} {H' : Hp} {v : V} {u : Value}, Inv (cxOf CX P w K mg base N qual scope f cdv A outer s H E) [] σ' H' s' → RelV v u → Q v H' → CE outer P w H s Q u s' :=
    fun {σ' H' v u} J rv q => ⟨v, H', J.os, J.bare, J.base, J.hok, rv, q⟩
  cases fl with
  | ret u =>
    obtain ⟨v, σ', H', J, rv, q⟩ := hs
    exact fin J rv q
  | next =>
    obtain ⟨σ', H', J, q⟩ := hs
    exact fin (v := V.non) (u := Value.none) J rfl q
  | brk =>
    obtain ⟨_, _, _, q⟩ := hs
    exact False.elim q
  | cont =>
    obtain ⟨_, _, _, q⟩ := hs
    exact False.elim q
end L2
namespace L2
open PySem PySem.Spec PyProof.Rows
section
variable {X : Cx} {x : Str} {p pos : Pos} {e : Expr} {es : List Expr} {t : TA} {id T : String} {r : List V → Hp → VK → Prop}
def tCB (r : List V → Hp → VK → Prop) (t : TA) : TE := fun σ H Q => t σ H fun vs H1 => r vs H1 Q
theorem pe_callB (hc : CallR X (.builtin id) r) (hg : Gl X x) (hm : X.mg x = none) (hv : bootBuiltins x = some (.builtin id)) (ha : PA X (e :: es) t) (hn : x ≠ "__name__" := by decide) (hdb : (x == ("__debug__" : Str)) = false := by decide)
    (he : starEach (e :: es) X.env = (false, eval e X.env) :: starEach es X.env := by rfl) (hpl : (backTo pos (starEach es X.env)).any (·.1) = false := by rfl) : PE X (.Call (.Name x p) (e :: es) [] pos) (tCB r t) := by
  intro pins s σ H Q I h
  refine wpAny_Call_Name_kw (ld_blt I hg hm hv ?_ hn hdb)
  exact PyProof.Rows.callWith_builtin1 (thn (ha pos pins s σ H _ I h) fun us s1 ⟨vs, H1, I1, r1, q1⟩ => hc pins s1 σ H1 vs us Q I1 r1 q1) he hpl
theorem pe_callTy (hc : CallR X (.type T) r) (hg : Gl X x) (hm : X.mg x = none) (hv : bootBuiltins x = some (.type T)) (ha : PA X (e :: es) t) (hn : x ≠ "__name__" := by decide) (hdb : (x == ("__debug__" : Str)) = false := by decide)
    (he : starEach (e :: es) X.env = (false, eval e X.env) :: starEach es X.env := by rfl) (hpl : (backTo pos (starEach es X.env)).any (·.1) = false := by rfl) : PE X (.Call (.Name x p) (e :: es) [] pos) (tCB r t) := by
  intro pins s σ H Q I h
  refine wpAny_Call_Name_kw (ld_blt I hg hm hv ?_ hn hdb)
  exact PyProof.Rows.callWith_type1 (thn (ha pos pins s σ H _ I h) fun us s1 ⟨vs, H1, I1, r1, q1⟩ => hc pins s1 σ H1 vs us Q I1 r1 q1) he hpl
end
end L2
namespace L2
open PySem PySem.Spec PyProof.Rows
section
variable {κ : Type} [DecidableEq κ]
def valV (kvs : List (κ × V)) (k : κ) : Option V := (kvs.find? fun kv => decide (kv.1 = k)).map (·.2)
def putK (kvs : List (κ × V)) (k : κ) (v : V) : List (κ × V) :=
  if (kvs.any fun kv => decide (kv.1 = k)) = true then kvs.map (fun kv => if kv.1 = k then (kv.1, v) else kv) else kvs ++ [(k, v)]
theorem valV_pos {p : κ × V} {r : List (κ × V)} {k : κ} (e : p.1 = k) : valV (p :: r) k = some p.2 := by simp [valV, List.find?_cons, e]
theorem valV_neg {p : κ × V} {r : List (κ × V)} {k : κ} (e : ¬ p.1 = k) : valV (p :: r) k = valV r k := by simp [valV, List.find?_cons, e]
theorem valV_any (k : κ) : ∀ kvs : List (κ × V), (kvs.any fun kv => decide (kv.1 = k)) = (valV kvs k).isSome
  | [] => rfl
  | p :: r => by
    rw [List.any_cons]
    by_cases e : p.1 = k
    · simp only [valV_pos e, decide_eq_true e, Bool.true_or, Option.isSome_some]
    · rw [valV_neg e, decide_eq_false e, Bool.false_or]; exact valV_any k r
theorem valV_map (k j : κ) (y : V) : ∀ kvs : List (κ × V), valV (kvs.map fun kv => if kv.1 = k then (kv.1, y) else kv) j = (valV kvs j).map fun x => if j = k then y else x
  | [] => rfl
  | p :: r => by
    have ih := valV_map k j y r
    rw [List.map_cons]
    by_cases h : p.1 = k
    · rw [if_pos h]
      by_cases e : p.1 = j
      · rw [valV_pos (p := (p.1, y)) e, valV_pos e, Option.map_some, if_pos (e.symm.trans h)]
      · rw [valV_neg (p := (p.1, y)) e, valV_neg e, ih]
    · rw [if_neg h]
      by_cases e : p.1 = j
      · rw [valV_pos (p := p) e, valV_pos e, Option.map_some, if_neg (fun z => h (e.trans z))]
      · rw [valV_neg (p := p) e, valV_neg e, ih]
theorem valV_snoc (k j : κ) (y : V) : ∀ kvs : List (κ × V), valV kvs k = none → valV (kvs ++ [(k, y)]) j = if j = k then some y else valV kvs j
  | [], _ => by
    by_cases e : k = j
    · rw [if_pos e.symm]; exact valV_pos (p := (k, y)) e
    · rw [if_neg (fun z => e z.symm)]; exact valV_neg (p := (k, y)) e
  | p :: r, hn => by
    rw [List.cons_append]
    have hk : ¬ p.1 = k := fun z => by rw [valV_pos z] at hn; cases hn
    rw [valV_neg hk] at hn
    have ih := valV_snoc k j y r hn
    by_cases e : p.1 = j
    · rw [valV_pos e, valV_pos e, if_neg (fun z => hk (e.trans z))]
    · rw [valV_neg e, valV_neg e, ih]
theorem valV_put (kvs : List (κ × V)) (k j : κ) (y : V) : valV (putK kvs k y) j = if j = k then some y else valV kvs j := by
  unfold putK
  by_cases a : (kvs.any fun kv => decide (kv.1 = k)) = true
  · rw [if_pos a, valV_map]
    rw [valV_any] at a
    by_cases e : j = k
    · obtain ⟨x, hx⟩ := Option.isSome_iff_exists.mp a
      rw [if_pos e, e, hx, Option.map_some, if_pos rfl]
    · rw [if_neg e]
      cases valV kvs j with
      | none => rfl
      | some x => rw [Option.map_some, if_neg e]
  · rw [if_neg a]
    refine valV_snoc k j y kvs ?_
    rw [valV_any] at a
    cases q : valV kvs k with
    | none => rfl
    | some x => rw [q] at a; exact (a rfl).elim
theorem length_putK (kvs : List (κ × V)) (k : κ) (v : V) : (putK kvs k v).length ≤ kvs.length + 1 := by
  unfold putK
  split
  · rw [List.length_map]; omega
  · rw [List.length_append, List.length_cons, List.length_nil]; omega
theorem RelO.isSome_eq {o : Option V} {u : Option Value} (r : RelO o u) : o.isSome = u.isSome := by
  cases o with
  | none => cases u with
    | none => rfl
    | some _ => exact (show False from r).elim
  | some _ => cases u with
    | none => exact (show False from r).elim
    | some _ => rfl
theorem KV.val {kvs : List (κ × V)} {vs : List (κ × Value)} (r : KV kvs vs) (k : κ) : RelO (valV kvs k) (valueAt vs k) := by
  unfold KV at r
  induction r with
  | nil => exact True.intro
  | @cons p q ps qs h t ih =>
    obtain ⟨h1, h2⟩ := h
    by_cases e : p.1 = k
    · have e' : q.1 = k := h1.symm.trans e
      have b : valueAt (q :: qs) k = some q.2 := by simp [valueAt, List.find?_cons, e']
      rw [valV_pos e, b]; exact h2
    · have e' : ¬ q.1 = k := fun z => e (h1.trans z)
      have b : valueAt (q :: qs) k = valueAt qs k := by simp [valueAt, List.find?_cons, e']
      rw [valV_neg e, b]; exact ih
theorem KV.any {kvs : List (κ × V)} {vs : List (κ × Value)} (r : KV kvs vs) (k : κ) : (kvs.any fun kv => decide (kv.1 = k)) = vs.any fun kv => decide (kv.1 = k) := by
  unfold KV at r
  induction r with
  | nil => rfl
  | cons h t ih => rw [List.any_cons, List.any_cons, ih, h.1]
theorem KV.repl {kvs : List (κ × V)} {vs : List (κ × Value)} (r : KV kvs vs) (k : κ) {y : V} {u : Value} (ry : RelV y u) :
    KV (kvs.map fun kv => if kv.1 = k then (kv.1, y) else kv) (vs.map fun kv => if kv.1 = k then (kv.1, u) else kv) := by
  unfold KV at r ⊢
  induction r with
  | nil => exact .nil
  | @cons p q ps qs h t ih =>
    rw [List.map_cons, List.map_cons]
    refine .cons ?_ ih
    obtain ⟨h1, h2⟩ := h
    by_cases e : p.1 = k
    · rw [if_pos e, if_pos (h1.symm.trans e)]; exact ⟨h1, ry⟩
    · rw [if_neg e, if_neg (fun z => e (h1.trans z))]; exact ⟨h1, h2⟩
theorem KV.put {kvs : List (κ × V)} {vs : List (κ × Value)} (r : KV kvs vs) (k : κ) {y : V} {u : Value} (ry : RelV y u) : KV (putK kvs k y) (stored vs k u) := by
  unfold putK stored
  rw [r.any k]
  by_cases e : (vs.any fun kv => decide (kv.1 = k)) = true
  · rw [if_pos e, if_pos e]; exact r.repl k ry
  · rw [if_neg e, if_neg e]; exact Paired.snoc r ⟨rfl, ry⟩
theorem KV.length {kvs : List (κ × V)} {vs : List (κ × Value)} (r : KV kvs vs) : kvs.length = vs.length := Paired.length r
end
theorem kV_is {P : Program} {w : World} {k : Key} {u : Value} (r : RelV (kV k) u) : (mixKind P w).is k u = true := by
  cases k with
  | inl i => obtain ⟨t, e⟩ := (show ∃ t, u = Value.int i t from r); subst e; exact mixKind_int P w i t
  | inr x => obtain ⟨t, e⟩ := (show ∃ t, u = Value.str x t from r); subst e; exact mixKind_str P w x t
theorem items_are {P : Program} {w : World} : ∀ {ks : List Key} {us : List Value}, Vals (ks.map kV) us → ItemsAre (mixKind P w) ks us
  | [], _, r => by rw [List.map_nil] at r; cases r; exact .nil
  | k :: ks, _, r => by
    rw [List.map_cons] at r
    cases r with
    | cons h t => exact .cons (kV_is h) (items_are t)
abbrev KT (H : Hp) : List (List Key × V) → List (List Key × Addr × Value) → Prop := Paired fun p q => p.1 = q.1 ∧ H q.2.1 = some (.tup (p.1.map kV)) ∧ RelV p.2 q.2.2
theorem KT.val {H : Hp} {kvs : List (List Key × V)} {xs : List (List Key × Addr × Value)} (r : KT H kvs xs) (k : List Key) : RelO (valV kvs k) ((atKey xs k).map (·.2)) := by
  induction r with
  | nil => exact True.intro
  | @cons p q ps qs h t ih =>
    obtain ⟨h1, _, h2⟩ := h
    by_cases e : p.1 = k
    · have e' : q.1 = k := h1.symm.trans e
      have b : atKey (q :: qs) k = some q.2 := by simp [atKey, List.find?_cons, e']
      rw [valV_pos e, b]; exact h2
    · have e' : ¬ q.1 = k := fun z => e (h1.trans z)
      have b : atKey (q :: qs) k = atKey qs k := by simp [atKey, List.find?_cons, e']
      rw [valV_neg e, b]; exact ih
theorem KT.repl {H : Hp} {kvs : List (List Key × V)} {xs : List (List Key × Addr × Value)} (r : KT H kvs xs) (k : List Key) {y : V} {u : Value} (ry : RelV y u) :
    KT H (kvs.map fun kv => if kv.1 = k then (kv.1, y) else kv) (xs.map (putAt k u)) := by
  induction r with
  | nil => exact .nil
  | @cons p q ps qs h t ih =>
    rw [List.map_cons, List.map_cons]
    refine .cons ?_ ih
    obtain ⟨h1, h2, h3⟩ := h
    unfold putAt
    by_cases e : p.1 = k
    · rw [if_pos e, if_pos (h1.symm.trans e)]; exact ⟨h1, h2, ry⟩
    · rw [if_neg e, if_neg (fun z => e (h1.trans z))]; exact ⟨h1, h2, h3⟩
theorem KT.put {H : Hp} {kvs : List (List Key × V)} {xs : List (List Key × Addr × Value)} (r : KT H kvs xs) (k : List Key) {b : Addr} {y : V} {u : Value} (hb : H b = some (.tup (k.map kV))) (ry : RelV y u) :
    KT H (putK kvs k y) (storedH xs k b u) := by
  have e : (kvs.any fun kv => decide (kv.1 = k)) = (atKey xs k).isSome := by
    rw [valV_any, (r.val k).isSome_eq, Option.isSome_map]
  unfold putK storedH
  rw [e]
  by_cases q : (atKey xs k).isSome = true
  · rw [if_pos q, if_pos q]; exact r.repl k ry
  · rw [if_neg q, if_neg q]; exact Paired.snoc r ⟨rfl, hb, ry⟩
theorem KT.keeps {H H' : Hp} {kvs : List (List Key × V)} {xs : List (List Key × Addr × Value)} (r : KT H kvs xs) (ht : ∀ b ys, H b = some (.tup ys) → H' b = some (.tup ys)) : KT H' kvs xs :=
  Paired.mapP r fun _ _ z => ⟨z.1, ht _ _ z.2.1, z.2.2⟩
section
variable {P : Program} {w : World} {H : Hp} {h : Heap} {a : Addr}
theorem rd_of {u : HO} (ok : HOk P w H h) (e : Rd H a u) : ObjOk P w H h a u := e.ok ok
theorem dk_rd {kvs : List (Key × V)} (ok : HOk P w H h) (e : Rd H a (.dK kvs)) : kvs.length ≤ sizeLine ∧ (a == sysModules) = false ∧ ∃ vs, KV kvs vs ∧ h.DictOf (mixKind P w) a vs :=
  show ObjOk P w H h a (.dK kvs) from rd_of ok e
theorem dk_of {kvs : List (Key × V)} (ok : HOk P w H h) (e : H a = some (.dK kvs)) : kvs.length ≤ sizeLine ∧ (a == sysModules) = false ∧ ∃ vs, KV kvs vs ∧ h.DictOf (mixKind P w) a vs := dk_rd ok (.inl e)
theorem key_of {ks : List Key} (ok : HOk P w H h) (e : H a = some (.tup (ks.map kV))) : (tupleKind (mixKind P w)).is h ks a := by
  obtain ⟨_, its, r, o, h1, h2, n, h3⟩ := (show ObjOk P w H h a (.tup (ks.map kV)) from ok a _ e)
  exact ⟨o, its.toArray, n, h1, h2, h3, by simpa using items_are r⟩
theorem dt_rd {kvs : List (List Key × V)} (ok : HOk P w H h) (e : Rd H a (.dT kvs)) : kvs.length ≤ sizeLine ∧ (a == sysModules) = false ∧
    ∃ xs, KT H kvs xs ∧ h.DictOfH (tupleKind (mixKind P w)) a xs := by
  obtain ⟨z, y, xs, r, o, es, ep, h1, h2, h3, h4, h5⟩ := (show ObjOk P w H h a (.dT kvs) from rd_of ok e)
  refine ⟨z, y, xs, r, o, es, ep, h1, h2, h3, h4, fun x hx => ?_, h5⟩
  have all : ∀ {l : List (List Key × V)} {m : List (List Key × Addr × Value)}, KT H l m → ∀ x ∈ m, (tupleKind (mixKind P w)).is h x.1 x.2.1 := by
    intro l m q
    induction q with
    | nil => intro x hx; exact nomatch hx
    | @cons p q ps qs hq t ih =>
      intro x hx
      rcases List.mem_cons.mp hx with e | hx
      · subst e
        exact key_of ok (by rw [← hq.1]; exact hq.2.1)
      · exact ih x hx
  exact all r x hx
theorem dt_of {kvs : List (List Key × V)} (ok : HOk P w H h) (e : H a = some (.dT kvs)) : kvs.length ≤ sizeLine ∧ (a == sysModules) = false ∧
    ∃ xs, KT H kvs xs ∧ h.DictOfH (tupleKind (mixKind P w)) a xs := dt_rd ok (.inl e)
end
def DGet (H : Hp) (a : Addr) (y : V) (r : Option V) : Prop :=
  (∃ kvs k, Rd H a (.dK kvs) ∧ y = kV k ∧ r = valV kvs k) ∨ ∃ kvs k b, Rd H a (.dT kvs) ∧ y = .ref b ∧ H b = some (.tup (k.map kV)) ∧ r = valV kvs k
def DPut (H : Hp) (a : Addr) (y v : V) (H' : Hp) : Prop :=
  (∃ kvs k, H a = some (.dK kvs) ∧ y = kV k ∧ kvs.length < sizeLine ∧ H' = upd H a (.dK (putK kvs k v))) ∨
  ∃ kvs k b, H a = some (.dT kvs) ∧ y = .ref b ∧ H b = some (.tup (k.map kV)) ∧ kvs.length < sizeLine ∧ H' = upd H a (.dT (putK kvs k v))
theorem DGet.k {H : Hp} {a : Addr} {kvs : List (Key × V)} {k : Key} (e : H a = some (.dK kvs)) : DGet H a (kV k) (valV kvs k) := .inl ⟨kvs, k, .inl e, rfl, rfl⟩
theorem DPut.k {H : Hp} {a : Addr} {kvs : List (Key × V)} {k : Key} {v : V} (e : H a = some (.dK kvs)) (hl : kvs.length < sizeLine) : DPut H a (kV k) v (upd H a (.dK (putK kvs k v))) := .inl ⟨kvs, k, e, rfl, hl, rfl⟩
section
variable {X : Cx} {pins : List (Addr × Obj)} {σ : St} {H : Hp} {s : Shared} {a : Addr} {y v : V} {u r : Value} {o : Option V} {A : Around} {E : Value → Shared → Prop}
theorem Inv.big (I : Inv X pins σ H s) : sysModules < s.heap.objs.size := by
  have h : mainGlobals < s.heap.objs.size := (I.mod.glob.keeps I.bk).lt
  exact Nat.lt_trans (by decide) h
theorem d_getItem {Q : Value → Shared → Prop} (hu : A.units + 1 < cLine) (I : Inv X pins σ H s) (g : DGet H a y (some v)) (ry : RelV y u) (h : ∀ w' s', Inv X pins σ H s' → RelV v w' → Q w' s') :
    wpAny (model X.prog X.w) A (getItem (.ref a) u) Q E s := by
  rcases g with ⟨kvs, k, e, ey, l⟩ | ⟨kvs, k, b, e, ey, eb, l⟩
  · subst ey
    obtain ⟨z, hd, vs, rel, dd⟩ := dk_rd I.hok e
    obtain ⟨w', hw, rw'⟩ := RelO.some_of (v := v) (o := valueAt vs k) (by rw [l]; exact rel.val k)
    exact wpAny_getItem_of (kV_is ry) dd.mapOf hw (h w' _ (I.tok _) rw')
  · subst ey
    cases (show u = Value.ref b from ry)
    obtain ⟨z, hd, xs, rel, dd⟩ := dt_rd I.hok e
    obtain ⟨w', hw, rw'⟩ := RelO.some_of (v := v) (o := (atKey xs k).map (·.2)) (by rw [l]; exact rel.val k)
    obtain ⟨p, hp, hp2⟩ := Option.map_eq_some_iff.mp hw
    refine wpAny_getItem_heap (tupleKind_room_in1 hu) (key_of I.hok eb) dd hp ?_
    rw [hp2]
    exact h w' _ (I.tok _) rw'
theorem d_notIn {Q : Value → Shared → Prop} (hu : A.units + 1 < cLine) (I : Inv X pins σ H s) (g : DGet H a y o) (ry : RelV y u) (h : ∀ s', Inv X pins σ H s' → Q (.bool (!o.isSome)) s') :
    wpAny (model X.prog X.w) A (compareOp .NotIn u (.ref a)) Q E s := by
  rcases g with ⟨kvs, k, e, ey, l⟩ | ⟨kvs, k, b, e, ey, eb, l⟩
  · subst ey
    obtain ⟨z, hd, vs, rel, dd⟩ := dk_rd I.hok e
    refine wpAny_notIn_of (kV_is ry) hd dd.mapOf ?_
    rw [← (rel.val k).isSome_eq, ← l]
    exact h _ (I.tok _)
  · subst ey
    cases (show u = Value.ref b from ry)
    obtain ⟨z, hd, xs, rel, dd⟩ := dt_rd I.hok e
    refine wpAny_notIn_heap (tupleKind_room_in1 hu) (key_of I.hok eb) hd dd ?_
    have q := (rel.val k).isSome_eq
    rw [Option.isSome_map] at q
    rw [← q, ← l]
    exact h _ (I.tok _)
theorem d_write {h' : Heap} {t' : Nat} {ob : HO} (I : Inv X pins σ H s) (mu : Mut (H a)) (hs : Heap.SameBut a s.heap h') (he : ∃ q, h'.get? a = some q) (new : ObjOk X.prog X.w (upd H a ob) h' a ob) :
    Inv X pins σ (upd H a ob) { s with heap := h', toks := t' } :=
  I.write (x := a) (e := a) mu (.inl rfl) (fun b q hb z => (hs.2 b hb).trans z) he new
theorem dk_new {P : Program} {w : World} {H' : Hp} {h' : Heap} {kvs : List (Key × V)} {vs : List (Key × Value)} (z : kvs.length ≤ sizeLine) (hd : (a == sysModules) = false) (rel : KV kvs vs) (dd : h'.DictOf (mixKind P w) a vs) :
    ObjOk P w H' h' a (.dK kvs) := ⟨z, hd, vs, rel, dd⟩
theorem d_setItem {H' : Hp} {Q : Unit → Shared → Prop} (hu : A.units + 1 < cLine) (I : Inv X pins σ H s) (g : DPut H a y v H') (ry : RelV y u) (rv : RelV v r) (h : ∀ s', Inv X pins σ H' s' → Q () s') :
    wpAny (model X.prog X.w) A (setItem (.ref a) u r) Q E s := by
  rcases g with ⟨kvs, k, e, ey, l, eH⟩ | ⟨kvs, k, b, e, ey, eb, l, eH⟩
  · subst ey eH
    obtain ⟨z, hd, vs, rel, dd⟩ := dk_of I.hok e
    have hz : vs.length ≤ sizeLine := by rw [← rel.length]; exact z
    have hl : (putK kvs k v).length ≤ sizeLine := by have := length_putK kvs k v; omega
    refine wpAny_setItem_pairs (hsz := hz) (kV_is ry) dd fun h' dd' hs => h _ ?_
    have he : ∃ q, h'.get? a = some q := let ⟨q, _, _, hq, _⟩ := dd'; ⟨q, hq⟩
    exact d_write I (by rw [e]; exact True.intro) hs he (dk_new hl hd (rel.put k rv) dd')
  · subst ey eH
    cases (show u = Value.ref b from ry)
    obtain ⟨z, hd, xs, rel, dd⟩ := dt_of I.hok e
    have hz : xs.length ≤ sizeLine := by rw [← Paired.length rel]; exact z
    have hl : (putK kvs k v).length ≤ sizeLine := by have := length_putK kvs k v; omega
    refine wpAny_setItem_heap (hsz := hz) (tupleKind_room_in1 hu) (key_of I.hok eb) dd fun h' dd' hs => h _ ?_
    obtain ⟨q, es, ep, hq, h2, h3, h4, _, h5⟩ := dd'
    refine d_write I (by rw [e]; exact True.intro) hs ⟨q, hq⟩ ⟨hl, hd, _, (rel.put k eb rv).keeps fun c ys ec => ?_, q, es, ep, hq, h2, h3, h4, h5⟩
    rw [upd_ne (ne_of ec e (fun z => nomatch z))]
    exact ec
end
section
variable {X : Cx} {pins : List (Addr × Obj)} {σ : St} {H : Hp} {s : Shared} {a : Addr} {kvs : List (Key × V)} {k : Key} {u : Value} {A : Around} {E : Value → Shared → Prop}
end
def NoSl (i : Expr) : Prop := ∀ ov iv, subscripted i false ov iv = operate [ov, iv] (getItem ov iv)
theorem subD_of {prog : Program} {w : World} {A : Around} {E : Value → Shared → Prop} {s : Shared} {env : Env} {value slice : Expr} {pos : Pos} {T id : String} {Q : Value → Shared → Prop}
    (hl : typeLookup (.type T) "__getitem__" = pure (some (.builtin id))) (hs : NoSl slice)
    (h : wpAny (model prog w) A (eval value env) (fun o s₁ => wpAny (model prog w) A (eval slice env) (fun i s₂ => s₂.TypeIs o T ∧ wpAny (model prog w) A (getItem o i) Q E s₂) E s₁) E s) :
    wpAny (model prog w) A (eval (.Subscript value slice pos) env) Q E s := by
  refine Subscript_ (wpAny_mono h (fun o s₁ h₁ => wpAny_mono h₁ (fun i s₂ h₂ => ?_) fun _ _ x => x) fun _ _ x => x)
  obtain ⟨hT, h₂⟩ := h₂
  unfold subscriptTail
  refine wpAny_bind ?_
  rw [getitemInPython_of_ne hT.not_modules]
  refine wpAny_bind (wpAny_specialOf hT hl ?_)
  have fin : wpAny (model prog w) A (subscripted slice false o i) (fun r s₃ => wpAny (model prog w) A (letTemporaryGo value o r >>= fun _ => pure r) Q E s₃) E s₂ := by
    rw [hs o i]
    exact wpAny_operating (wpAny_mono h₂ (fun r s₃ h₃ => wpAny_bind (wpAny_letTemporaryGo (wpAny_pure h₃))) fun _ _ x => x)
  first
    | exact wpAny_pure (wpAny_bind fin)
    | exact wpAny_bind (wpAny_pure (wpAny_bind fin))
    | exact wpAny_bind fin
theorem dict_typeIs {X : Cx} {pins : List (Addr × Obj)} {σ : St} {H : Hp} {s : Shared} {a : Addr} {y : V} {o : Option V} (I : Inv X pins σ H s) (g : DGet H a y o) : s.TypeIs (.ref a) "dict" := by
  rcases g with ⟨kvs, k, e, _, _⟩ | ⟨kvs, k, b, e, _, _, _⟩
  · obtain ⟨_, _, vs, _, dd⟩ := dk_rd I.hok e
    exact dd.typeIs
  · obtain ⟨_, _, xs, _, dd⟩ := dt_rd I.hok e
    exact dd.typeIs
def tDGet (td ty : TE) : TE := fun σ H Q => td σ H fun x H1 => ty σ H1 fun y H2 => ∃ a v, x = .ref a ∧ DGet H2 a y (some v) ∧ Q v H2
def tDIn (ty td : TE) : TE := fun σ H Q => ty σ H fun y H1 => td σ H1 fun x H2 => ∃ a o, x = .ref a ∧ DGet H2 a y o ∧ Q (.bl o.isSome) H2
def tDNotIn (ty td : TE) : TE := fun σ H Q => ty σ H fun y H1 => td σ H1 fun x H2 => ∃ a o, x = .ref a ∧ DGet H2 a y o ∧ Q (.bl (!o.isSome)) H2
def sDPut (td ty tv : TE) : TS := fun D σ H => tv σ H fun v H1 => td σ H1 fun x H2 => ty σ H2 fun y H3 => ∃ a H4, x = .ref a ∧ DPut H3 a y v H4 ∧ D.nx σ H4
section
variable {X : Cx} {o i e value : Expr} {pos pos' tpos : Pos} {td ty tv : TE}
theorem pe_dget (hu : X.A.units + 1 < cLine) (ho : PE X o td) (hi : PE X i ty) (hs : NoSl i) : PE X (.Subscript o i pos) (tDGet td ty) := by
  intro pins s σ H Q I h
  refine subD_of PySem.F.slot_dict_getitem.lookup hs (thn (ho pins s σ H _ I h) fun u s1 ⟨x, H1, I1, rx, q1⟩ => thn (hi pins s1 σ H1 _ I1 q1) fun iv s2 ⟨y, H2, I2, ry, a, v, ex, g, q2⟩ => ?_)
  subst ex
  obtain rfl : u = Value.ref a := rx
  exact ⟨dict_typeIs I2 g, d_getItem hu I2 g ry fun w' s3 I3 rw' => ⟨v, H2, I3, rw', q2⟩⟩
theorem pc_dnotin (hu : X.A.units + 1 < cLine) (hi : PE X i ty) (ho : PE X o td) : PC X .NotIn i o (tDNotIn ty td) := by
  intro pins s σ H Q I h
  refine thn (hi pins s σ H _ I h) fun iv s1 ⟨y, H1, I1, ry, q1⟩ => thn (ho pins s1 σ H1 _ I1 q1) fun u s2 ⟨x, H2, I2, rx, a, ov, ex, g, q2⟩ => ?_
  subst ex
  obtain rfl : u = Value.ref a := rx
  exact d_notIn hu I2 g ry fun s3 I3 => ⟨.bl (!ov.isSome), H2, I3, rfl, q2⟩
theorem ps_dput (hu : X.A.units + 1 < cLine) (ho : PE X o td) (hi : PE X i ty) (hv : PE X value tv) (hs : swapsWith value (some (.Subscript o i pos')) pos.line X.env = pure false) :
    PS X (.Assign [.Subscript o i pos'] value pos) (sDPut td ty tv) := by
  intro pins s σ H D I h
  refine wpAny_Assign_Subscript (thn (hv pins s σ H _ I h) fun r s1 ⟨v, H1, I1, rv, q1⟩ => thn (ho pins s1 σ H1 _ I1 q1) fun u s2 ⟨x, H2, I2, rx, q2⟩ => thn (hi pins s2 σ H2 _ I2 q2) fun iv s3 ⟨y, H3, I3, ry, a, H4, ex, g, q3⟩ => ?_) hs
  subst ex
  obtain rfl : u = Value.ref a := rx
  exact d_setItem hu I3 g ry rv fun s4 I4 => ⟨σ, H4, I4, q3⟩
end
theorem dk_empty {P : Program} {w : World} {H : Hp} (h : Heap) (hb : sysModules < h.objs.size) : ObjOk P w H (h.push { cls := .type "dict", data := .dict #[] }) h.objs.size (.dK []) :=
  ⟨Nat.zero_le _, beq_eq_false_iff_ne.mpr (Ne.symm (Nat.ne_of_lt hb)), [], .nil, Heap.DictOf.new h⟩
def tDNewK : TE := fun _ H Q => ∀ p, H p = none → Q (.ref p) (upd H p (.dK []))
def tDNewT : TE := fun _ H Q => ∀ p, H p = none → Q (.ref p) (upd H p (.dT []))
section
variable {X : Cx} {pos : Pos}
theorem pe_dnewK : PE X (.Dict [] [] pos) tDNewK := fun pins s σ H Q I h =>
  wpAny_Dict_empty ⟨.ref s.heap.objs.size, _, I.laid (a := s.heap.objs.size) (o := .dK []) (t' := s.toks) (fun _ _ q => Heap.get?_push_of_some _ q) (Nat.le_refl _) (dk_empty s.heap I.big), rfl, h _ (I.hok.fresh (Nat.le_refl _))⟩
end
structure M1 (X : Cx) (o : Expr) (m : Str) (apos : Pos) (e : Expr) (cpos : Pos) : Prop where
  base : attributeBase o m X.env (eval o X.env) = eval o X.env
  few : ((backTo cpos (starEach [e] X.env)).all (fun x => !x.1) && (backToKw cpos (keywordEach [] X.env)).all (fun x => x.1.isSome)
    && decide (([e] : List Expr).length + ([] : List Keyword).length + (if ([] : List Keyword).isEmpty then 0 else 1) < 30)) = true
  line : (apos.endLine == cpos.line) = true
  trees : backTo cpos (starEach [e] X.env) = [(false, eval e X.env)]
structure M2 (X : Cx) (o : Expr) (m : Str) (apos : Pos) (e f : Expr) (cpos : Pos) : Prop where
  base : attributeBase o m X.env (eval o X.env) = eval o X.env
  few : ((backTo cpos (starEach [e, f] X.env)).all (fun x => !x.1) && (backToKw cpos (keywordEach [] X.env)).all (fun x => x.1.isSome)
    && decide (([e, f] : List Expr).length + ([] : List Keyword).length + (if ([] : List Keyword).isEmpty then 0 else 1) < 30)) = true
  line : (apos.endLine == cpos.line) = true
  trees : backTo cpos (starEach [e, f] X.env) = [(false, eval e X.env), (false, eval f X.env)]
def IsD (H : Hp) (a : Addr) : Prop := (∃ kvs, Rd H a (.dK kvs)) ∨ ∃ kvs, Rd H a (.dT kvs)
section
variable {X : Cx} {pins : List (Addr × Obj)} {σ : St} {H : Hp} {s : Shared} {a : Addr} {y d : V} {u r : Value} {o : Option V} {A : Around} {E : Value → Shared → Prop}
end
def tDGet2 (td ty tx : TE) : TE := fun σ H Q => td σ H fun x H1 => ∃ a, x = .ref a ∧ IsD H1 a ∧ ty σ H1 fun y H2 => tx σ H2 fun z H3 => ∃ o, DGet H3 a y o ∧ Q (o.getD z) H3
section
variable {X : Cx} {o e f : Expr} {apos cpos : Pos} {td ty tx : TE}
end
section
variable {X : Cx} {pins : List (Addr × Obj)} {σ : St} {H : Hp} {s : Shared} {a : Addr} {kvs : List (Key × V)} {A : Around} {E : Value → Shared → Prop}
end
section
variable {X : Cx} {pins : List (Addr × Obj)} {σ : St} {H : Hp} {s : Shared} {a : Addr} {y : V} {u : Value} {A : Around} {E : Value → Shared → Prop}
end
end L2
namespace HT
open PySem PyProof.Rows
section
open PySem.SeqAt
open PySem.AutoSeq1 (wpAny_loadPart')
open PySem.MeetsSeq PySem.MeetsSeq2 PySem.MeetsSeq3
end
section
variable {prog : Program} {w : World} {A : Around} {E : Value → Shared → Prop} {s : Shared}
def sIx (n d : Nat) : Option Int → Nat
  | none => d
  | some v => if v < 0 then (v + (n : Int)).toNat else min v.toNat n
theorem sIx_none (n d : Nat) : sIx n d none = d := rfl
theorem sIx_nat (n d k : Nat) : sIx n d (some (k : Int)) = min k n := by
  show (if (k : Int) < 0 then ((k : Int) + (n : Int)).toNat else min (k : Int).toNat n) = min k n
  rw [if_neg (by omega), Int.toNat_natCast]
end
end HT
namespace L2
open PySem PySem.Spec PyProof.Rows
abbrev TO := St → Hp → (Option Int → Hp → Prop) → Prop
def PO (X : Cx) (e : Option Expr) (t : TO) : Prop :=
  ∀ (pins : List (Addr × Obj)) (s : Shared) (σ : St) (H : Hp) (Q : Option Int → Hp → Prop), Inv X pins σ H s → t σ H Q →
    wpAny (model X.prog X.w) X.A (evalPart e X.env) (fun u s' => ∃ o H', Inv X pins σ H' s' ∧ IsPart u o ∧ Q o H') X.xe s
def tNoPart : TO := fun _ H Q => Q none H
def tPart (t : TE) : TO := fun σ H Q => t σ H fun x H1 => ∃ i, x = .int i ∧ Q (some i) H1
theorem intsAre_of {ns : List Int} : ∀ {us : List Value}, Vals (ns.map V.int) us → IntsAre us ns := by
  induction ns with
  | nil => intro us r; rw [List.map_nil] at r; cases r; exact .nil
  | cons n ns ih =>
    intro us r
    rw [List.map_cons] at r
    cases r with
    | cons r1 r2 =>
      obtain ⟨t, e⟩ := r1
      subst e
      exact .cons n t (ih r2)
section
variable {X : Cx} {e : Expr} {te : TE} {lo hi : Option Expr} {tl th : TO} {pos p2 : Pos}
theorem po_none : PO X none tNoPart := by
  intro pins s σ H Q I h
  rw [evalPart_none]
  exact wpAny_pure ⟨none, H, I, .none, h⟩
theorem po_some (h : PE X e te) : PO X (some e) (tPart te) := by
  intro pins s σ H Q I hw
  rw [evalPart_some]
  refine thn (h pins s σ H _ I hw) fun u s1 ⟨x, H1, I1, r1, q1⟩ => ?_
  obtain ⟨i, rfl, q⟩ := q1
  obtain ⟨t, rfl⟩ := r1
  exact ⟨some i, H1, I1, .int i t, q⟩
def SlR (X : Cx) (r : V → Option Int → Option Int → Hp → VK → Prop) : Prop :=
  ∀ (pins : List (Addr × Obj)) (s : Shared) (σ : St) (H : Hp) (x : V) (v vl vu : Value) (lo hi : Option Int) (sl : Addr) (Q : VK), Inv X pins σ H s → RelV x v → s.heap.IsSliceOf sl vl vu .none → IsPart vl lo → IsPart vu hi → r x lo hi H Q →
    ∃ T id, typeLookup (.type T) "__getitem__" = pure (some (.builtin id)) ∧ s.TypeIs v T ∧ wpAny (model X.prog X.w) X.A (getItem v (.ref sl)) (EP X pins σ Q) X.xe s
def tSl (r : V → Option Int → Option Int → Hp → VK → Prop) (te : TE) (tl th : TO) : TE := fun σ H Q => te σ H fun x H1 => tl σ H1 fun l H2 => th σ H2 fun u H3 => r x l u H3 Q
theorem pe_slice {r : V → Option Int → Option Int → Hp → VK → Prop} (hr : SlR X r) (he : PE X e te) (hl : PO X lo tl) (hu : PO X hi th) : PE X (.Subscript e (.Slice lo hi none p2) pos) (tSl r te tl th) := by
  intro pins s σ H Q I h
  refine Subscript_ (thn (he pins s σ H _ I h) fun v s1 ⟨x, H1, I1, r1, q1⟩ => ?_)
  refine wpAny_Slice (thn (hl pins s1 σ H1 _ I1 q1) fun vl s2 ⟨l, H2, I2, pl, q2⟩ => thn (hu pins s2 σ H2 _ I2 q2) fun vu s3 ⟨u, H3, I3, pu, q3⟩ => ?_)
  rw [evalPart_none]
  refine wpAny_pure ?_
  have I4 : Inv X pins σ H3 { s3 with heap := s3.heap.push { cls := .type "slice", data := .fields #[vl, vu, .none] } } := I3.kept (t' := s3.toks) fun b ob q => Heap.get?_push_of_some _ q
  obtain ⟨T, id, hT, ht, hg⟩ := hr pins { s3 with heap := s3.heap.push { cls := .type "slice", data := .fields #[vl, vu, .none] } } σ H3 x v vl vu l u s3.heap.objs.size Q I4 r1 (Heap.IsSliceOf.new ..) pl pu q3
  show wpAny (model X.prog X.w) X.A (subscriptTail e (.Slice lo hi none p2) v (.ref s3.heap.objs.size)) (EP X pins σ Q) X.xe { s3 with heap := s3.heap.push { cls := .type "slice", data := .fields #[vl, vu, .none] } }
  exact tail_any (ops := [.ref s3.heap.objs.size, v]) ht hT hg (by with_unfolding_all rfl)
def cutV (xs : List V) (lo hi : Option Int) : List V := (xs.drop (HT.sIx xs.length 0 lo)).take (HT.sIx xs.length xs.length hi - HT.sIx xs.length 0 lo)
theorem cutV_length (xs : List V) (lo hi : Option Int) : (cutV xs lo hi).length ≤ xs.length := by
  unfold cutV
  rw [List.length_take, List.length_drop]
  omega
def rSlT (K : PySem.W.Frag) : V → Option Int → Option Int → Hp → VK → Prop := fun x lo hi H Q => ∃ a xs, x = .ref a ∧ SqT K H a xs ∧
  ¬ (HT.sIx xs.length 0 lo = 0 ∧ HT.sIx xs.length xs.length hi = xs.length) ∧ ∀ p, H p = none → Q (.ref p) (upd H p (.tup (cutV xs lo hi)))
end
end L2
namespace L2
open PySem PySem.Spec PyProof.Rows
def ixN (n : Nat) (i : Int) : Option Nat := if 0 ≤ i then (if i < n then some i.toNat else none) else if -(n : Int) ≤ i then some (i + n).toNat else none
def atI {α : Type} (xs : List α) (i : Int) : Option α := (ixN xs.length i).bind fun j => xs[j]?
theorem ixN_seq {n : Nat} {i : Int} {j : Nat} (h : ixN n i = some j) : seqIndex? i n = some j ∧ j < n ∧ -(n : Int) ≤ i ∧ i < n := by
  unfold ixN at h
  by_cases h0 : 0 ≤ i
  · rw [if_pos h0] at h
    by_cases h1 : i < n
    · rw [if_pos h1] at h
      have e : i.toNat = j := Option.some.inj h
      exact ⟨by rw [seqIndex_of h0 h1, e], by omega, by omega, h1⟩
    · rw [if_neg h1] at h; cases h
  · rw [if_neg h0] at h
    by_cases h1 : -(n : Int) ≤ i
    · rw [if_pos h1] at h
      have e : (i + n).toNat = j := Option.some.inj h
      exact ⟨by rw [seqIndex_neg (by omega) h1, e], by omega, h1, by omega⟩
    · rw [if_neg h1] at h; cases h
theorem atI_get {α : Type} {xs : List α} {i : Int} {v : α} (h : atI xs i = some v) : ∃ j, seqIndex? i xs.length = some j ∧ xs[j]? = some v ∧ j < xs.length ∧ -(xs.length : Int) ≤ i ∧ i < xs.length := by
  unfold atI at h
  cases e : ixN xs.length i with
  | none => rw [e] at h; cases h
  | some j =>
    rw [e] at h
    obtain ⟨h1, h2, h3, h4⟩ := ixN_seq e
    exact ⟨j, h1, h, h2, h3, h4⟩
theorem atI_nat {α : Type} {xs : List α} {j : Nat} {v : α} (h : xs[j]? = some v) : atI xs (j : Int) = some v := by
  have hj : j < xs.length := (List.getElem?_eq_some_iff.mp h).1
  have e : ixN xs.length (j : Int) = some j := by
    unfold ixN
    rw [if_pos (by omega), if_pos (by omega)]; simp
  unfold atI; rw [e]; exact h
def PlainIx (b : Expr) : Prop := ∀ o i, subscripted b false o i = operate [o, i] (getItem o i)
def IxR (X : Cx) (r : R2) : Prop :=
  ∀ (value slice : Expr) (pins : List (Addr × Obj)) (s : Shared) (σ : St) (H : Hp) (x y : V) (v u : Value) (Q : VK), Inv X pins σ H s → RelV x v → RelV y u → r x y H Q →
    subscripted slice false v u = operate [v, u] (getItem v u) → wpAny (model X.prog X.w) X.A (subscriptTail value slice v u) (EP X pins σ Q) X.xe s
def MtR (X : Cx) (id : String) (r : V → List V → Hp → VK → Prop) : Prop :=
  ∀ (pins : List (Addr × Obj)) (s : Shared) (σ : St) (H : Hp) (x : V) (xs : List V) (v : Value) (us : List Value) (Q : VK), Inv X pins σ H s → RelV x v → Vals xs us → r x xs H Q →
    wpAny (model X.prog X.w) X.A (call (.builtin id) (v :: us)) (EP X pins σ Q) X.xe s
section
variable {X : Cx} {a b : Expr} {ta tb : TE} {pos : Pos}
theorem pe_ix {r : R2} (hr : IxR X r) (ha : PE X a ta) (hb : PE X b tb) (hs : PlainIx b) : PE X (.Subscript a b pos) (tOp r ta tb) := by
  intro pins s σ H Q I h
  exact Subscript_ (binT ha hb I h fun v u s2 x y H2 I2 rx ry q => hr a b pins s2 σ H2 x y v u Q I2 rx ry q (hs _ _))
def rIxL (K : PySem.W.Frag) : R2 := fun x y H Q => ∃ p xs i v, x = .ref p ∧ y = .int i ∧ SqL K H p xs ∧ atI xs i = some v ∧ Q v H
def rIxT (K : PySem.W.Frag) : R2 := fun x y H Q => ∃ p xs i v, x = .ref p ∧ y = .int i ∧ SqT K H p xs ∧ atI xs i = some v ∧ Q v H
theorem ix_list : IxR X (rIxL X.K) := by
  intro value slice pins s σ H x y v u Q I rx ry h hs
  obtain ⟨p, xs, i, z, rfl, rfl, hq, he, q⟩ := h
  cases rx
  obtain ⟨t, rfl⟩ := ry
  obtain ⟨its, r, pl, hz⟩ := I.list hq
  obtain ⟨j, h1, h2, h3, h4, h5⟩ := atI_get he
  obtain ⟨w, ew, rw'⟩ := r.get h2
  have hl := r.length
  have hn := line63
  have fin : EP X pins σ Q w s := ⟨z, H, I, rw', q⟩
  by_cases h0 : 0 ≤ i
  · have hj : i.toNat = j := by
      rw [seqIndex_of h0 h5] at h1
      exact Option.some.inj h1
    exact item_listR pl.isList h0 (by omega) (by rw [hj]; simpa using ew) fin hs
  · have hj : (i + (its.toArray.size : Int)).toNat = j := by
      rw [seqIndex_neg (by omega) h4] at h1
      rw [List.size_toArray, ← hl]
      exact Option.some.inj h1
    exact subscriptTail_builtinR (x := w) pl.isList.typeIs slot_list_getitem.lookup
      (wpAny_getItem_list_neg (Q := fun r s' => r = w ∧ EP X pins σ Q r s') pl.isList (by omega) (by rw [List.size_toArray] <;> omega) (by omega) (by rw [hj]; simpa using ew) ⟨rfl, fin⟩) hs
theorem mapSeq_set (its : List Value) (n j : Nat) (u : Value) : Obj.mapSeq (·.setIfInBounds j u) { cls := .type "list", data := .seq its.toArray n } = { cls := .type "list", data := .seq (its.set j u).toArray n } := by
  simp [Obj.mapSeq]
theorem Inv.lst {pins : List (Addr × Obj)} {σ : St} {H : Hp} {s : Shared} {p : Addr} {xs : List V} (I : Inv X pins σ H s) (h : H p = some (.lst xs)) :
    ∃ (its : List Value) (n : Nat), Vals xs its ∧ s.heap.get? p = some { cls := .type "list", data := .seq its.toArray n } ∧ xs.length ≤ sizeLine := by
  obtain ⟨z, its, n, r, e⟩ := I.hok p _ h
  exact ⟨its, n, r, e, z⟩
theorem Inv.lstUpd {pins : List (Addr × Obj)} {σ : St} {H : Hp} {s : Shared} {p : Addr} {xs ys : List V} {its its' : List Value} {n n' : Nat} {f : Obj → Obj} (I : Inv X pins σ H s) (h : H p = some (.lst xs))
    (ho : s.heap.get? p = some { cls := .type "list", data := .seq its.toArray n }) (hf : f { cls := .type "list", data := .seq its.toArray n } = { cls := .type "list", data := .seq its'.toArray n' }) (r : Vals ys its') (hz : ys.length ≤ sizeLine) (t : Nat) :
    Inv X pins σ (upd H p (.lst ys)) { s with heap := s.heap.update p f, toks := t } := by
  have e : (s.heap.update p f).get? p = some { cls := .type "list", data := .seq its'.toArray n' } := by
    rw [Heap.get?_update_self f ho (by rw [hf] <;> rfl), hf]
  refine I.write (x := p) (e := p) (by rw [h]; trivial) (.inl rfl) (fun b u hb q => (Heap.get?_update_other _ _ (Ne.symm hb)).trans q) ⟨_, e⟩ ?_
  exact ⟨hz, its', n', r, e⟩
def rSetL : V → V → V → Hp → (Hp → Prop) → Prop := fun o i v H Q => ∃ p xs k j, o = .ref p ∧ i = .int k ∧ H p = some (.lst xs) ∧ ixN xs.length k = some j ∧ Q (upd H p (.lst (xs.set j v)))
theorem set_list : PSet X rSetL := by
  intro pins s σ H o i v ov iv u Q I ro ri rv h
  obtain ⟨p, xs, k, j, rfl, rfl, hp, hj, q⟩ := h
  cases ro
  obtain ⟨t, rfl⟩ := ri
  obtain ⟨its, n, r, ho, hz⟩ := I.lst hp
  obtain ⟨h1, h2, h3, h4⟩ := ixN_seq hj
  have hl := r.length
  have hn := line63
  have I' : Inv X pins σ (upd H p (.lst (xs.set j v))) { s with heap := s.heap.update p (Obj.mapSeq (·.setIfInBounds j u)) } :=
    I.lstUpd hp ho (mapSeq_set its n j u) (r.set rv j) (by rw [List.length_set]; exact hz) s.toks
  by_cases h0 : 0 ≤ k
  · have hk : k.toNat = j := by
      rw [seqIndex_of h0 h4] at h1
      exact Option.some.inj h1
    exact PySem.W.ki_setAt ho h0 (by omega) (by rw [List.size_toArray, ← hl]; exact h4) (by rw [hk]; exact ⟨_, I', q⟩)
  · have hk : (k + (its.toArray.size : Int)).toNat = j := by
      rw [seqIndex_neg (by omega) h3] at h1
      rw [List.size_toArray, ← hl]
      exact Option.some.inj h1
    exact PySem.W.ki_setBack ho (by omega) (by rw [List.size_toArray, ← hl]; exact h3) (by omega) (by rw [hk]; exact ⟨_, I', q⟩)
theorem slice_bounds (lo hi : Option Int) (n : Nat) : (sliceBounds lo hi none n).1 = ((HT.sIx n 0 lo : Nat) : Int) ∧ (sliceBounds lo hi none n).2.1 = ((HT.sIx n n hi : Nat) : Int) ∧ (sliceBounds lo hi none n).2.2 = 1 := by
  refine ⟨?_, ?_, rfl⟩
  · cases lo with
    | none => simp [sliceBounds, HT.sIx]
    | some i =>
      simp only [sliceBounds, HT.sIx, Option.getD_none, show (1 : Int) > 0 by decide, if_true]
      by_cases h : i < 0
      · simp only [h, if_true] <;> omega
      · simp only [h, if_false] <;> omega
  · cases hi with
    | none => simp [sliceBounds, HT.sIx]
    | some i =>
      simp only [sliceBounds, HT.sIx, Option.getD_none, show (1 : Int) > 0 by decide, if_true]
      by_cases h : i < 0
      · simp only [h, if_true] <;> omega
      · simp only [h, if_false] <;> omega
theorem slicePick_cut (its : List Value) (lo hi : Option Int) : slicePick its.toArray lo hi none = ((its.drop (HT.sIx its.length 0 lo)).take (HT.sIx its.length its.length hi - HT.sIx its.length 0 lo)).toArray := by
  obtain ⟨h1, h2, h3⟩ := slice_bounds lo hi its.toArray.size
  unfold slicePick
  rw [h1, h2, h3]
  simp only [sliceRange_one, pick_run, List.size_toArray] <;> rfl
def rSlL (K : PySem.W.Frag) : V → Option Int → Option Int → Hp → VK → Prop := fun x lo hi H Q => ∃ a xs, x = .ref a ∧ SqL K H a xs ∧ ∀ p, H p = none → Q (.ref p) (upd H p (.lst (cutV xs lo hi)))
theorem sl_list : SlR X (rSlL X.K) := by
  intro pins s σ H x v vl vu lo hi sl Q I rx hs pl pu h
  obtain ⟨a, xs, rfl, hx, q⟩ := h
  cases rx
  obtain ⟨its, r, ht, hz⟩ := I.list hx
  have hlen := r.length
  refine ⟨"list", _, slot_list_getitem.lookup, ht.isList.typeIs, ?_⟩
  refine wpAny_getItem_list_slice ht.isList hs pl pu .none (by simp) ?_ (by rw [List.size_toArray] <;> omega)
  rw [slicePick_cut, ← hlen]
  refine ⟨.ref s.heap.objs.size, _, I.laid (t' := s.toks) (o := .lst (cutV xs lo hi)) (fun b ob q => Heap.get?_push_of_some _ q) (Nat.le_refl _) ?_, rfl, q _ (I.hok.fresh (Nat.le_refl _))⟩
  exact ⟨Nat.le_trans (cutV_length xs lo hi) hz, _, 0, (r.drop (HT.sIx xs.length 0 lo)).take (HT.sIx xs.length xs.length hi - HT.sIx xs.length 0 lo), Heap.get?_push_size _ rfl⟩
def flatV : V → Bool
  | .non => true
  | .bl _ => true
  | .int _ => true
  | .str _ => true
  | _ => false
def eqV : V → V → Bool
  | .non, .non => true
  | .bl a, .bl b => a == b
  | .bl a, .int b => (if a then 1 else 0) == b
  | .int a, .bl b => a == (if b then 1 else 0)
  | .int a, .int b => a == b
  | .str a, .str b => a == b
  | _, _ => false
theorem eqAt_V {A : Around} {s : Shared} {y x : V} {u v : Value} (ry : RelV y u) (rx : RelV x v) (fy : flatV y = true) (fx : flatV x = true) : SeqAt.EqAt A s u v (eqV y x) := by
  cases y with
  | non =>
    cases ry
    cases x with
    | non => cases rx; exact SeqAt.EqAt.same _
    | bl b => cases rx; exact SeqAt.EqAt.none_bool b
    | int b => obtain ⟨t, rfl⟩ := rx; exact SeqAt.EqAt.none_int b t
    | str b => obtain ⟨t, rfl⟩ := rx; exact SeqAt.EqAt.none_str b t
    | _ => exact absurd (show false = true from fx) Bool.false_ne_true
  | bl a =>
    cases ry
    cases x with
    | non => cases rx; exact SeqAt.EqAt.bool_none a
    | bl b => cases rx; exact SeqAt.EqAt.bool_bool a b
    | int b => obtain ⟨t, rfl⟩ := rx; exact SeqAt.EqAt.bool_int a b t
    | str b => obtain ⟨t, rfl⟩ := rx; exact SeqAt.EqAt.bool_str a b t
    | _ => exact absurd (show false = true from fx) Bool.false_ne_true
  | int a =>
    obtain ⟨t', rfl⟩ := ry
    cases x with
    | non => cases rx; exact SeqAt.EqAt.int_none a t'
    | bl b => cases rx; exact SeqAt.EqAt.int_bool a t' b
    | int b => obtain ⟨t, rfl⟩ := rx; exact SeqAt.EqAt.int_int a t' b t
    | str b => obtain ⟨t, rfl⟩ := rx; exact SeqAt.EqAt.int_str a t' b t
    | _ => exact absurd (show false = true from fx) Bool.false_ne_true
  | str a =>
    obtain ⟨t', rfl⟩ := ry
    cases x with
    | non => cases rx; exact SeqAt.EqAt.str_none a t'
    | bl b => cases rx; exact SeqAt.EqAt.str_bool a t' b
    | int b => obtain ⟨t, rfl⟩ := rx; exact SeqAt.EqAt.str_int a t' b t
    | str b => obtain ⟨t, rfl⟩ := rx; exact SeqAt.EqAt.str_str a t' b t
    | _ => exact absurd (show false = true from fx) Bool.false_ne_true
  | _ => exact absurd (show false = true from fy) Bool.false_ne_true
def eqU (x : V) (u : Value) : Bool := match u with
  | .none => eqV .non x
  | .bool b => eqV (.bl b) x
  | .int i _ => eqV (.int i) x
  | .str z _ => eqV (.str z) x
  | _ => false
theorem eqU_of {x y : V} {u : Value} (r : RelV y u) (f : flatV y = true) : eqU x u = eqV y x := by
  cases y with
  | non => cases r; rfl
  | bl b => cases r; rfl
  | int i => obtain ⟨t, rfl⟩ := r; rfl
  | str z => obtain ⟨t, rfl⟩ := r; rfl
  | _ => exact absurd (show false = true from f) Bool.false_ne_true
theorem any_eqU {x : V} : ∀ {xs : List V} {us : List Value}, Vals xs us → xs.all flatV = true → us.any (eqU x) = xs.any fun y => eqV y x
  | _, _, .nil, _ => rfl
  | y :: xs, u :: us, .cons r t, f => by
    rw [List.all_cons, Bool.and_eq_true] at f
    rw [List.any_cons, List.any_cons, eqU_of r f.1, any_eqU t f.2]
theorem mem_eqAt {A : Around} {s : Shared} {x : V} {v : Value} (rx : RelV x v) (fx : flatV x = true) : ∀ {xs : List V} {us : List Value}, Vals xs us → xs.all flatV = true → ∀ u ∈ us, SeqAt.EqAt A s u v (eqU x u)
  | _, _, .nil, _ => fun u hu => by cases hu
  | y :: xs, u :: us, .cons r t, f => fun u' hu => by
    rw [List.all_cons, Bool.and_eq_true] at f
    rcases List.mem_cons.mp hu with rfl | hu
    · rw [eqU_of r f.1]; exact eqAt_V r rx f.1 fx
    · exact mem_eqAt rx fx t f.2 u' hu
def inV (x : V) (xs : List V) : Bool := xs.any fun y => eqV y x
def rIn (K : PySem.W.Frag) (neg : Bool) : R2 := fun x y H Q => ∃ p xs, y = .ref p ∧ (SqL K H p xs ∨ SqT K H p xs) ∧ flatV x = true ∧ xs.all flatV = true ∧ Q (.bl (if neg then !inV x xs else inV x xs)) H
theorem op_in_seq : OpR X (compareOp .In) (rIn X.K false) := by
  intro pins s σ H x y v u Q I rx ry h
  obtain ⟨p, xs, rfl, hq, fx, fs, q⟩ := h
  cases ry
  rcases hq with hq | hq
  · obtain ⟨its, r, pl, hz⟩ := I.list hq
    refine SeqAt.in_listAt (eqU x) pl.isList (fun w hw => mem_eqAt rx fx r fs w (by simpa using hw)) ⟨.bl _, H, I, rfl, ?_⟩
    rw [show its.toArray.any (eqU x) = its.any (eqU x) by simp, any_eqU r fs]
    exact q
  · obtain ⟨its, r, pl, hz⟩ := I.tuple hq
    refine SeqAt.in_tupleAt (eqU x) pl (fun w hw => mem_eqAt rx fx r fs w (by simpa using hw)) ⟨.bl _, H, I, rfl, ?_⟩
    rw [show its.toArray.any (eqU x) = its.any (eqU x) by simp, any_eqU r fs]
    exact q
theorem call_len_seq : CallR X (.builtin "len") (fun xs H Q => ∃ p ys, xs = [.ref p] ∧ (SqL X.K H p ys ∨ SqT X.K H p ys) ∧ Q (.int ys.length) H) := by
  intro pins s σ H xs us Q I r h
  obtain ⟨p, ys, rfl, hq, q⟩ := h
  obtain ⟨u, rfl, rx⟩ := vals1 r
  cases rx
  have hn := line63
  rcases hq with hq | hq
  · obtain ⟨its, r', pl, hz⟩ := I.list hq
    have hlen := r'.length
    exact Calls.call_len_list pl.isList (by simp only [List.size_toArray] <;> omega) ⟨.int ys.length, H, I.tok _, ⟨s.toks + 1, by rw [List.size_toArray, hlen]⟩, q⟩
  · obtain ⟨its, r', pl, hz⟩ := I.tuple hq
    have hlen := r'.length
    exact len_tuple pl (by simp only [List.size_toArray] <;> omega) ⟨.int ys.length, H, I.tok _, ⟨s.toks + 1, by rw [List.size_toArray, hlen]⟩, q⟩
theorem call_len_str : CallR X (.builtin "len") (fun xs H Q => ∃ z, xs = [.str z] ∧ z.length ≤ sizeLine ∧ Q (.int z.length) H) := by
  intro pins s σ H xs us Q I r h
  obtain ⟨z, rfl, hz, q⟩ := h
  obtain ⟨u, rfl, t, rfl⟩ := vals1 r
  have hn := line63
  exact len_str (by omega) ⟨.int z.length, H, I.tok _, ⟨_, rfl⟩, q⟩
def tyV (K : PySem.W.Frag) (T : String) (x : V) (H : Hp) : Prop := match x with
  | .str _ => T = "str"
  | .int _ => T = "int"
  | .ref p => (T = "list" ∧ ∃ xs, SqL K H p xs) ∨ (T = "tuple" ∧ ∃ o, K.lookup p = some o ∧ o.cls = .type "tuple" ∧ o.dict = none) ∨
      (T = "dict" ∧ ((∃ kvs, H p = some (.dK kvs)) ∨ ∃ kvs, H p = some (.dT kvs))) ∨ (T = "set" ∧ ∃ S n, H p = some (.set S n))
  | _ => False
theorem tyV_is {pins : List (Addr × Obj)} {σ : St} {H : Hp} {s : Shared} {T : String} {x : V} {v : Value} (I : Inv X pins σ H s) (r : RelV x v) (ty : tyV X.K T x H) :
    s.TypeIs v T ∧ ∀ a, v = .ref a → ∃ ob, s.heap.get? a = some ob ∧ ob.dict = none := by
  cases x with
  | str z =>
    obtain ⟨t, rfl⟩ := r
    cases (show T = "str" from ty)
    exact ⟨typeIs_str s z t, fun _ e => nomatch e⟩
  | int i =>
    obtain ⟨t, rfl⟩ := r
    cases (show T = "int" from ty)
    exact ⟨typeIs_int s i t, fun _ e => nomatch e⟩
  | ref p =>
    cases r
    rcases ty with ⟨rfl, xs, hq⟩ | ⟨rfl, o, hk, hc, hd⟩ | ⟨rfl, hk⟩ | ⟨rfl, S, n, hk⟩
    · obtain ⟨its, _, pl, _⟩ := I.list hq
      refine ⟨pl.isList.typeIs, fun a e => ?_⟩
      cases e
      obtain ⟨o, n, e, c, hd, _⟩ := pl
      exact ⟨o, e, hd⟩
    · refine ⟨⟨o, I.kIn p o hk, hc⟩, fun a e => ?_⟩
      cases e
      exact ⟨o, I.kIn _ o hk, hd⟩
    · have z : ∃ o, s.heap.get? p = some o ∧ o.ExactDict := by
        rcases hk with ⟨kvs, hk⟩ | ⟨kvs, hk⟩
        · obtain ⟨_, _, _, _, o, _, _, e, ex, _⟩ := I.hok p _ hk
          exact ⟨o, e, ex⟩
        · obtain ⟨_, _, _, _, o, _, _, e, ex, _⟩ := I.hok p _ hk
          exact ⟨o, e, ex⟩
      obtain ⟨o, e, ex⟩ := z
      refine ⟨⟨o, e, ex.1⟩, fun a e2 => ?_⟩
      cases e2
      exact ⟨o, e, ex.2.1⟩
    · obtain ⟨o, _, _, _, e, ex, _⟩ := I.hok p _ hk
      refine ⟨⟨o, e, ex.1⟩, fun a e2 => ?_⟩
      cases e2
      exact ⟨o, e, ex.2.1⟩
  | _ => exact False.elim ty
def tBM0 (K : PySem.W.Frag) (T : String) (r : V → List V → Hp → VK → Prop) (to : TE) : TE := fun σ H Q => to σ H fun x H1 => tyV K T x H1 ∧ r x [] H1 Q
def tBM (K : PySem.W.Frag) (T : String) (r : V → List V → Hp → VK → Prop) (to : TE) (t : TA) : TE := fun σ H Q => to σ H fun x H1 => tyV K T x H1 ∧ t σ H1 fun xs H2 => r x xs H2 Q
variable {o e : Expr} {es : List Expr} {to : TE} {t : TA} {name : Str} {apos cpos : Pos} {T id : String} {r : V → List V → Hp → VK → Prop}
theorem pe_bm (pa : PlainAttrs T) (slot : Slot T name id) (hty : typeOf (.builtin id) = pure (.type "method_descriptor")) (hm : MtR X id r) (ho : PE X o to) (ha : PA X (e :: es) t)
    (hbase : attributeBase o name X.env (eval o X.env) = eval o X.env := by rfl)
    (hfew : ((backTo cpos (starEach (e :: es) X.env)).all (fun x => !x.1) && (backToKw cpos (keywordEach [] X.env)).all (fun x => x.1.isSome)
      && decide ((e :: es).length + ([] : List Keyword).length + (if ([] : List Keyword).isEmpty then 0 else 1) < 30)) = true := by rfl)
    (hline : (apos.endLine == cpos.line) = true := by rfl) (hs : starEach (e :: es) X.env = (false, eval e X.env) :: starEach es X.env := by rfl) (hplain : (backTo cpos (starEach es X.env)).any (·.1) = false := by rfl) :
    PE X (.Call (.Attribute o name apos) (e :: es) [] cpos) (tBM X.K T r to t) := by
  intro pins s σ H Q I h
  refine wpAny_Call_method_late hbase hfew hline rfl (thn (ho pins s σ H _ I h) fun v s1 ⟨x, H1, I1, r1, ty, q1⟩ => ?_)
  obtain ⟨h1, h2⟩ := tyV_is I1 r1 ty
  refine ⟨T, id, pa, slot, hty, h1, h2, ?_⟩
  have hA := ha cpos pins s1 σ H1 _ I1 q1
  rw [hs] at hA ⊢
  refine Calls.callWith_builtin (by show (false || (backTo cpos (starEach es X.env)).any (·.1)) = false; rw [hplain] <;> rfl) (Calls.evalArgs_plain ?_)
  exact thn hA fun us s2 ⟨vs, H2, I2, r2, q2⟩ => hm pins s2 σ H2 x vs v us Q I2 r1 r2 q2
/- xs.append(e), list.index on a module's tuple .. are MtR facts of 06m -/
end
end L2
namespace L2
open PySem PySem.Spec PyProof.Rows
def MtM (X : Cx) (id : String) (r : V → List V → Hp → VK → Prop) : Prop :=
  ∀ (pins : List (Addr × Obj)) (s : Shared) (σ : St) (H : Hp) (x : V) (xs : List V) (v : Value) (us : List Value) (Q : VK), Inv X pins σ H s → RelV x v → Vals xs us → r x xs H Q →
    wpAny (model X.prog X.w) X.A (call (.builtin id) (v :: us)) (EP X pins σ Q) X.xe s
theorem Vals.one : ∀ {x : V} {us : List Value}, Vals [x] us → ∃ u, us = [u] ∧ RelV x u
  | _, _, .cons r .nil => ⟨_, rfl, r⟩
theorem Vals.rep {xs : List V} {us : List Value} (h : Vals xs us) : ∀ k : Nat, Vals (List.replicate k xs).flatten (List.replicate k us).flatten
  | 0 => .nil
  | k + 1 => by
    rw [List.replicate_succ, List.replicate_succ, List.flatten_cons, List.flatten_cons]
    exact Vals.append h (Vals.rep h k)
theorem foldl_rep (its : List Value) : ∀ (k : Nat) (acc : List Value),
    List.foldl (fun x1 x2 => x1 ++ x2) acc.toArray (List.replicate k its.toArray) = (acc ++ (List.replicate k its).flatten).toArray
  | 0, acc => by simp
  | k + 1, acc => by
    have e : acc.toArray ++ its.toArray = (acc ++ its).toArray := by simp
    have e2 : (acc ++ its) ++ (List.replicate k its).flatten = acc ++ (List.replicate (k + 1) its).flatten := by
      rw [List.replicate_succ, List.flatten_cons, List.append_assoc]
    rw [← e2, ← foldl_rep its k (acc ++ its), ← e, List.replicate_succ, List.foldl_cons]
section
variable {X : Cx} {pins : List (Addr × Obj)} {σ : St} {H : Hp} {s : Shared} {l b : Addr} {xs ys zs : List V}
theorem Inv.lset {its its' : List Value} {n : Nat} {f : Array Value → Array Value} {t' : Nat} (I : Inv X pins σ H s) (hH : H l = some (.lst xs))
    (e : s.heap.get? l = some { cls := .type "list", data := .seq its.toArray n }) (hf : f its.toArray = its'.toArray) (hv : Vals ys its') (hz : ys.length ≤ sizeLine) :
    Inv X pins σ (upd H l (.lst ys)) { s with heap := s.heap.update l (Obj.mapSeq f), toks := t' } := by
  have q := PySem.IsL.update e f
  rw [hf] at q
  refine I.write (x := l) (e := l) (by rw [hH]; exact trivial) (.inl rfl) (fun b' u hb hu => (Heap.get?_update_other s.heap (Obj.mapSeq f) (Ne.symm hb)).trans hu) ⟨_, q⟩ ?_
  exact ⟨hz, its', _, hv, q⟩
theorem Inv.lnew {its : List Value} {t' : Nat} (I : Inv X pins σ H s) (hv : Vals ys its) (hz : ys.length ≤ sizeLine) :
    Inv X pins σ (upd H s.heap.objs.size (.lst ys)) { s with heap := s.heap.push { cls := .type "list", data := .seq its.toArray }, toks := t' } :=
  I.laid (fun _ _ q => Heap.get?_push_of_some _ q) (Nat.le_refl _) ⟨hz, its, 0, hv, Heap.get?_push_size _ rfl⟩
theorem Inv.fresh (I : Inv X pins σ H s) : H s.heap.objs.size = none := I.hok.fresh (Nat.le_refl _)
theorem Inv.lstM (I : Inv X pins σ H s) (hH : H l = some (.lst xs)) : xs.length ≤ sizeLine ∧ ∃ (its : List Value) (n : Nat), Vals xs its ∧ xs.length = its.length ∧ s.heap.get? l = some { cls := .type "list", data := .seq its.toArray n } := by
  obtain ⟨z, its, n, r, e⟩ := I.hok l _ hH
  exact ⟨z, its, n, r, r.length, e⟩
theorem notLongL {n : Nat} (h : n ≤ sizeLine) : Builtin.List.listTooLong n = false := by
  unfold Builtin.List.listTooLong
  exact decide_eq_false (by omega)
end
section
variable {X : Cx}
def rAppend : V → List V → Hp → VK → Prop := fun x vs H Q => ∃ l xs y, x = .ref l ∧ vs = [y] ∧ H l = some (.lst xs) ∧ xs.length < sizeLine ∧ Q .non (upd H l (.lst (xs ++ [y])))
theorem mt_append : MtM X "list.append" rAppend := by
  intro pins s σ H x vs v us Q I rx rv h
  obtain ⟨l, xs, y, rfl, rfl, hH, hz, q⟩ := h
  cases rx
  obtain ⟨u, rfl, ru⟩ := rv.one
  obtain ⟨z, its, n, r, hl, e⟩ := I.lstM hH
  refine call_meets F.slot_list_append ⟨_, e, rfl⟩ F.entry_list_append (F.args_list_append_2 _ _) (PySem.list_append l its.toArray n u (by rw [List.size_toArray]; omega)) ⟨e, ?_⟩
  refine ⟨.non, _, I.lset (its' := its ++ [u]) hH e (by simp) (r.append (.cons ru .nil)) ?_, rfl, q⟩
  rw [List.length_append, List.length_singleton]
  omega
def rExtend : V → List V → Hp → VK → Prop := fun x vs H Q => ∃ l b xs zs, x = .ref l ∧ vs = [.ref b] ∧ H l = some (.lst xs) ∧ H b = some (.lst zs) ∧ xs.length + zs.length ≤ sizeLine ∧ Q .non (upd H l (.lst (xs ++ zs)))
theorem mt_extend : MtM X "list.extend" rExtend := by
  intro pins s σ H x vs v us Q I rx rv h
  obtain ⟨l, b, xs, zs, rfl, rfl, hH, hB, hz, q⟩ := h
  cases rx
  obtain ⟨u, rfl, ru⟩ := rv.one
  cases ru
  obtain ⟨z, its, n, r, hl, e⟩ := I.lstM hH
  obtain ⟨z2, its2, n2, r2, hl2, e2⟩ := I.lstM hB
  have hsz : its.toArray.size + its2.toArray.size ≤ sizeLine := by rw [List.size_toArray, List.size_toArray]; omega
  have hlong : ¬ (!its.toArray.isEmpty && Builtin.List.listTooLong (its.toArray.size + its2.toArray.size)) = true := by
    rw [notLongL hsz, Bool.and_false]
    exact Bool.false_ne_true
  refine call_meets F.slot_list_extend ⟨_, e, rfl⟩ F.entry_list_extend (F.args_list_extend_2 _ _)
    (AutoSeq1.list_extend_list_list_0 l its.toArray n b its2.toArray n2 hlong (by rw [List.size_toArray]; omega) (by omega)) ⟨e, e2, ?_⟩
  refine ⟨.non, _, I.lset (its' := its ++ its2) hH e (by simp) (r.append r2) ?_, rfl, q⟩
  rw [List.length_append]
  omega
def rClear : V → List V → Hp → VK → Prop := fun x vs H Q => ∃ l xs, x = .ref l ∧ vs = [] ∧ H l = some (.lst xs) ∧ Q .non (upd H l (.lst []))
def rCat : R2 := fun x y H Q => ∃ l b xs zs, x = .ref l ∧ y = .ref b ∧ H l = some (.lst xs) ∧ H b = some (.lst zs) ∧ xs.length + zs.length ≤ sizeLine ∧ ∀ p, H p = none → Q (.ref p) (upd H p (.lst (xs ++ zs)))
def rRep : R2 := fun x y H Q => ∃ l k xs, x = .ref l ∧ y = .int k ∧ H l = some (.lst xs) ∧ -(2 ^ 63) ≤ k ∧ k < 2 ^ 63 ∧ xs.length * k.toNat ≤ sizeLine ∧
  ∀ p, H p = none → Q (.ref p) (upd H p (.lst (List.replicate k.toNat xs).flatten))
theorem len_rep {α : Type} (xs : List α) (k : Nat) : (List.replicate k xs).flatten.length = k * xs.length := by
  induction k with
  | zero => simp
  | succ k ih => rw [List.replicate_succ, List.flatten_cons, List.length_append, ih, Nat.succ_mul, Nat.add_comm]
theorem op_rep : OpR X (binaryOp .Mult) rRep := by
  intro pins s σ H x y v u Q I rx ry h
  obtain ⟨l, k, xs, rfl, rfl, hH, h1, h2, hz, q⟩ := h
  cases rx
  obtain ⟨t, rfl⟩ := ry
  obtain ⟨z, its, n, r, hl, e⟩ := I.lstM hH
  have hlen : its.toArray.size * k.toNat ≤ sizeLine := by rw [List.size_toArray, ← hl]; exact hz
  have hcap : ¬ its.toArray.size * k.toNat > (2 ^ 63 - 1) / 8 := by
    have : (sizeLine : Nat) ≤ (2 ^ 63 - 1) / 8 := by decide
    omega
  have hfit : ¬ (!Builtin.List.listFitsIndex k) = true := by
    rw [fitsIndex_both h1 h2]
    exact Bool.false_ne_true
  have hlong : ¬ Builtin.List.listTooLong (its.toArray.size * k.toNat) = true := by
    rw [notLongL hlen]
    exact Bool.false_ne_true
  have hnew : List.foldl (fun x1 x2 => x1 ++ x2) #[] (List.replicate (if its.toArray.isEmpty = true then 0 else k.toNat) its.toArray) = (List.replicate k.toNat its).flatten.toArray := by
    have f0 : ∀ m : Nat, List.foldl (fun x1 x2 => x1 ++ x2) #[] (List.replicate m its.toArray) = (List.replicate m its).flatten.toArray := fun m => by
      have := foldl_rep its m []
      rw [List.nil_append] at this
      exact this
    rw [f0]
    cases its with
    | nil => simp
    | cons a r' => rw [if_neg (by simp)]
  refine wpAny_binaryOp_repeat_ref (T := "list") (U := "int") (by decide) ⟨_, e, rfl⟩ (fun s' => typeIs_int s' k t) noFill_list_mul F.fills_int_mul F.slot_int_rmul repeat_list F.slot_int_index.lookup
    (call_meets F.slot_int_rmul (typeIs_int s k t) F.entry_int_rmul (F.args_int_rmul_2 _ _) (int___rmul___int_list k t l its.toArray n)
      ⟨e, rfl, ⟨_, e, rfl⟩, call_meets F.slot_list_mul ⟨_, e, rfl⟩ F.entry_list_mul (F.args_list_mul_2 _ _) (AutoListH.list___mul___list_int_3 l its.toArray n k t hfit hcap hlong) ⟨e, ?_⟩⟩)
  rw [hnew]
  exact ⟨.ref _, _, I.lnew (t' := s.toks) (r.rep k.toNat) (by rw [len_rep, Nat.mul_comm]; exact hz), rfl, q _ I.fresh⟩
end
section
variable {prog : Program} {w : World} {A : Around} {E : Value → Shared → Prop} {s : Shared}
set_option maxRecDepth 100000 in
end
section
variable {X : Cx}
end
end L2
namespace Att
open PySem PySem.W PySem.Calls PyProof.Rows
theorem ints_of_wellAll {P : Params} {h : Heap} : ∀ (ns : List Int) (vs : List Value), WellAll P h vs (ns.map WData.int) → IntsAre vs ns := by
  intro ns
  induction ns with
  | nil =>
    intro vs w
    rw [List.map_nil] at w
    cases w
    exact .nil
  | cons n ns ih =>
    intro vs w
    rw [List.map_cons] at w
    cases w with
    | cons a b =>
      cases a
      exact .cons _ _ (ih _ b)
theorem script_of {l : OpenLaw} {n : Nat} (hn : l.most = some n) {P : Params} {h : Heap} {args : List WData} {vals : List Value}
    (hpre : l.row.toRowW.claim.pre args = true) (hwl : WellAll P h vals args) :
    ∃ a vs ns, vals = [Value.ref a] ∧ args = [WData.list (ns.map WData.int)] ∧ h.get? a = some { cls := .type "list", data := .seq vs.toArray } ∧ IntsAre vs ns ∧ ns.length ≤ n := by
  have hsh : WShape.hasAll [] args [.list .int] = true := (pre_splitW hpre).1
  have hc : l.pre.holds [] { args := args } = true := (pre_splitW hpre).2
  obtain ⟨d, r, rfl, h1, h2⟩ := hasAllW_cons hsh
  obtain rfl := hasAllW_nil h2
  obtain ⟨xs, rfl, h3⟩ := hasW_list h1
  obtain ⟨ns, rfl⟩ := items_int h3
  have hlen : ns.length ≤ n := by
    unfold OpenLaw.pre at hc
    have h4 : (WTm.not (.lt (.lit (.int (n : Int))) (.len (.arg 0)))).holds [] { args := [.list (ns.map .int)] } = true := by
      have h4 := (holds_andW hc).1
      rw [hn] at h4
      exact h4
    have h5 := condW_of h4 (w_not (w_lt w_lit (w_len_list (w_arg rfl))))
    rw [List.length_map] at h5
    refine Nat.le_of_not_lt fun q => ?_
    have q' : (n : Int) < ((ns.length : Nat) : Int) := by omega
    first
      | (rw [decide_eq_true q'] at h5; exact absurd h5 (by decide))
      | (simp at h5; omega)
  cases hwl with
  | cons w1 w2 =>
    cases w2
    cases w1 with
    | list ho hall => exact ⟨_, _, ns, rfl, rfl, ho, ints_of_wellAll ns _ hall, hlen⟩
theorem post_true (l : OpenLaw) (args : List WData) : l.row.toRowW.claim.post args (.bool true) args = true :=
  postW_of (r := l.row.toRowW) (X := (true == true))
    (show WShape.has [] (.bool true) .bool = true by first | rfl | decide | simp [WShape.has, WShape.arms, WShape.armsAll])
    (show (WTm.eq .res (.lit (.bool true))).value [] { args := args, res := some (.bool true), after := args } = some (.bool (true == true)) from w_eq_bool (w_res rfl) w_lit) rfl
theorem attach_call {l : OpenLaw} {n : Nat} {q : Program} {loose : List Str} {XP : (Str → Option Value) → Heap → Prop} {YP : World → Heap → Prop} {d : DefRec}
    (hn : l.most = some n) (hdf : d.params.defaults = [])
    (call : ∀ (w : World) (s₀ s₁ : Shared) (mg mb : Str → Option Value) (fa : Addr) (o : Obj) (pm cd doc : Value) (a : Addr) (vs : List Value) (ns : List Int),
      Ground q loose [] XP w s₀ mg mb s₁.heap → YP w s₁.heap →
      s₁.heap.get? fa = some o → o.data = .func (docDef d.name d.params d.body d.scope pm cd doc) → s₁.heap.CodeRec cd d.name → mg d.name = some (.ref fa) →
      s₁.heap.get? a = some { cls := .type "list", data := .seq vs.toArray } → IntsAre vs ns → ns.length ≤ n → s₁.gens = #[] →
      codeAny (model l.prog w) callerA (.call (.ref fa) ⟨[.ref a], []⟩) (fun r s' => r = .ok (.ret (.bool true)) ∧ OldK s₁.heap s'.heap ∧ s'.os = s₁.os ∧ AllBare s'.gens) s₁) :
    WalkO q loose XP YP l.row.toRowW d [] (fun f vs => PySem.call f vs) := by
  intro w s₀ s₁ mg mb G Y fa o pm cd doc dV kV ho hd hcd hD hmg hg args vals as hpre hlay hrd hwl hlo
  obtain rfl : dV = .none := Dflts.none hD hdf
  obtain rfl : kV = .none := Dflts.noKw hD
  obtain ⟨a, vs, ns, rfl, rfl, hobj, hints, hlen⟩ := script_of hn hpre hwl
  refine enter_call (codeAny_mono (call w s₀ s₁ mg mb fa o pm cd doc a vs ns G Y ho (fd_plain hd) hcd hmg hobj hints hlen hg) fun r s' hq => ?_)
  obtain ⟨rfl, h2, h3, h4⟩ := hq
  exact ⟨.inl ⟨.bool true, .bool true, [], rfl, fun _ => rfl, .bool true, post_true l _, fun _ => ⟨List.Pairwise.nil, fun _ hm => (nomatch hm)⟩⟩, h2, h3, h4⟩
section
variable {prog : Program} {w : World} {A : Around} {E : Value → Shared → Prop} {s : Shared} {K : Frag}
end
end Att
namespace L2
open PySem PySem.Spec PyProof.Rows
theorem vals_ints : ∀ {vs : List Value} {ns : List Int}, IntsAre vs ns → Vals (ns.map V.int) vs
  | _, _, .nil => .nil
  | _, _, .cons n t h => .cons ⟨t, rfl⟩ (vals_ints h)
def Only (H : Hp) : Prop := ∀ b, H b = none ∨ ∃ o xs, H b = some (.frz o (.lst xs))
theorem law_call {P : Program} {w : World} {K : PySem.W.Frag} {mg mb : Str → Option Value} {CX : CXT} {k : Nat} {fa a : Addr} {fd : FuncData} {x : Str} {sp : Sp} {s₁ : Shared} {vs : List Value} {ns : List Int}
    (KX : K.In s₁.heap) (hns : s₁.heap.Ns mainGlobals mg) (hb : s₁.heap.Ns builtinsNs mb) (hbb : ∀ x : Str, x ≠ "__name__" → mb x = bootBuiltins x) (hlim : s₁.heap.NoLimit) (hg : s₁.gens = #[])
    (ha : s₁.heap.get? a = some { cls := .type "list", data := .seq vs.toArray }) (hi : IntsAre vs ns) (hl : ns.length ≤ sizeLine) (hr : Room k callerA)
    (F : ∀ base : Heap, K.In base → base.Ns mainGlobals mg → FnOk P w K mg base CX k fa fd [x] sp) (hbind : ∀ (s : Shared) (u : Value), BindsTo s fd ⟨[u], []⟩ [(x, u)])
    (hsp : ∀ H : Hp, Only H → SqL K H a (ns.map V.int) → sp [.ref a] H (fun v _ => v = .bl true) fun _ _ _ => False)
    (hCX : ∀ H e s', CX [] H s₁ (fun _ _ _ => False) e s' → False) :
    codeAny (model P w) callerA (.call (.ref fa) ⟨[.ref a], []⟩) (fun r s' => r = .ok (.ret (.bool true)) ∧ OldK s₁.heap s'.heap ∧ s'.os = s₁.os ∧ AllBare s'.gens) s₁ := by
  have rv := vals_ints hi
  have lenV := hi.length
  have core : ∀ H : Hp, Only H → SqL K H a (ns.map V.int) → HOk P w H s₁.heap → (∀ b, H b ≠ none → b = a) → (H a ≠ none → K.lookup a = none) →
      codeAny (model P w) callerA (.call (.ref fa) ⟨[.ref a], []⟩) (fun r s' => r = .ok (.ret (.bool true)) ∧ OldK s₁.heap s'.heap ∧ s'.os = s₁.os ∧ AllBare s'.gens) s₁ := by
    intro H hO hS hok hA hK
    have base_of : ∀ {b : Addr} {o : Obj}, s₁.heap.get? b = some o → H b = none → (hidT s₁.heap H).get? b = some o := fun e n => hidT_get e n
    have noA : ∀ {b : Addr} {o : Obj} {es : Array DictEntry} {ep : Nat}, s₁.heap.get? b = some o → o.data = .dict es ep → H b = none := fun {b o es ep} e d => by
      cases q : H b with
      | none => rfl
      | some u =>
        have e' : b = a := hA b (by rw [q]; simp)
        subst e'
        rw [ha] at e; cases e
        have d' : Data.seq vs.toArray _ = Data.dict es ep := d
        cases d'
    have nsK : ∀ {b : Addr} {m : Str → Option Value}, s₁.heap.Ns b m → (hidT s₁.heap H).Ns b m := fun {b m} ⟨o, es, ep, e, d, r⟩ => ⟨o, es, ep, base_of e (noA e d), d, r⟩
    have hKb : K.In (hidT s₁.heap H) := fun b o e => base_of (KX b o e) (by
      cases q : H b with
      | none => rfl
      | some u =>
        have e' : b = a := hA b (by rw [q]; simp)
        subst e'
        rw [hK (by rw [q]; simp)] at e; cases e)
    have hM : Mod K mg (hidT s₁.heap H) := ⟨hKb, nsK hns, ⟨mb, nsK hb, hbb⟩, let ⟨mc, h1, h2⟩ := hlim; ⟨mc, nsK h1, h2⟩⟩
    have e0 : Env0 P w K mg (hidT s₁.heap H) callerA [] s₁ H := ⟨rfl, hM, fun b o e => of_hidT e, Nat.le_of_eq (hidT_size _ _), trivial, fun b hb => absurd (show b ∈ ([] : List Addr) from hb) (by simp), hok, .of_eq hg⟩
    refine codeAny_mono ((F _ hKb (nsK hns)).run callerA [] s₁ H ⟨[.ref a], []⟩ [.ref a] [.ref a] _ _ hr e0 (hbind s₁ (.ref a)) (.cons rfl .nil) (hsp H hO hS)) fun r s' h => ?_
    cases r with
    | error e => exact (hCX H e s' h).elim
    | ok fl =>
      cases fl with
      | next => exact False.elim h
      | brk => exact False.elim h
      | cont => exact False.elim h
      | ret u =>
        obtain ⟨v, H', os, bare, un, hok', r', q⟩ := h
        have q' : v = .bl true := q
        subst q'
        obtain rfl : u = Value.bool true := r'
        refine ⟨rfl, OldK.of_keep fun b o e => ?_, os, bare⟩
        cases q : H b with
        | none => exact un.keep b o e q (by intro z; exact absurd (show b ∈ ([] : List Addr) from z) (by simp)) (by simp)
        | some u =>
          rcases hO b with z | ⟨ob, xs, z⟩
          · rw [q] at z; cases z
          · have z2 := un.frzs b ob _ z
            obtain ⟨e1, _⟩ := hok b _ z
            obtain ⟨e2, _⟩ := hok' b _ z2
            rw [e] at e1; cases e1
            exact e2
  cases hk : K.lookup a with
  | some o =>
    have e := KX a o hk
    rw [ha] at e
    cases e
    refine core (fun _ => none) (fun _ => .inl rfl) (.inr ⟨_, vs.toArray, _, hk, rfl, rfl, rfl, by rw [List.size_toArray, lenV]; exact hl, by simpa using rv⟩) (fun b u z => by have z' : (none : Option HO) = some u := z; cases z') (fun b z => absurd rfl z) fun z => absurd rfl z
  | none =>
    refine core (fun b => if b = a then some (.frz { cls := .type "list", data := .seq vs.toArray } (.lst (ns.map V.int))) else none) (fun b => ?_) (.inl (.inr ⟨{ cls := .type "list", data := .seq vs.toArray }, if_pos rfl⟩)) (fun b u z => ?_) (fun b z => ?_) fun _ => hk
    · by_cases hb : b = a
      · exact .inr ⟨_, _, if_pos hb⟩
      · exact .inl (if_neg hb)
    · by_cases hb : b = a
      · have z' := (if_pos hb).symm.trans z
        cases z'
        subst hb
        exact ⟨ha, by rw [List.length_map]; exact hl, vs, _, rv, ha⟩
      · have z' := (if_neg hb).symm.trans z
        cases z'
    · by_cases hb : b = a
      · exact hb
      · exact absurd (if_neg hb) z
end L2
namespace L2
open PySem PySem.Spec PyProof.Rows
abbrev KOf {K : PySem.W.Frag} {h : Heap} (_ : K.In h) : PySem.W.Frag := K
theorem walk_of {l : PySem.W.OpenLaw} {n k : Nat} {q : Program} {loose : List Str} {XP : (Str → Option Value) → Heap → Prop} {YP : World → Heap → Prop} {d : DefRec} {K : Params → PySem.W.Frag} {CX : World → CXT} {sp : World → Sp} {x : Str}
    (hn : l.most = some n) (hn2 : n ≤ sizeLine) (hdf : d.params.defaults = []) (hr : Room k callerA)
    (hY : ∀ (w : World) (h : Heap), YP w h → (K w.params).In h)
    (F : ∀ (w : World) (mg : Str → Option Value) (fa : Addr) (h : Heap), (K w.params).In h → h.Ns mainGlobals mg → mg d.name = some (.ref fa) →
      ∃ fd : FuncData, (∀ (s : Shared) (u : Value), BindsTo s fd ⟨[u], []⟩ [(x, u)]) ∧
        ∀ base : Heap, (K w.params).In base → base.Ns mainGlobals mg → FnOk l.prog w (K w.params) mg base (CX w) k fa fd [x] (sp w))
    (hsp : ∀ (w : World) (H : Hp) (a : Addr) (ns : List Int), ns.length ≤ n → Only H → SqL (K w.params) H a (ns.map V.int) → sp w [.ref a] H (fun v _ => v = .bl true) fun _ _ _ => False)
    (hCX : ∀ (w : World) (H : Hp) (s : Shared) (e : Value) (s' : Shared), CX w [] H s (fun _ _ _ => False) e s' → False) :
    PySem.W.WalkO q loose XP YP l.row.toRowW d [] (fun f vs => PySem.call f vs) := by
  refine Att.attach_call hn hdf fun w s₀ s₁ mg mb fa o pm cd doc a vs ns G Y ho hd hcd hmg hobj hints hlen hg => ?_
  have KX := hY w _ Y
  obtain ⟨fd, hb, hF⟩ := F w mg fa _ KX G.T.g hmg
  exact law_call KX G.T.g G.T.b G.T.builtins G.T.nolimit hg hobj hints (Nat.le_trans hlen hn2) hr hF hb (fun H hO hS => hsp w H a ns hlen hO hS) fun H e s' => hCX w H s₁ e s'
end L2
/- THE LAST THEOREM (shape; LID, My.* are yours):
   My.Adr: a structure of the addresses that your layer names (classes, functions); My.Txt K t: a structure (Prop) of the equations over K;
   My.txt_mk : {K} {implicit addresses ..} (e1 : nsIn K mainGlobals "law" = some (some (.ref f))) (e2 : K.lookup f = some ⟨oc, od, .func (fnOf "law" "law" params body scope dV kV doc pm an cdv ct), sl⟩) (e3 : codeIn K cdv "law" = true) .. : ∃ t, My.Txt K t
set_option maxRecDepth 100000 in
set_option maxHeartbeats 0 in
theorem PySem.Challenge.cw_LID_holds : PySem.Challenge.rw_LID.Holds := by
  w_on; o_law; k_head; (case hw => w_witness2)
  k_fill
  refine L2.walk_of (l := PySem.Challenge.rw_LID) (n := 63) (k := 40) (x := "script") (CX := fun w => ..) (sp := fun _ => My.sp_law) rfl (by decide) rfl ⟨rfl, by decide, by decide⟩ (fun w h Y => PySem.W.kIn_of Y) ?F ?S ?C
  case F =>
    intro w mg fa h KX G hmg
    have T : ∃ t, My.Txt (L2.KOf KX) t := by
      dsimp only [L2.KOf]                          -- K must stand as «<heap const> w.params» for k_is
      refine' My.txt_mk ?e1 ?e2 ?e3 ..
      (case e1 => PySem.W.k_is)                    -- in the order: a name -> its address -> its object -> its parts
      (case e2 => PySem.W.k_is)
      ..
    obtain ⟨t, T⟩ := T
    have e0 := hmg.symm.trans (PySem.W.mg_of KX G T.law)
    cases e0                                       -- fa is the law's own address
    exact ⟨_, fun s u => .of_eq rfl, fun base kb nb => My.law_fn T kb nb⟩     -- if «.of_eq rfl» comes too early: refine' ⟨_, ?b, fun base kb nb => My.law_fn T kb nb⟩; exact fun s u => .of_eq rfl
  case S => exact fun w H a ns hl hO hS => ..
  case C => exact ..
(the tactic k_is has no namespace: write k_is) -/
namespace L2
open PySem PySem.Spec PyProof.Rows
def defArgs (s : Stmt) : Arguments := match s with
  | .FunctionDef _ a _ _ _ _ _ _ _ _ => a
  | _ => { posonlyargs := [], args := [], vararg := none, kwonlyargs := [], kw_defaults := [], kwarg := none, defaults := [] }
def defBody (s : Stmt) : List Stmt := match s with
  | .FunctionDef _ _ b _ _ _ _ _ _ _ => b
  | _ => []
def defScope (s : Stmt) : Scope := match s with
  | .FunctionDef _ _ _ _ _ _ sc _ _ _ => sc
  | _ => { kind := .function, names := [], isGenerator := false, isCoroutine := false }
abbrev CX0 : CXT := fun _ _ _ _ _ _ => False
abbrev E0 : XK := fun _ _ _ => False
theorem pass0 {X : Cx} : Passes CX0 X E0 := fun _ _ _ _ _ _ _ h => h.elim
structure Fun (K : PySem.W.Frag) (x qual : Str) (st : Stmt) (f : Addr) (fd : FuncData) : Prop where
  ex : ∃ (oc : Value) (od : Option Addr) (kV doc pm : Value) (an : Option Addr) (cdv ct : Value) (osl : Array (Option Value)),
    fd = PySem.W.fnOf x qual (defArgs st) (defBody st) (defScope st) .none kV doc pm an cdv ct ∧ K.lookup f = some ⟨oc, od, .func fd, osl⟩ ∧ PySem.W.codeIn K cdv qual = true
  kp : PySem.W.keepIn K (.ref f) = true
section
variable {P : Program} {w : World} {K : PySem.W.Frag} {mg : Str → Option Value} {base : Heap}
theorem Fun.ok {x qual : Str} {st : Stmt} {f : Addr} {fd : FuncData} {N ps : List Str} {k : Nat} {sp : Sp} (F : Fun K x qual st f fd) (S : FnScope N ps (defScope st)) (len : ∀ vs H Q E, sp vs H Q E → vs.length = ps.length)
    (hbody : ∀ (cdv : Value) (A : Around) (outer : List Env) (s : Shared) (H : Hp) (vs : List V) (Q : VK) (E : XK), Room k (A.deeper (envOfC qual (defScope st) s.heap.objs.size f cdv)) → sp vs H Q E →
      ∃ t, PSs (cxOf CX0 P w K mg base N qual (defScope st) f cdv A outer s H E).nox (defBody st) t ∧ t { nx := fun _ H' => Q .non H', rt := Q } (start N vs) H) : FnOk P w K mg base CX0 (k + 1) f fd ps sp := by
  obtain ⟨oc, od, kV, doc, pm, an, cdv, ct, osl, rfl, lk, hcd⟩ := F.ex
  refine fn_of lk hcd S len fun A outer s H vs Q E hr hsp => ?_
  obtain ⟨t, h, q⟩ := hbody cdv A outer s H vs Q E hr hsp
  exact ⟨t, h.nox, q⟩
theorem Fun.binds {x qual : Str} {st : Stmt} {f : Addr} {fd : FuncData} {ps : List Str} (F : Fun K x qual st f fd)
    (h : ∀ (kV doc pm : Value) (an : Option Addr) (cdv ct : Value) (us : List Value), us.length = ps.length → bindArgs (PySem.W.fnOf x qual (defArgs st) (defBody st) (defScope st) .none kV doc pm an cdv ct) ⟨us, []⟩ = pure (ps.zip us)) : Binds K fd ps [] := by
  obtain ⟨oc, od, kV, doc, pm, an, cdv, ct, osl, rfl, lk, hcd⟩ := F.ex
  exact .all (h kV doc pm an cdv ct)
theorem fun_mk {x qual : Str} {st : Stmt} {f : Addr} {oc : Value} {od an : Option Addr} {osl : Array (Option Value)} {kV doc pm cdv ct : Value} (l : K.lookup f = some ⟨oc, od, .func (PySem.W.fnOf x qual (defArgs st) (defBody st) (defScope st) .none kV doc pm an cdv ct), osl⟩)
    (c : PySem.W.codeIn K cdv qual = true) (k : PySem.W.keepIn K (.ref f) = true) : Fun K x qual st f (PySem.W.fnOf x qual (defArgs st) (defBody st) (defScope st) .none kV doc pm an cdv ct) := ⟨⟨oc, od, kV, doc, pm, an, cdv, ct, osl, rfl, l, c⟩, k⟩
end
section
variable {X : Cx}
theorem pv (i : Nat) {x : Str} {pos : Pos} (hN : X.N[i]? = some x := by rfl) (hv : Vis X.env.scope x := by first | exact Or.inl rfl | exact Or.inr (Or.inl rfl) | exact Or.inr (Or.inr rfl)) (hd : (x == ("__debug__" : Str)) = false := by decide)
    (hcd : (x == ("__classdict__" : Str)) = false := by decide) : PE X (.Name x pos) (tVar i) := pe_var hN hv hd hcd
end
theorem ite2 {c A B : Prop} [Decidable c] (h1 : c → A) (h2 : ¬ c → B) : if c then A else B := by
  by_cases h : c
  · rw [if_pos h]
    exact h1 h
  · rw [if_neg h]
    exact h2 h
def Same (H H' : Hp) : Prop := ∀ b o, H b = some o → H' b = some o
theorem Same.refl (H : Hp) : Same H H := fun _ _ h => h
theorem Same.trans {H H1 H2 : Hp} (a : Same H H1) (b : Same H1 H2) : Same H H2 := fun c o h => b c o (a c o h)
theorem Same.free {H H' : Hp} (e : Same H H') {l : Addr} (h : H' l = Option.none) : H l = Option.none := by
  cases q : H l with
  | none => rfl
  | some o =>
    rw [e l o q] at h
    cases h
theorem Same.seq {K : PySem.W.Frag} {H H' : Hp} {a : Addr} {xs : List V} (e : Same H H') (h : SqL K H a xs) : SqL K H' a xs := by
  rcases h with (h | ⟨o, h⟩) | h
  · exact .inl (.inl (e _ _ h))
  · exact .inl (.inr ⟨o, e _ _ h⟩)
  · exact .inr h
end L2
namespace L2
open PySem PySem.Spec PyProof.Rows
section
variable {κ : Type} [DecidableEq κ]
end
end L2
set_option autoImplicit false
namespace Dr
theorem pow_pos {p : Int} (h : 2 ≤ p) : ∀ n : Nat, 0 < p ^ n
  | 0 => by simp
  | n + 1 => by
    rw [Int.pow_succ]
    exact Int.mul_pos (pow_pos h n) (by omega)
theorem pow_add' (p : Int) (m : Nat) : ∀ n : Nat, p ^ (m + n) = p ^ m * p ^ n
  | 0 => by simp
  | n + 1 => by rw [← Nat.add_assoc, Int.pow_succ, pow_add' p m n, Int.pow_succ, Int.mul_assoc]
structure Fac (p x : Int) (d : Nat) (u : Int) : Prop where
  eq : x = u * p ^ d
  un : u % p ≠ 0
theorem Fac.ne {p x u : Int} {d : Nat} (hp : 2 ≤ p) (f : Fac p x d u) : x ≠ 0 := by
  intro z
  have h := f.eq
  rw [z] at h
  have h2 := pow_pos hp d
  rcases Int.mul_eq_zero.mp h.symm with q | q
  · exact f.un (by rw [q]; simp)
  · omega
theorem fac_ex {p : Int} (hp : 2 ≤ p) : ∀ (n : Nat) (x : Int), x.natAbs ≤ n → x ≠ 0 → ∃ d u, Fac p x d u
  | 0, x, h, h0 => by omega
  | n + 1, x, h, h0 => by
    by_cases c : x % p = 0
    · have e : x = p * (x / p) := by have := Int.mul_ediv_add_emod x p; omega
      have q0 : x / p ≠ 0 := by intro z; rw [z] at e; simp at e; exact h0 e
      have q1 : (x / p).natAbs ≤ n := by
        have e2 : x.natAbs = p.natAbs * (x / p).natAbs := by rw [← Int.natAbs_mul, ← e]
        have p2 : 2 ≤ p.natAbs := by omega
        have l : 2 * (x / p).natAbs ≤ p.natAbs * (x / p).natAbs := Nat.mul_le_mul_right _ p2
        have l0 : (x / p).natAbs ≠ 0 := by omega
        omega
      obtain ⟨d, u, f⟩ := fac_ex hp n (x / p) q1 q0
      refine ⟨d + 1, u, ?_, f.un⟩
      have e3 := f.eq
      calc x = p * (x / p) := e
        _ = p * (u * p ^ d) := by rw [← e3]
        _ = u * p ^ (d + 1) := by rw [Int.pow_succ, Int.mul_comm p, Int.mul_assoc]
    · exact ⟨0, x, by simp, c⟩
theorem fac {p x : Int} (hp : 2 ≤ p) (h : x ≠ 0) : ∃ d u, Fac p x d u := fac_ex hp _ x (Nat.le_refl _) h
theorem fac_le {p u v : Int} {d e : Nat} (hp : 2 ≤ p) (h : u * p ^ d = v * p ^ e) (hu : u % p ≠ 0) : e ≤ d := by
  refine Nat.le_of_not_lt fun c => ?_
  obtain ⟨k, rfl⟩ : ∃ k, e = d + (k + 1) := ⟨e - d - 1, by omega⟩
  have h0 := pow_pos hp d
  have e1 : u = v * p ^ (k + 1) := by
    refine Int.eq_of_mul_eq_mul_right (Int.ne_of_gt h0) ?_
    rw [h, pow_add', Int.mul_assoc, Int.mul_comm (p ^ d)]
  rw [e1, Int.pow_succ, ← Int.mul_assoc, Int.mul_emod_left] at hu
  exact hu rfl
theorem Fac.uniq {p x u v : Int} {d e : Nat} (hp : 2 ≤ p) (f : Fac p x d u) (g : Fac p x e v) : d = e ∧ u = v := by
  have h : u * p ^ d = v * p ^ e := by rw [← f.eq, g.eq]
  have a := fac_le hp h f.un
  have b := fac_le hp h.symm g.un
  have c : d = e := Nat.le_antisymm b a
  subst c
  exact ⟨rfl, Int.eq_of_mul_eq_mul_right (Int.ne_of_gt (pow_pos hp d)) h⟩
theorem Fac.dvd {p x u : Int} {d : Nat} (hp : 2 ≤ p) (f : Fac p x d u) (k : Nat) : x % p ^ k = 0 ↔ k ≤ d := by
  constructor
  · intro h
    have e : x = x / p ^ k * p ^ k := by have := Int.mul_ediv_add_emod x (p ^ k); rw [Int.mul_comm]; omega
    exact fac_le hp (f.eq.symm.trans e) f.un
  · intro h
    obtain ⟨j, rfl⟩ : ∃ j, d = j + k := ⟨d - k, by omega⟩
    rw [f.eq, pow_add', ← Int.mul_assoc, Int.mul_emod_left]
theorem dvd_of_le {p x : Int} {j k : Nat} (h : x % p ^ k = 0) (hj : j ≤ k) : x % p ^ j = 0 := by
  obtain ⟨i, rfl⟩ : ∃ i, k = j + i := ⟨k - j, by omega⟩
  rw [pow_add'] at h
  exact Int.emod_eq_zero_of_dvd (Int.dvd_trans (Int.dvd_mul_right _ _) (Int.dvd_of_emod_eq_zero h))
def primes : List Int := [2, 3, 5, 7, 11, 13, 17, 19, 23, 29, 31, 37, 41, 43, 47, 53, 59, 61, 67, 71, 73, 79, 83, 89, 97]
theorem primes_ge {p : Int} (h : p ∈ primes) : 2 ≤ p ∧ p ≤ 97 :=
  of_decide_eq_true (List.all_eq_true.mp (show (primes.all fun q => decide (2 ≤ q ∧ q ≤ 97)) = true by decide +kernel) p h)
def invs (p : Nat) : Bool := (List.range p).all fun r => r == 0 || (List.range p).any fun y => r * y % p == 1
theorem invs_all : (primes.map Int.toNat).all invs = true := by decide +kernel
theorem inv_ex {p x : Int} (hp : p ∈ primes) (hx : x % p ≠ 0) : ∃ y : Int, 1 ≤ y ∧ y < p ∧ x * y % p = 1 := by
  have g := primes_ge hp
  have h := List.all_eq_true.mp invs_all p.toNat (List.mem_map.mpr ⟨p, hp, rfl⟩)
  have r0 := Int.emod_nonneg x (show p ≠ 0 by omega)
  have r1 := Int.emod_lt_of_pos x (show 0 < p by omega)
  have h2 := List.all_eq_true.mp h (x % p).toNat (List.mem_range.mpr (by omega))
  have z : ((x % p).toNat == 0) = false := by
    rw [beq_eq_false_iff_ne]; omega
  rw [z, Bool.false_or] at h2
  obtain ⟨y, hy, e⟩ := List.any_eq_true.mp h2
  have e' : (x % p).toNat * y % p.toNat = 1 := by simpa using e
  have hy' := List.mem_range.mp hy
  refine ⟨(y : Int), ?_, by omega, ?_⟩
  · rcases Nat.eq_zero_or_pos y with q | q
    · subst q; simp at e'
    · omega
  · rw [Int.mul_emod, Int.emod_eq_of_lt (Int.natCast_nonneg y) (show (y : Int) < p by omega)]
    have e3 := congrArg (fun n : Nat => (n : Int)) e'
    simp only [Int.natCast_emod, Int.natCast_mul] at e3
    rw [Int.toNat_of_nonneg r0, Int.toNat_of_nonneg (by omega)] at e3
    exact e3
theorem euclid {p a b : Int} (hp : p ∈ primes) (h : a * b % p = 0) (ha : a % p ≠ 0) : b % p = 0 := by
  obtain ⟨y, _, _, e⟩ := inv_ex hp ha
  have g := primes_ge hp
  have h1 : (y * (a * b)) % p = 0 := by rw [Int.mul_emod, h]; simp
  have h2 : (y * (a * b)) % p = (a * y) * b % p := by
    congr 1
    rw [← Int.mul_assoc, Int.mul_comm y a]
  rw [h2, Int.mul_emod, e, Int.one_mul, Int.emod_emod] at h1
  exact h1
theorem Fac.mul {p x y u v : Int} {d e : Nat} (hp : p ∈ primes) (f : Fac p x d u) (g : Fac p y e v) : Fac p (x * y) (d + e) (u * v) := by
  refine ⟨?_, fun h => g.un (euclid hp h f.un)⟩
  rw [f.eq, g.eq, pow_add']
  simp only [Int.mul_assoc, Int.mul_left_comm]
end Dr
namespace Dr
theorem pow_dv {p : Int} {m n : Nat} (h : m ≤ n) : p ^ n % p ^ m = 0 := by
  obtain ⟨k, rfl⟩ : ∃ k, n = k + m := ⟨n - m, by omega⟩
  rw [pow_add', Int.mul_emod_left]
end Dr
namespace Dr
structure InvE (p x y : Int) (e : Nat) : Prop where
  lo : 0 ≤ y
  hi : y < p ^ e
  one : (x * y - 1) % p ^ e = 0
theorem dvd_sub_of {m a b : Int} (h : a % m = 0) (h' : b % m = 0) : (a - b) % m = 0 := by rw [Int.sub_emod, h, h']; simp
theorem dvd_add_of {m a b : Int} (h : a % m = 0) (h' : b % m = 0) : (a + b) % m = 0 := by rw [Int.add_emod, h, h']; simp
theorem dvd_mul_l {m a : Int} (b : Int) (h : a % m = 0) : (b * a) % m = 0 := by rw [Int.mul_emod, h]; simp
theorem dvd_mul_r {m a : Int} (b : Int) (h : a % m = 0) : (a * b) % m = 0 := by rw [Int.mul_emod, h]; simp
theorem rest_sub (m a : Int) : (a % m - a) % m = 0 := by
  rw [Int.sub_emod, Int.emod_emod]
  simp
theorem inv_step {p x y : Int} {e r : Nat} (h : (x * y - 1) % p ^ (min r e) = 0) : (x * (y * (2 - x * y) % p ^ e) - 1) % p ^ (min (r * 2) e) = 0 := by
  have k1 : (y * (2 - x * y) % p ^ e - y * (2 - x * y)) % p ^ e = 0 := rest_sub _ _
  have k2 : (x * (y * (2 - x * y) % p ^ e) - x * (y * (2 - x * y))) % p ^ (min (r * 2) e) = 0 := by
    rw [← Int.mul_sub]
    exact dvd_mul_l _ (dvd_of_le k1 (Nat.min_le_right ..))
  have k3 : x * (y * (2 - x * y)) - 1 = -((x * y - 1) * (x * y - 1)) := by
    have e1 : x * (y * (2 - x * y)) = 2 * (x * y) - (x * y) * (x * y) := by
      rw [← Int.mul_assoc, Int.mul_sub, Int.mul_comm (x * y) 2]
    have e2 : (x * y - 1) * (x * y - 1) = (x * y) * (x * y) - 2 * (x * y) + 1 := by
      rw [Int.sub_mul, Int.mul_sub]
      omega
    rw [e1, e2]
    omega
  have k4 : (x * (y * (2 - x * y)) - 1) % p ^ (min (r * 2) e) = 0 := by
    rw [k3]
    refine Int.emod_eq_zero_of_dvd (Int.dvd_neg.mpr ?_)
    obtain ⟨q, hq⟩ := Int.dvd_of_emod_eq_zero h
    have : p ^ (min r e) * p ^ (min r e) ∣ (x * y - 1) * (x * y - 1) := by
      refine ⟨q * q, ?_⟩
      conv => lhs; rw [hq]
      simp only [Int.mul_assoc, Int.mul_left_comm]
    refine Int.dvd_trans ?_ this
    rw [← pow_add']
    exact Int.dvd_of_emod_eq_zero (pow_dv (by omega))
  have : x * (y * (2 - x * y) % p ^ e) - 1 = (x * (y * (2 - x * y) % p ^ e) - x * (y * (2 - x * y))) + (x * (y * (2 - x * y)) - 1) := by omega
  rw [this]
  exact dvd_add_of k2 k4
theorem InvE.zero (p x : Int) : InvE p x 0 0 := ⟨by decide, by simp, by simp [Int.emod_one]⟩
end Dr
namespace Dr
end Dr
namespace Dr
def IsP (n : Int) : Prop := 2 ≤ n ∧ ∀ d : Int, 2 ≤ d → d * d ≤ n → n % d ≠ 0
def vpF : Nat → Nat → Nat → Nat
  | 0, _, _ => 0
  | f + 1, q, n => if n % q = 0 then vpF f q (n / q) + 1 else 0
def nprimes : List Nat := [2, 3, 5, 7, 11, 13, 17, 19, 23, 29, 31, 37, 41, 43, 47, 53, 59, 61, 67, 71, 73, 79, 83, 89, 97]
def outOf (n r q : Nat) : Nat := if n % q = 0 then r / q ^ vpF 10 q n else r
def left (n : Nat) : Nat := nprimes.foldl (outOf n) n
theorem Fac.pow_le {p x u : Int} {d : Nat} (hp : 2 ≤ p) (f : Fac p x d u) : (p ^ d).natAbs ≤ x.natAbs := by
  have hu : u ≠ 0 := fun z => f.un (by rw [z]; simp)
  have : x.natAbs = u.natAbs * (p ^ d).natAbs := by rw [f.eq, Int.natAbs_mul]
  have h1 : 1 * (p ^ d).natAbs ≤ u.natAbs * (p ^ d).natAbs := Nat.mul_le_mul_right _ (by omega)
  omega
theorem two_pow_le {p : Int} (hp : 2 ≤ p) : ∀ d : Nat, 2 ^ d ≤ (p ^ d).natAbs
  | 0 => by simp
  | d + 1 => by
    rw [Int.pow_succ, Int.natAbs_mul, Nat.pow_succ]
    exact Nat.mul_le_mul (two_pow_le hp d) (by omega)
theorem Fac.depth_lt {p x u : Int} {d n : Nat} (hp : 2 ≤ p) (f : Fac p x d u) (h : x.natAbs < 2 ^ n) : d < n :=
  (Nat.pow_lt_pow_iff_right (by decide : 1 < 2)).mp (Nat.lt_of_le_of_lt (Nat.le_trans (two_pow_le hp d) (f.pow_le hp)) h)
theorem Fac.div {p x u : Int} {d : Nat} (hp : 2 ≤ p) (f : Fac p x d u) : x / p ^ d = u := by
  have h0 := pow_pos hp d
  conv => lhs; rw [f.eq]
  exact Int.mul_ediv_cancel _ (by omega)
end Dr
namespace Dr
def pev : List Int → Int → Int
  | [], _ => 0
  | a :: f, x => a + x * pev f x
def pdv : List Int → Int → Int
  | [], _ => 0
  | _ :: f, x => pev f x + x * pdv f x
def dm : Int → List Int → List Int
  | _, [] => []
  | k, a :: f => k * a :: dm (k + 1) f
def pslope : List Int → List Int
  | [] => []
  | [_] => [0]
  | _ :: f => dm 1 f
theorem pev_dm (x : Int) : ∀ (f : List Int) (k : Int), pev (dm k f) x = k * pev f x + x * pdv f x
  | [], k => by simp [pev, dm, pdv]
  | a :: f, k => by
    simp only [pev, dm, pdv, pev_dm x f (k + 1)]
    grind
theorem pev_slope {f : List Int} (h : 0 < f.length) (x : Int) : pev (pslope f) x = pdv f x := by
  match f, h with
  | [a], _ => simp [pslope, pev, pdv]
  | a :: b :: f, _ =>
    show pev (dm 1 (b :: f)) x = pdv (a :: b :: f) x
    rw [pev_dm]
    simp only [pdv]
    grind
theorem dm_length : ∀ (f : List Int) (k : Int), (dm k f).length = f.length
  | [], _ => rfl
  | _ :: f, k => by simp [dm, dm_length f (k + 1)]
theorem dm_get : ∀ (f : List Int) (k : Int) (i : Nat) (c : Int), f[i]? = some c → (dm k f)[i]? = some ((k + i) * c)
  | a :: f, k, 0, c, h => by
    have : a = c := by simpa using h
    subst this
    simp [dm]
  | a :: f, k, i + 1, c, h => by
    have := dm_get f (k + 1) i c (by simpa using h)
    simp only [dm, List.getElem?_cons_succ, this]
    congr 2
    omega
theorem pev_append (f g : List Int) (x : Int) : pev (f ++ g) x = pev f x + x ^ f.length * pev g x := by
  induction f with
  | nil => simp [pev]
  | cons a f ih =>
    simp only [List.cons_append, pev, ih, List.length_cons]
    grind
theorem pev_zeros (n : Nat) (x : Int) : pev (List.replicate n 0) x = 0 := by
  induction n with
  | zero => rfl
  | succ n ih => simp [List.replicate_succ, pev, ih]
theorem pev_set (x d : Int) : ∀ (f : List Int) (k : Nat) (c : Int), f[k]? = some c → pev (f.set k (c + d)) x = pev f x + d * x ^ k
  | a :: f, 0, c, h => by
    have : a = c := by simpa using h
    subst this
    simp only [List.set_cons_zero, pev, Int.pow_zero]
    omega
  | a :: f, k + 1, c, h => by
    simp only [List.set_cons_succ, pev, pev_set x d f k c (by simpa using h)]
    grind
theorem pev_take_succ {f : List Int} {i : Nat} {c : Int} (h : f[i]? = some c) (x : Int) : pev (f.take (i + 1)) x = pev (f.take i) x + c * x ^ i := by
  have hi := (List.getElem?_eq_some_iff.mp h).1
  rw [List.take_add_one, h, pev_append, List.length_take, Nat.min_eq_left (Nat.le_of_lt hi)]
  simp only [Option.toList, pev]
  grind
theorem drop_rev {f : List Int} {i : Nat} {c : Int} (h : f.reverse[i]? = some c) : f.drop (f.length - (i + 1)) = c :: f.drop (f.length - i) := by
  have hi : i < f.length := by
    have := (List.getElem?_eq_some_iff.mp h).1
    simpa using this
  rw [List.getElem?_reverse hi] at h
  have h2 : f.length - (i + 1) < f.length := by omega
  rw [List.drop_eq_getElem_cons h2]
  have e1 : f.length - (i + 1) + 1 = f.length - i := by omega
  have e2 : f[f.length - (i + 1)] = c := by
    have h3 : f.length - 1 - i = f.length - (i + 1) := by omega
    rw [h3, List.getElem?_eq_getElem h2] at h
    exact Option.some.inj h
  rw [e1, e2]
theorem pev_rev {f : List Int} {i : Nat} {c : Int} (h : f.reverse[i]? = some c) (x : Int) : pev (f.drop (f.length - (i + 1))) x = pev (f.drop (f.length - i)) x * x + c := by
  rw [drop_rev h]
  simp only [pev]
  grind
def Sm (n : Int) (k : Nat) : Prop := n.natAbs < 2 ^ k
theorem Sm.mono {n : Int} {k l : Nat} (h : Sm n k) (hl : k ≤ l) : Sm n l := Nat.lt_of_lt_of_le h (Nat.pow_le_pow_right (by decide) hl)
theorem Sm.zero (k : Nat) : Sm 0 k := Nat.pow_pos (by decide)
theorem Sm.add {a b : Int} {k l : Nat} (ha : Sm a k) (hb : Sm b l) : Sm (a + b) (max k l + 1) := by
  have h1 := ha.mono (Nat.le_max_left k l)
  have h2 := hb.mono (Nat.le_max_right k l)
  unfold Sm at *
  rw [Nat.pow_succ]
  omega
theorem Sm.mul {a b : Int} {k l : Nat} (ha : Sm a k) (hb : Sm b l) : Sm (a * b) (k + l) := by
  unfold Sm at *
  rw [Int.natAbs_mul, Nat.pow_add]
  exact Nat.mul_lt_mul_of_lt_of_lt ha hb
def PolyB (f : List Int) (m : Nat) : Prop := ∀ c, c ∈ f → Sm c m
theorem Sm.pev {m n : Nat} {x : Int} (hx : Sm x n) : ∀ {f : List Int}, PolyB f m → Sm (pev f x) (m + f.length * (n + 1))
  | [], _ => Sm.zero _
  | a :: f, hf => by
    have h1 := Sm.pev hx (f := f) fun c hc => hf c (List.mem_cons_of_mem _ hc)
    have h2 := (hf a (List.mem_cons_self ..)).add (hx.mul h1)
    refine h2.mono ?_
    rw [List.length_cons, Nat.succ_mul]
    omega
theorem PolyB.drop {f : List Int} {m : Nat} (h : PolyB f m) (k : Nat) : PolyB (f.drop k) m := fun c hc => h c (List.mem_of_mem_drop hc)
theorem pev_inj_from : ∀ (f g : List Int) (N : Int), f.length = g.length → (∀ x, N ≤ x → pev f x = pev g x) → f = g
  | [], [], _, _, _ => rfl
  | a :: f, b :: g, N, hl, h => by
    have hab : a = b := by
      let D : Int := ((a - b).natAbs : Int) + 1 + (N.natAbs : Int)
      have hD : N ≤ D := by omega
      have e := h D hD
      simp only [pev] at e
      have e2 : a - b = D * (pev g D - pev f D) := by grind
      refine Decidable.byContradiction fun hne => ?_
      have hz : pev g D - pev f D ≠ 0 := fun z => by
        rw [z] at e2
        simp at e2
        omega
      have h3 : (a - b).natAbs = D.natAbs * (pev g D - pev f D).natAbs := by rw [← Int.natAbs_mul, ← e2]
      have h4 : D.natAbs * 1 ≤ D.natAbs * (pev g D - pev f D).natAbs := Nat.mul_le_mul_left _ (by omega)
      omega
    subst hab
    congr 1
    refine pev_inj_from f g (max N 1) (by simpa using hl) fun x hx => ?_
    have e := h x (by omega)
    simp only [pev] at e
    have e2 : x * pev f x = x * pev g x := by omega
    exact Int.eq_of_mul_eq_mul_left (by omega) e2
  | [], _ :: _, _, hl, _ => by simp at hl
  | _ :: _, [], _, hl, _ => by simp at hl
theorem pev_inj {f g : List Int} (hl : f.length = g.length) (h : ∀ x, pev f x = pev g x) : f = g := pev_inj_from f g 0 hl fun x _ => h x
theorem taylor (x h : Int) : ∀ f : List Int, ∃ R, pev f (x + h) = pev f x + h * pdv f x + h * h * R
  | [] => ⟨0, by simp [pev, pdv]⟩
  | a :: f => by
    obtain ⟨R, e⟩ := taylor x h f
    refine ⟨pdv f x + x * R + h * R, ?_⟩
    simp only [pev, pdv, e]
    grind
theorem all_divide {T : Int} (h : ∀ n : Int, 0 < n → ∃ S, T = n * S) : T = 0 := by
  obtain ⟨S, e⟩ := h ((T.natAbs : Int) + 1) (by omega)
  refine Decidable.byContradiction fun hne => ?_
  have hS : S ≠ 0 := fun z => by
    rw [z] at e
    simp at e
    exact hne e
  have h3 : T.natAbs = ((T.natAbs : Int) + 1).natAbs * S.natAbs := by rw [← Int.natAbs_mul, ← e]
  have h4 : ((T.natAbs : Int) + 1).natAbs * 1 ≤ ((T.natAbs : Int) + 1).natAbs * S.natAbs := Nat.mul_le_mul_left _ (by omega)
  omega
theorem pdv_mul {r f g : List Int} (h : ∀ x, pev r x = pev f x * pev g x) (x : Int) : pdv r x = pdv f x * pev g x + pev f x * pdv g x := by
  have := all_divide (T := pdv r x - (pdv f x * pev g x + pev f x * pdv g x)) fun n hn => by
    obtain ⟨R, e⟩ := taylor x n r
    obtain ⟨F, ef⟩ := taylor x n f
    obtain ⟨G, eg⟩ := taylor x n g
    rw [h, h, ef, eg] at e
    refine ⟨pev f x * G + pdv f x * pdv g x + n * pdv f x * G + F * pev g x + n * F * pdv g x + n * n * F * G - R, ?_⟩
    refine Int.eq_of_mul_eq_mul_left (show n ≠ 0 by omega) ?_
    grind
  omega
theorem pdv_seen {s f : List Int} {a q : Int} (h : ∀ y, pev s y = pev f (a + q * y)) (y : Int) : pdv s y = q * pdv f (a + q * y) := by
  have := all_divide (T := pdv s y - q * pdv f (a + q * y)) fun n hn => by
    obtain ⟨R, e⟩ := taylor y n s
    obtain ⟨F, ef⟩ := taylor (a + q * y) (q * n) f
    rw [h, h, show a + q * (y + n) = a + q * y + q * n by grind, ef] at e
    refine ⟨q * q * F - R, ?_⟩
    refine Int.eq_of_mul_eq_mul_left (show n ≠ 0 by omega) ?_
    grind
  omega
def IsDeg (f : List Int) (d : Int) : Prop := (d = -1 ∧ ∀ c, c ∈ f → c = 0) ∨ ∃ (k : Nat) (c : Int), d = (k : Int) ∧ f[k]? = some c ∧ c ≠ 0 ∧ ∀ (j : Nat) (b : Int), k < j → f[j]? = some b → b = 0
theorem IsDeg.nil : IsDeg [] (-1) := .inl ⟨rfl, fun _ h => nomatch h⟩
theorem IsDeg.snoc {f : List Int} {d x : Int} (h : IsDeg f d) : IsDeg (f ++ [x]) (if x ≠ 0 then (f.length : Int) else d) := by
  by_cases hx : x = 0
  · rw [if_neg (by simp [hx])]
    rcases h with ⟨rfl, h⟩ | ⟨k, c, rfl, e, hc, h⟩
    · exact .inl ⟨rfl, fun c hc => by rcases List.mem_append.mp hc with z | z; exact h c z; rw [List.mem_singleton.mp z, hx]⟩
    · have hk := (List.getElem?_eq_some_iff.mp e).1
      refine .inr ⟨k, c, rfl, by rw [List.getElem?_append_left hk]; exact e, hc, fun j b hj e' => ?_⟩
      by_cases hl : j < f.length
      · rw [List.getElem?_append_left hl] at e'
        exact h j b hj e'
      · rw [List.getElem?_append_right (by omega)] at e'
        by_cases hz : j - f.length = 0
        · rw [hz] at e'
          simp at e'
          rw [← e', hx]
        · rw [List.getElem?_eq_none (by simp; omega)] at e'
          cases e'
  · rw [if_pos hx]
    refine .inr ⟨f.length, x, rfl, by rw [List.getElem?_append_right (Nat.le_refl _)]; simp, hx, fun j b hj e' => ?_⟩
    rw [List.getElem?_eq_none (by simp; omega)] at e'
    cases e'
theorem IsDeg.take_succ {f : List Int} {i : Nat} {x d : Int} (hx : f[i]? = some x) (h : IsDeg (f.take i) d) : IsDeg (f.take (i + 1)) (if x ≠ 0 then (i : Int) else d) := by
  have hi := (List.getElem?_eq_some_iff.mp hx).1
  have := h.snoc (x := x)
  rw [List.length_take, Nat.min_eq_left (Nat.le_of_lt hi)] at this
  rw [List.take_add_one, hx]
  exact this
end Dr
namespace Dr
structure IsProd (f g r : List Int) : Prop where
  len : r.length + 1 = f.length + g.length
  ev : ∀ x, pev r x = pev f x * pev g x
theorem IsProd.uniq {f g r r' : List Int} (h : IsProd f g r) (h' : IsProd f g r') : r = r' := pev_inj (by have := h.len; have := h'.len; omega) fun x => by rw [h.ev, h'.ev]
def padd : List Int → List Int → List Int
  | [], g => g
  | f, [] => f
  | a :: f, b :: g => (a + b) :: padd f g
theorem padd_ev (x : Int) : ∀ f g : List Int, pev (padd f g) x = pev f x + pev g x
  | [], g => by simp [padd, pev]
  | a :: f, [] => by simp [padd, pev]
  | a :: f, b :: g => by
    simp only [padd, pev, padd_ev x f g]
    grind
theorem padd_len : ∀ f g : List Int, (padd f g).length = max f.length g.length
  | [], g => by simp [padd]
  | a :: f, [] => by simp [padd]
  | a :: f, b :: g => by
    simp only [padd, List.length_cons, padd_len f g]
    omega
theorem pev_map (k x : Int) : ∀ f : List Int, pev (f.map (k * ·)) x = k * pev f x
  | [] => by simp [pev]
  | a :: f => by
    simp only [List.map_cons, pev, pev_map k x f]
    grind
def pmul : List Int → List Int → List Int
  | [], _ => []
  | a :: f, g => padd (g.map (a * ·)) (match f with | [] => [] | _ => 0 :: pmul f g)
theorem pmul_ev (x : Int) (g : List Int) : ∀ f : List Int, pev (pmul f g) x = pev f x * pev g x
  | [] => by simp [pmul, pev]
  | [a] => by
    simp only [pmul, padd_ev, pev_map, pev]
    grind
  | a :: b :: f => by
    simp only [pmul, padd_ev, pev_map]
    have := pmul_ev x g (b :: f)
    simp only [pmul, padd_ev, pev_map] at this
    simp only [pev, padd_ev, pev_map] at this ⊢
    grind
theorem pmul_len (g : List Int) (hg : 0 < g.length) : ∀ f : List Int, 0 < f.length → (pmul f g).length + 1 = f.length + g.length
  | [a], _ => by
    simp only [pmul, padd_len, List.length_map, List.length_nil, List.length_cons]
    omega
  | a :: b :: f, _ => by
    have := pmul_len g hg (b :: f) (by simp)
    simp only [pmul, padd_len, List.length_map, List.length_cons] at this ⊢
    omega
theorem pmul_prod {f g : List Int} (hf : 0 < f.length) (hg : 0 < g.length) : IsProd f g (pmul f g) := ⟨pmul_len g hg f hf, fun x => pmul_ev x g f⟩
def psubk (k : Int) : List Int → List Int → List Int
  | [], g => g.map (-k * ·)
  | f, [] => f
  | a :: f, b :: g => (a - k * b) :: psubk k f g
theorem psubk_ev (k x : Int) : ∀ f g : List Int, pev (psubk k f g) x = pev f x - k * pev g x
  | [], g => by
    simp only [psubk, pev_map, pev]
    grind
  | a :: f, [] => by simp [psubk, pev]
  | a :: f, b :: g => by
    simp only [psubk, pev, psubk_ev k x f g]
    grind
theorem psubk_dv {p k : Int} (hk : k % p = 0) : ∀ f g : List Int, (∀ c, c ∈ f → c % p = 0) → ∀ c, c ∈ psubk k f g → c % p = 0
  | [], g, _, c, hc => by
    simp only [psubk, List.mem_map] at hc
    obtain ⟨b, _, rfl⟩ := hc
    exact Int.emod_eq_zero_of_dvd (Int.dvd_mul_of_dvd_left (Int.dvd_neg.mpr (Int.dvd_of_emod_eq_zero hk)))
  | a :: f, [], h, c, hc => h c hc
  | a :: f, b :: g, h, c, hc => by
    simp only [psubk, List.mem_cons] at hc
    rcases hc with rfl | hc
    · rw [Int.sub_emod, h a (List.mem_cons_self ..), Int.mul_emod, hk]
      simp
    · exact psubk_dv hk f g (fun c hc => h c (List.mem_cons_of_mem _ hc)) c hc
theorem gauss_n {p : Int} (hp : p ∈ primes) : ∀ (n : Nat) (f g r : List Int), f.length + g.length ≤ n → (∀ x, 1 ≤ x → pev r x = pev f x * pev g x) → (∀ c, c ∈ r → c % p = 0) → (∀ c, c ∈ f → c % p = 0) ∨ (∀ c, c ∈ g → c % p = 0) := by
  intro n
  induction n with
  | zero =>
    intro f g r hn h hd
    cases f with
    | nil => exact .inl fun _ h => nomatch h
    | cons a f => simp at hn
  | succ n ih =>
    intro f g r hn h hd
    have p2 := primes_ge hp
    cases f with
    | nil => exact .inl fun _ h => nomatch h
    | cons a f =>
    cases g with
    | nil => exact .inr fun _ h => nomatch h
    | cons b g =>
    obtain ⟨c, s, hc, hs, ev⟩ : ∃ (c : Int) (s : List Int), c % p = 0 ∧ (∀ e, e ∈ s → e % p = 0) ∧ ∀ x, pev r x = c + x * pev s x := by
      cases r with
      | nil => exact ⟨0, [], by simp, (fun _ h => nomatch h), fun x => by simp [pev]⟩
      | cons c s => exact ⟨c, s, hd c (List.mem_cons_self ..), fun e he => hd e (List.mem_cons_of_mem _ he), fun x => rfl⟩
    have hab : c = a * b := by
      have := all_divide (T := c - a * b) fun x hx => by
        have e := h x (by omega)
        rw [ev] at e
        simp only [pev] at e
        exact ⟨a * pev g x + b * pev f x + x * pev f x * pev g x - pev s x, by grind⟩
      omega
    by_cases ha : a % p = 0
    · -- x f' g is r less a g
      have e1 : ∀ x, 1 ≤ x → pev (psubk a s g) x = pev f x * pev (b :: g) x := fun x hx => by
        have e := h x hx
        rw [ev] at e
        rw [psubk_ev]
        simp only [pev] at e ⊢
        refine Int.eq_of_mul_eq_mul_left (show x ≠ 0 by omega) ?_
        grind
      rcases ih f (b :: g) (psubk a s g) (by simp only [List.length_cons] at hn ⊢; omega) e1 (psubk_dv ha s g hs) with z | z
      · exact .inl fun c hc => by
          rcases List.mem_cons.mp hc with rfl | hc
          · exact ha
          · exact z c hc
      · exact .inr z
    · have hb : b % p = 0 := euclid hp (by rw [← hab]; exact hc) ha
      have e1 : ∀ x, 1 ≤ x → pev (psubk b s f) x = pev (a :: f) x * pev g x := fun x hx => by
        have e := h x hx
        rw [ev] at e
        rw [psubk_ev]
        simp only [pev] at e ⊢
        refine Int.eq_of_mul_eq_mul_left (show x ≠ 0 by omega) ?_
        grind
      rcases ih (a :: f) g (psubk b s f) (by simp only [List.length_cons] at hn ⊢; omega) e1 (psubk_dv hb s f hs) with z | z
      · exact .inl z
      · exact .inr fun c hc => by
          rcases List.mem_cons.mp hc with rfl | hc
          · exact hb
          · exact z c hc
structure IsCont (p : Int) (f : List Int) (c : Nat) : Prop where
  all : ∀ x, x ∈ f → x % p ^ c = 0
  one : ∃ x, x ∈ f ∧ x / p ^ c % p ≠ 0
theorem IsCont.le {p : Int} {f : List Int} {c c' : Nat} (hp : 2 ≤ p) (h : IsCont p f c) (h' : ∀ x, x ∈ f → x % p ^ c' = 0) : c' ≤ c := by
  refine Decidable.byContradiction fun hlt => ?_
  obtain ⟨x, hx, n⟩ := h.one
  have h1 : x % p ^ (c + 1) = 0 := dvd_of_le (h' x hx) (by omega)
  obtain ⟨y, e⟩ := Int.dvd_of_emod_eq_zero h1
  apply n
  have hp0 := pow_pos hp c
  rw [e, Int.pow_succ, Int.mul_assoc, Int.mul_ediv_cancel_left _ (by omega)]
  simp
theorem IsCont.uniq {p : Int} {f : List Int} {c c' : Nat} (hp : 2 ≤ p) (h : IsCont p f c) (h' : IsCont p f c') : c = c' := by
  have h1 := h.le hp h'.all
  have h2 := h'.le hp h.all
  omega
def pdiv (q : Int) (f : List Int) : List Int := f.map (· / q)
theorem pdiv_back {q : Int} : ∀ {f : List Int}, (∀ x, x ∈ f → x % q = 0) → f = (pdiv q f).map (q * ·)
  | [], _ => rfl
  | a :: l, hl => by
    have ih := pdiv_back (f := l) fun x hx => hl x (List.mem_cons_of_mem _ hx)
    unfold pdiv at ih ⊢
    rw [List.map_cons, List.map_cons, ← ih]
    congr 1
    have e := Int.mul_ediv_add_emod a q
    rw [hl a (List.mem_cons_self ..)] at e
    omega
theorem pdiv_ev {q : Int} {f : List Int} (h : ∀ x, x ∈ f → x % q = 0) (x : Int) : pev f x = q * pev (pdiv q f) x := by
  conv => lhs; rw [pdiv_back h]
  rw [pev_map]
theorem pdiv_len (q : Int) (f : List Int) : (pdiv q f).length = f.length := by simp [pdiv]
theorem IsCont.mul {p : Int} {f g r : List Int} {c d : Nat} (hp : p ∈ primes) (hf : IsCont p f c) (hg : IsCont p g d) (hr : IsProd f g r) : IsCont p r (c + d) := by
  have p2 := primes_ge hp
  have f0 : 0 < f.length := by obtain ⟨x, hx, _⟩ := hf.one; exact List.length_pos_of_mem hx
  have g0 : 0 < g.length := by obtain ⟨x, hx, _⟩ := hg.one; exact List.length_pos_of_mem hx
  have P := pmul_prod (f := pdiv (p ^ c) f) (g := pdiv (p ^ d) g) (by rw [pdiv_len]; exact f0) (by rw [pdiv_len]; exact g0)
  have er : r = (pmul (pdiv (p ^ c) f) (pdiv (p ^ d) g)).map (p ^ (c + d) * ·) := by
    refine pev_inj ?_ fun x => ?_
    · have h1 := hr.len
      have h2 := P.len
      rw [pdiv_len, pdiv_len] at h2
      rw [List.length_map]
      omega
    · rw [pev_map, P.ev, hr.ev, pdiv_ev hf.all, pdiv_ev hg.all, pow_add']
      grind
  have q0 := pow_pos (p := p) (by omega) (c + d)
  refine ⟨fun x hx => ?_, ?_⟩
  · rw [er, List.mem_map] at hx
    obtain ⟨y, _, rfl⟩ := hx
    simp
  · refine Decidable.byContradiction fun hno => ?_
    have all : ∀ y, y ∈ pmul (pdiv (p ^ c) f) (pdiv (p ^ d) g) → y % p = 0 := fun y hy => by
      refine Decidable.byContradiction fun hy0 => hno ⟨p ^ (c + d) * y, ?_, ?_⟩
      · rw [er]
        exact List.mem_map_of_mem hy
      · rw [Int.mul_ediv_cancel_left _ (by omega)]
        exact hy0
    rcases gauss_n hp _ _ _ _ (Nat.le_refl _) (fun x _ => P.ev x) all with z | z
    · obtain ⟨x, hx, n⟩ := hf.one
      exact n (z _ (List.mem_map_of_mem hx))
    · obtain ⟨x, hx, n⟩ := hg.one
      exact n (z _ (List.mem_map_of_mem hx))
structure IsSeen (f : List Int) (a q : Int) (s : List Int) : Prop where
  len : s.length = f.length
  ev : ∀ y, pev s y = pev f (a + q * y)
theorem IsSeen.uniq {f s s' : List Int} {a q : Int} (h : IsSeen f a q s) (h' : IsSeen f a q s') : s = s' := pev_inj (h.len.trans h'.len.symm) fun x => by rw [h.ev, h'.ev]
theorem pslope_len {f : List Int} (h : 0 < f.length) : (pslope f).length = max 1 (f.length - 1) := by
  match f, h with
  | [a], _ => rfl
  | a :: b :: f, _ =>
    show (dm 1 (b :: f)).length = _
    rw [dm_length]
    simp only [List.length_cons]
    omega
end Dr
namespace Dr
theorem pev_sub (x y : Int) : ∀ f : List Int, ∃ R, pev f x - pev f y = (x - y) * R
  | [] => ⟨0, by simp [pev]⟩
  | a :: f => by
    obtain ⟨R, e⟩ := pev_sub x y f
    refine ⟨pev f x + y * R, ?_⟩
    simp only [pev]
    grind
theorem pdv_sub (x y : Int) : ∀ f : List Int, ∃ R, pdv f x - pdv f y = (x - y) * R
  | [] => ⟨0, by simp [pdv]⟩
  | a :: f => by
    obtain ⟨R, e⟩ := pdv_sub x y f
    obtain ⟨S, e'⟩ := pev_sub x y f
    refine ⟨S + pdv f x + y * R, ?_⟩
    simp only [pdv]
    grind
theorem pev_cong {x y m : Int} (f : List Int) (h : (x - y) % m = 0) : (pev f x - pev f y) % m = 0 := by
  obtain ⟨R, e⟩ := pev_sub x y f
  rw [e]
  exact dvd_mul_r R h
theorem pdv_cong {x y m : Int} (f : List Int) (h : (x - y) % m = 0) : (pdv f x - pdv f y) % m = 0 := by
  obtain ⟨R, e⟩ := pdv_sub x y f
  rw [e]
  exact dvd_mul_r R h
structure Single (p : Int) (f : List Int) (a : Int) (d : Nat) (u : Int) : Prop where
  fac : Fac p (pdv f a) d u
  deep : pev f a % p ^ (2 * d + 1) = 0
theorem pev_step (f : List Int) (a k q : Int) : ∃ R, pev f (a + k * q) = pev f a + k * q * pdv f a + q * q * R := by
  obtain ⟨R, e⟩ := taylor a (k * q) f
  exact ⟨k * k * R, by grind⟩
theorem Fac.near {p x y u : Int} {d : Nat} (hp : 2 ≤ p) (h : Fac p x d u) (hxy : (y - x) % p ^ (d + 1) = 0) : ∃ v, Fac p y d v ∧ (v - u) % p = 0 := by
  obtain ⟨k, e⟩ := Int.dvd_of_emod_eq_zero hxy
  have e1 : y = (u + p * k) * p ^ d := by
    have := h.1
    rw [Int.pow_succ] at e
    generalize p ^ d = B at *
    grind
  refine ⟨u + p * k, ⟨e1, ?_⟩, ?_⟩
  · have := h.2
    intro z
    apply this
    rw [Int.add_mul_emod_self_left] at z
    exact z
  · rw [show u + p * k - u = p * k by omega]
    simp
theorem Single.near {p : Int} {f : List Int} {a b u : Int} {d : Nat} (hp : 2 ≤ p) (h : Single p f a d u) (hab : (b - a) % p ^ (d + 1) = 0) : ∃ v, Single p f b d v ∧ (v - u) % p = 0 := by
  obtain ⟨v, hv, e⟩ := h.fac.near hp (pdv_cong f hab)
  refine ⟨v, ⟨hv, ?_⟩, e⟩
  obtain ⟨k, ek⟩ := Int.dvd_of_emod_eq_zero hab
  obtain ⟨R, eR⟩ := pev_step f a k (p ^ (d + 1))
  have hb : b = a + k * p ^ (d + 1) := by rw [Int.mul_comm]; omega
  rw [hb, eR]
  have h1 := h.fac.1
  have e0 : p ^ (2 * d + 1) = p ^ (d + 1) * p ^ d := by rw [← pow_add']; congr 1; omega
  have e1 : p ^ (d + 1) = p ^ d * p := Int.pow_succ ..
  have h2 : k * p ^ (d + 1) * pdv f a = p ^ (2 * d + 1) * (k * u) := by
    rw [h1, e0]
    generalize p ^ (d + 1) = A
    generalize p ^ d = B
    grind
  have h3 : p ^ (d + 1) * p ^ (d + 1) * R = p ^ (2 * d + 1) * (p * R) := by
    rw [e0, e1]
    generalize p ^ d = B
    grind
  rw [h2, h3]
  exact dvd_add_of (dvd_add_of h.deep (by simp)) (by simp)
structure Root (p : Int) (f : List Int) (a : Int) (d t : Nat) (r : Int) : Prop where
  lo : 0 ≤ r
  hi : r < p ^ t
  near : (r - a) % p ^ (d + 1) = 0
  deep : pev f r % p ^ (t + d) = 0
theorem Root.start {p : Int} {f : List Int} {a u : Int} {d : Nat} (hp : 2 ≤ p) (h : Single p f a d u) : Root p f a d (d + 1) (a % p ^ (d + 1)) := by
  have q0 := pow_pos hp (d + 1)
  have n := rest_sub (p ^ (d + 1)) a
  obtain ⟨v, hv, _⟩ := h.near hp n
  exact ⟨Int.emod_nonneg _ (by omega), Int.emod_lt_of_pos _ q0, n, by rw [show d + 1 + d = 2 * d + 1 by omega]; exact hv.deep⟩
theorem Root.step {p : Int} {f : List Int} {a u y r : Int} {d t : Nat} (hp : 2 ≤ p) (h : Single p f a d u) (hu : (u * y - 1) % p = 0) (ht : d + 1 ≤ t) (R : Root p f a d t r) :
    Root p f a d (t + 1) (r + -(pev f r / p ^ (t + d)) * y % p * p ^ t) := by
  have q0 := pow_pos hp t
  have q1 := pow_pos hp (t + d)
  obtain ⟨v, hv, hvu⟩ := h.near hp R.near
  have s0 : 0 ≤ -(pev f r / p ^ (t + d)) * y % p := Int.emod_nonneg _ (by omega)
  have s1 : -(pev f r / p ^ (t + d)) * y % p < p := Int.emod_lt_of_pos _ (by omega)
  have s2 := rest_sub p (-(pev f r / p ^ (t + d)) * y)
  generalize hs : -(pev f r / p ^ (t + d)) * y % p = s at s0 s1 s2 ⊢
  have hw : pev f r = p ^ (t + d) * (pev f r / p ^ (t + d)) := by
    have := Int.mul_ediv_add_emod (pev f r) (p ^ (t + d))
    rw [R.deep] at this
    omega
  generalize pev f r / p ^ (t + d) = w at hw s2
  have m0 : 0 ≤ s * p ^ t := Int.mul_nonneg s0 (by omega)
  have m1 : s * p ^ t ≤ (p - 1) * p ^ t := Int.mul_le_mul_of_nonneg_right (by omega) (by omega)
  refine ⟨by have := R.lo; omega, ?_, ?_, ?_⟩
  · have := R.hi
    rw [Int.pow_succ, Int.mul_comm (p ^ t) p]
    rw [Int.sub_mul, Int.one_mul] at m1
    omega
  · rw [show r + s * p ^ t - a = (r - a) + s * p ^ t by omega]
    exact dvd_add_of R.near (dvd_mul_l s (pow_dv ht))
  · obtain ⟨T, eT⟩ := pev_step f r s (p ^ t)
    rw [eT, hw, hv.fac.1]
    have e2 : p ^ (t + d) * w + s * p ^ t * (v * p ^ d) = p ^ (t + d) * (w + s * v) := by
      rw [pow_add']
      generalize p ^ t = A
      generalize p ^ d = B
      grind
    have e3 : (w + s * v) % p = 0 := by
      obtain ⟨k1, h1⟩ := Int.dvd_of_emod_eq_zero s2
      obtain ⟨k2, h2⟩ := Int.dvd_of_emod_eq_zero hvu
      obtain ⟨k3, h3⟩ := Int.dvd_of_emod_eq_zero hu
      have : w + s * v = p * (-w * k3 + k1 * v - w * y * k2) := by grind
      rw [this]
      simp
    obtain ⟨k, ek⟩ := Int.dvd_of_emod_eq_zero e3
    have e4 : p ^ t * p ^ t * T = p ^ (t + 1 + d) * (p ^ (t - d - 1) * T) := by
      have : p ^ t = p ^ (d + 1) * p ^ (t - d - 1) := by rw [← pow_add']; congr 1; omega
      have h5 : p ^ t * p ^ t = p ^ (t + 1 + d) * p ^ (t - d - 1) := by
        rw [show t + 1 + d = t + (d + 1) by omega, pow_add' p t (d + 1), Int.mul_assoc, ← this]
      rw [h5, Int.mul_assoc]
    rw [e2, ek, e4]
    have e5 : p ^ (t + d) * (p * k) = p ^ (t + 1 + d) * k := by
      rw [show t + 1 + d = t + d + 1 by omega, Int.pow_succ, Int.mul_assoc]
    rw [e5]
    exact dvd_add_of (by simp) (by simp)
end Dr
namespace Dr
structure Rows (M a R S r t s : Int) : Prop where
  sg : s = 1 ∨ s = -1
  r0 : 0 ≤ r
  rR : r < R
  st : 1 ≤ s * t
  sS : s * S ≤ 0
  det : R * t - r * S = s * M
  h1 : (R - a * S) % M = 0
  h2 : (r - a * t) % M = 0
end Dr
namespace Dr
def pdl : List Int → List Int
  | [] => []
  | _ :: f => match f with
    | [] => []
    | _ => padd f (padd (pdl f) (0 :: pdl f))
def pq (r : Int) : List Int → List Int
  | [] => []
  | _ :: f => padd f ((pq r f).map (r * ·))
theorem pq_ev (r x : Int) : ∀ f : List Int, pev f x = pev f r + (x - r) * pev (pq r f) x
  | [] => by simp [pev, pq]
  | a :: f => by
    have ih := pq_ev r x f
    simp only [pev, pq, padd_ev, pev_map]
    grind
theorem pq_len (r : Int) : ∀ f : List Int, (pq r f).length = f.length - 1
  | [] => rfl
  | a :: f => by
    have := pq_len r f
    simp only [pq, padd_len, List.length_map, List.length_cons]
    omega
theorem pq_swap (r s : Int) (hrs : r ≠ s) (f : List Int) : pq s (pq r f) = pq r (pq s f) := by
  refine pev_inj_from _ _ ((r.natAbs : Int) + (s.natAbs : Int) + 1) (by simp only [pq_len]) fun x hx => ?_
  have e1 := pq_ev r x f
  have e2 := pq_ev s x (pq r f)
  have e3 := pq_ev s x f
  have e4 := pq_ev r x (pq s f)
  have e5 := pq_ev r s f
  have e6 := pq_ev s r f
  have d : pev (pq r f) s = pev (pq s f) r := by
    refine Int.eq_of_mul_eq_mul_left (show s - r ≠ 0 by omega) ?_
    grind
  have x1 : x - r ≠ 0 := by omega
  have x2 : x - s ≠ 0 := by omega
  refine Int.eq_of_mul_eq_mul_left x1 (Int.eq_of_mul_eq_mul_left x2 ?_)
  grind
def Van (p : Int) : List Int → Int → Nat → Prop
  | _, _, 0 => True
  | f, r, k + 1 => pev f r % p = 0 ∧ Van p (pq r f) r k
def DegP (p : Int) (f : List Int) (m : Nat) : Prop := f.getD m 0 % p ≠ 0 ∧ ∀ j, m < j → f.getD j 0 % p = 0
theorem padd_getD : ∀ (f g : List Int) (j : Nat), (padd f g).getD j 0 = f.getD j 0 + g.getD j 0
  | [], g, j => by simp [padd]
  | a :: f, [], j => by simp [padd]
  | a :: f, b :: g, 0 => by simp [padd]
  | a :: f, b :: g, j + 1 => by
    have := padd_getD f g j
    simpa [padd] using this
theorem map_getD (k : Int) (f : List Int) (j : Nat) : (f.map (k * ·)).getD j 0 = k * f.getD j 0 := by
  rw [List.getD_eq_getElem?_getD, List.getD_eq_getElem?_getD, List.getElem?_map]
  cases f[j]? <;> simp
theorem pq_get (r : Int) : ∀ (f : List Int) (j : Nat), (pq r f).getD j 0 = f.getD (j + 1) 0 + r * (pq r f).getD (j + 1) 0
  | [], j => by simp [pq]
  | [a], j => by simp [pq, padd]
  | a :: b :: f, j => by
    have ih := pq_get r (b :: f) j
    have h1 : ∀ i, (pq r (a :: b :: f)).getD i 0 = (b :: f).getD i 0 + r * (pq r (b :: f)).getD i 0 := fun i => by
      rw [pq, padd_getD, map_getD]
    rw [h1 j, h1 (j + 1)]
    have e : (a :: b :: f).getD (j + 1) 0 = (b :: f).getD j 0 := by simp
    rw [e, ih]
theorem DegP.pq {p r : Int} {f : List Int} {m : Nat} (h : DegP p f (m + 1)) : DegP p (pq r f) m := by
  have dn : ∀ (k j : Nat), f.length ≤ j + k → m < j → (Dr.pq r f).getD j 0 % p = 0 := by
    intro k
    induction k with
    | zero =>
      intro j hj hm
      rw [List.getD_eq_getElem?_getD, List.getElem?_eq_none (by rw [pq_len]; omega)]
      simp
    | succ k ih =>
      intro j hj hm
      rw [pq_get]
      exact dvd_add_of (h.2 (j + 1) (by omega)) (dvd_mul_l r (ih (j + 1) (by omega) (by omega)))
  refine ⟨fun z => h.1 ?_, fun j hj => dn f.length j (by omega) hj⟩
  rw [pq_get] at z
  have := dvd_sub_of z (dvd_mul_l r (dn f.length (m + 1) (by omega) (by omega)))
  rwa [Int.add_sub_cancel] at this
theorem DegP.zero {p r : Int} {f : List Int} (h : DegP p f 0) : pev f r % p ≠ 0 := by
  intro z
  apply h.1
  have : ∀ (g : List Int), (∀ j, 0 < j → g.getD j 0 % p = 0) → (pev g r - g.getD 0 0) % p = 0 := by
    intro g
    induction g with
    | nil => intro _; simp [pev]
    | cons a g ih =>
      intro hg
      have hg' : ∀ j, g.getD j 0 % p = 0 := fun j => by
        have := hg (j + 1) (by omega)
        simpa using this
      have h1 := ih fun j _ => hg' j
      have h2 : pev g r % p = 0 := by
        have := dvd_add_of h1 (hg' 0)
        rwa [Int.sub_add_cancel] at this
      have e : pev (a :: g) r - (a :: g).getD 0 0 = r * pev g r := by
        simp only [pev]
        simp
        omega
      rw [e]
      exact dvd_mul_l r h2
  have h1 := this f h.2
  have h2 := dvd_sub_of z h1
  rwa [show pev f r - (pev f r - f.getD 0 0) = f.getD 0 0 by omega] at h2
theorem Van.other {p r s : Int} (hp : p ∈ primes) (hrs : (s - r) % p ≠ 0) : ∀ (k : Nat) (f : List Int), pev f r % p = 0 → Van p f s k → Van p (pq r f) s k
  | 0, _, _, _ => trivial
  | k + 1, f, hr, hv => by
    obtain ⟨h1, h2⟩ := hv
    have ne : r ≠ s := fun z => hrs (by rw [z]; simp)
    have e := pq_ev r s f
    have h3 : (s - r) * pev (pq r f) s % p = 0 := by
      have := dvd_sub_of h1 hr
      rwa [show pev f s - pev f r = (s - r) * pev (pq r f) s by omega] at this
    have h4 := euclid hp h3 hrs
    refine ⟨h4, ?_⟩
    rw [pq_swap r s ne]
    refine Van.other hp hrs k (pq s f) ?_ h2
    have e2 := pq_ev s r f
    have d : pev (pq r f) s = pev (pq s f) r := by
      refine Int.eq_of_mul_eq_mul_left (show s - r ≠ 0 by omega) ?_
      grind
    rw [← d]
    exact h4
def total (L : List (Int × Nat)) : Nat := (L.map (·.2)).sum
theorem noughts {p : Int} (hp : p ∈ primes) : ∀ (m : Nat) (f : List Int) (L : List (Int × Nat)), DegP p f m → (L.map (·.1)).Pairwise (fun r s => (s - r) % p ≠ 0) → (∀ rk, rk ∈ L → Van p f rk.1 rk.2) → total L ≤ m
  | m, f, [], _, _, _ => by simp [total]
  | m, f, (r, 0) :: L, hd, hpw, hv => by
    have := noughts hp m f L hd (List.Pairwise.of_cons (by simpa using hpw)) fun rk h => hv rk (List.mem_cons_of_mem _ h)
    simpa [total] using this
  | 0, f, (r, k + 1) :: L, hd, _, hv => absurd (hv _ (List.mem_cons_self ..)).1 hd.zero
  | m + 1, f, (r, k + 1) :: L, hd, hpw, hv => by
    have v0 := hv _ (List.mem_cons_self ..)
    have hpw' : (∀ s, s ∈ L.map (·.1) → (s - r) % p ≠ 0) ∧ (L.map (·.1)).Pairwise (fun r s => (s - r) % p ≠ 0) := by
      have := List.pairwise_cons.mp (show (r :: L.map (·.1)).Pairwise (fun r s => (s - r) % p ≠ 0) by simpa using hpw)
      exact this
    have := noughts hp m (pq r f) ((r, k) :: L) hd.pq (by simpa using hpw) fun rk h => by
      rcases List.mem_cons.mp h with z | z
      · rw [z]
        exact v0.2
      · exact Van.other hp (hpw'.1 _ (List.mem_map_of_mem z)) _ _ v0.1 (hv rk (List.mem_cons_of_mem _ z))
    simp only [total, List.map_cons, List.sum_cons] at this ⊢
    omega
termination_by m _ L => (m, L.length)
end Dr
namespace Dr
def InB (p x : Int) (b : Int × Nat) : Prop := (x - b.1) % p ^ b.2 = 0
theorem rest_one {p r s : Int} (hr : 0 ≤ r ∧ r < p) (hs : 0 ≤ s ∧ s < p) (h : (r - s) % p = 0) : r = s := by
  obtain ⟨k, e⟩ := Int.dvd_of_emod_eq_zero h
  have : k = 0 := by
    refine Decidable.byContradiction fun z => ?_
    rcases Int.lt_or_gt_of_ne z with z | z
    · have : p * k ≤ p * -1 := Int.mul_le_mul_of_nonneg_left (by omega) (by omega)
      omega
    · have : p * 1 ≤ p * k := Int.mul_le_mul_of_nonneg_left (by omega) (by omega)
      omega
  rw [this] at e
  omega
end Dr
namespace Dr
def tay (r : Int) : Nat → List Int → List Int
  | 0, _ => []
  | n + 1, f => pev f r :: tay r n (pq r f)
theorem tay_ev (r y : Int) : ∀ (n : Nat) (f : List Int), f.length ≤ n → pev (tay r n f) y = pev f (r + y)
  | 0, f, h => by
    have : f = [] := List.eq_nil_of_length_eq_zero (by omega)
    rw [this]
    simp [tay, pev]
  | n + 1, f, h => by
    have ih := tay_ev r y n (pq r f) (by rw [pq_len]; omega)
    have e := pq_ev r (r + y) f
    simp only [tay, pev, ih]
    rw [e]
    grind
theorem tay_len (r : Int) : ∀ (n : Nat) (f : List Int), (tay r n f).length = n
  | 0, _ => rfl
  | n + 1, f => by simp [tay, tay_len r n]
theorem tay_van {p r : Int} : ∀ (k n : Nat) (f : List Int), k ≤ n → (∀ j, j < k → (tay r n f).getD j 0 % p = 0) → Van p f r k
  | 0, _, _, _, _ => trivial
  | k + 1, 0, _, h, _ => absurd h (by omega)
  | k + 1, n + 1, f, h, hj => by
    refine ⟨?_, tay_van k n (pq r f) (by omega) fun j hj' => ?_⟩
    · have := hj 0 (by omega)
      simpa [tay] using this
    · have := hj (j + 1) (by omega)
      simpa [tay] using this
def scl (q : Int) : Int → List Int → List Int
  | _, [] => []
  | k, a :: f => k * a :: scl q (k * q) f
theorem scl_len (q : Int) : ∀ (f : List Int) (k : Int), (scl q k f).length = f.length
  | [], _ => rfl
  | a :: f, k => by simp [scl, scl_len q f]
theorem scl_ev (q y : Int) : ∀ (f : List Int) (k : Int), pev (scl q k f) y = k * pev f (q * y)
  | [], _ => by simp [scl, pev]
  | a :: f, k => by
    have ih := scl_ev q y f (k * q)
    simp only [scl, pev, ih]
    grind
theorem scl_get (q : Int) : ∀ (f : List Int) (k : Int) (j : Nat), (scl q k f).getD j 0 = k * q ^ j * f.getD j 0
  | [], _, j => by simp [scl]
  | a :: f, k, 0 => by simp [scl]
  | a :: f, k, j + 1 => by
    have ih := scl_get q f (k * q) j
    simp only [scl, List.getD_cons_succ, ih, Int.pow_succ]
    generalize q ^ j = A
    generalize f.getD j 0 = B
    grind
theorem seen_get {f s : List Int} {r q : Int} (h : IsSeen f r q s) (j : Nat) : s.getD j 0 = q ^ j * (tay r f.length f).getD j 0 := by
  have e : s = scl q 1 (tay r f.length f) := by
    refine pev_inj (by rw [scl_len, tay_len]; exact h.len) fun y => ?_
    rw [h.ev, scl_ev, tay_ev r _ _ _ (Nat.le_refl _), Int.one_mul]
  rw [e, scl_get, Int.one_mul]
theorem pdiv_get {p : Int} {g : List Int} {c : Nat} (h : ∀ x, x ∈ g → x % p ^ c = 0) (j : Nat) : g.getD j 0 = p ^ c * (pdiv (p ^ c) g).getD j 0 := by
  have e := pdiv_back h
  conv => lhs; rw [e]
  rw [map_getD]
theorem seen_van {p r : Int} {f s : List Int} {c m : Nat} (hp : 2 ≤ p) (h : IsSeen f r p s) (hc : IsCont p s c) (hm : DegP p (pdiv (p ^ c) s) m) : Van p f r m := by
  have hml : m < f.length := by
    refine Nat.lt_of_not_le fun z => hm.1 ?_
    rw [List.getD_eq_getElem?_getD, List.getElem?_eq_none (by rw [pdiv_len]; rw [h.len]; exact z)]
    simp
  have g : ∀ j, p ^ c * (pdiv (p ^ c) s).getD j 0 = p ^ j * (tay r f.length f).getD j 0 := fun j => by
    rw [← pdiv_get hc.1, seen_get h]
  have hcm : m ≤ c := by
    refine fac_le (p := p) (u := (pdiv (p ^ c) s).getD m 0) (v := (tay r f.length f).getD m 0) hp ?_ hm.1
    have := g m
    rw [Int.mul_comm, this, Int.mul_comm]
  refine tay_van m f.length f (by omega) fun j hj => ?_
  have e := g j
  obtain ⟨d, rfl⟩ : ∃ d, c = j + (d + 1) := ⟨c - j - 1, by omega⟩
  rw [pow_add', Int.mul_assoc] at e
  have q0 := pow_pos hp j
  have e2 := Int.eq_of_mul_eq_mul_left (show p ^ j ≠ 0 by omega) e
  rw [← e2, Int.pow_succ, Int.mul_assoc]
  exact dvd_mul_l _ (by simp)
theorem degP_ex {p : Int} : ∀ (g : List Int), (∃ x, x ∈ g ∧ x % p ≠ 0) → ∃ m, m < g.length ∧ DegP p g m
  | [], h => by obtain ⟨x, hx, _⟩ := h; cases hx
  | a :: g, h => by
    by_cases w : ∃ x, x ∈ g ∧ x % p ≠ 0
    · obtain ⟨m, hm, h1, h2⟩ := degP_ex g w
      refine ⟨m + 1, by simp; omega, by simpa using h1, fun j hj => ?_⟩
      cases j with
      | zero => omega
      | succ j => simpa using h2 j (by omega)
    · obtain ⟨x, hx, hn⟩ := h
      have hx' : x = a := by
        rcases List.mem_cons.mp hx with z | z
        · exact z
        · exact absurd ⟨x, z, hn⟩ w
      subst hx'
      refine ⟨0, by simp, by simpa using hn, fun j hj => ?_⟩
      cases j with
      | zero => omega
      | succ j =>
        simp only [List.getD_cons_succ]
        rw [List.getD_eq_getElem?_getD]
        cases e : g[j]? with
        | none => simp
        | some y => exact Decidable.byContradiction fun z => w ⟨y, List.mem_of_getElem? e, z⟩
theorem cont_free {p : Int} {g : List Int} {c : Nat} (hc : IsCont p g c) : ∃ x, x ∈ pdiv (p ^ c) g ∧ x % p ≠ 0 := by
  obtain ⟨x, hx, hn⟩ := hc.2
  exact ⟨x / p ^ c, List.mem_map_of_mem hx, hn⟩
end Dr
namespace Dr
def l1 : List Int → Nat
  | [] => 0
  | a :: f => a.natAbs + l1 f
theorem l1_padd : ∀ f g : List Int, l1 (padd f g) ≤ l1 f + l1 g
  | [], g => by simp [padd, l1]
  | a :: f, [] => by simp [padd, l1]
  | a :: f, b :: g => by
    have := l1_padd f g
    simp only [padd, l1]
    omega
theorem l1_map (k : Int) : ∀ f : List Int, l1 (f.map (k * ·)) = k.natAbs * l1 f
  | [] => by simp [l1]
  | a :: f => by
    have := l1_map k f
    simp only [List.map_cons, l1, this, Int.natAbs_mul]
    rw [Nat.mul_add]
theorem l1_mem : ∀ {f : List Int} {c : Int}, c ∈ f → c.natAbs ≤ l1 f
  | a :: f, c, h => by
    rcases List.mem_cons.mp h with z | z
    · rw [z]; simp only [l1]; omega
    · have := l1_mem z
      simp only [l1]
      omega
def sn (r q : Int) : List Int → List Int
  | [] => []
  | a :: f => padd [a] (padd ((sn r q f).map (r * ·)) (0 :: (sn r q f).map (q * ·)))
theorem sn_len (r q : Int) : ∀ f : List Int, (sn r q f).length = f.length
  | [] => rfl
  | a :: f => by
    have := sn_len r q f
    simp only [sn, padd_len, List.length_map, List.length_cons, List.length_nil, this]
    omega
theorem sn_ev (r q y : Int) : ∀ f : List Int, pev (sn r q f) y = pev f (r + q * y)
  | [] => by simp [sn, pev]
  | a :: f => by
    have := sn_ev r q y f
    simp only [sn, padd_ev, pev, pev_map, this]
    grind
theorem sn_l1 {r q : Int} {m : Nat} : ∀ {f : List Int}, PolyB f m → l1 (sn r q f) < 2 ^ m * (r.natAbs + q.natAbs + 1) ^ f.length
  | [], _ => by
    simp only [sn, l1, List.length_nil, Nat.pow_zero, Nat.mul_one]
    exact Nat.pow_pos (by decide)
  | a :: f, h => by
    have ih := sn_l1 (r := r) (q := q) (f := f) fun c hc => h c (List.mem_cons_of_mem _ hc)
    have ha : a.natAbs < 2 ^ m := h a (List.mem_cons_self ..)
    have h1 := l1_padd [a] (padd ((sn r q f).map (r * ·)) (0 :: (sn r q f).map (q * ·)))
    have h2 := l1_padd ((sn r q f).map (r * ·)) (0 :: (sn r q f).map (q * ·))
    simp only [l1, l1_map, Int.natAbs_zero, Nat.zero_add, Nat.add_zero] at h1 h2
    have h3 : 0 < (r.natAbs + q.natAbs + 1) ^ f.length := Nat.pow_pos (by omega)
    simp only [sn, List.length_cons, Nat.pow_succ]
    generalize (r.natAbs + q.natAbs + 1) ^ f.length = B at ih h3 ⊢
    generalize l1 (sn r q f) = L at ih h1 h2 ⊢
    have e : 2 ^ m * (B * (r.natAbs + q.natAbs + 1)) = (r.natAbs + q.natAbs) * (2 ^ m * B) + 2 ^ m * B := by
      rw [← Nat.mul_assoc, Nat.mul_add, Nat.mul_one, Nat.mul_comm (2 ^ m * B)]
    rw [e]
    have h4 : (r.natAbs + q.natAbs) * L ≤ (r.natAbs + q.natAbs) * (2 ^ m * B) := Nat.mul_le_mul_left _ (Nat.le_of_lt ih)
    have h5 : 2 ^ m ≤ 2 ^ m * B := Nat.le_mul_of_pos_right _ h3
    rw [Nat.add_mul] at h4
    omega
theorem seen_bits {f s : List Int} {r q : Int} {m : Nat} (h : IsSeen f r q s) (hr : 0 ≤ r ∧ r < 100) (hq : 0 ≤ q ∧ q < 100) (hb : PolyB f m) : PolyB s (m + 8 * f.length) := by
  have e : s = sn r q f := pev_inj (by rw [sn_len]; exact h.len) fun y => by rw [h.ev, sn_ev]
  intro c hc
  rw [e] at hc
  have h1 := l1_mem hc
  have h2 := sn_l1 (r := r) (q := q) hb
  unfold Sm
  rw [Nat.pow_add, Nat.pow_mul]
  refine Nat.lt_of_le_of_lt h1 (Nat.lt_of_lt_of_le h2 (Nat.mul_le_mul_left _ (Nat.pow_le_pow_left (by omega) _)))
theorem pdiv_bits {f : List Int} {q : Int} {m : Nat} (hq : 0 < q) (hf : ∀ x, x ∈ f → x % q = 0) (hb : PolyB f m) : PolyB (pdiv q f) m := by
  intro c hc
  obtain ⟨x, hx, rfl⟩ := List.mem_map.mp hc
  have e := Int.mul_ediv_add_emod x q
  rw [hf x hx, Int.add_zero] at e
  have h1 := hb x hx
  unfold Sm at *
  have h2 : x.natAbs = q.natAbs * (x / q).natAbs := by rw [← Int.natAbs_mul, e]
  have h3 : 1 * (x / q).natAbs ≤ q.natAbs * (x / q).natAbs := Nat.mul_le_mul_right _ (by omega)
  omega
theorem mul_pow_dv {p x : Int} {c N : Nat} (hp : 2 ≤ p) (hcN : c ≤ N) : (p ^ c * x) % p ^ N = 0 ↔ x % p ^ (N - c) = 0 := by
  obtain ⟨d, rfl⟩ : ∃ d, N = c + d := ⟨N - c, by omega⟩
  rw [Nat.add_sub_cancel_left, pow_add']
  have q0 := pow_pos hp c
  constructor
  · intro h
    obtain ⟨k, e⟩ := Int.dvd_of_emod_eq_zero h
    rw [Int.mul_assoc] at e
    rw [Int.eq_of_mul_eq_mul_left (by omega) e]
    simp
  · intro h
    obtain ⟨k, e⟩ := Int.dvd_of_emod_eq_zero h
    rw [e, ← Int.mul_assoc]
    simp
theorem ball_next {p a r : Int} {e : Nat} (hp : 2 ≤ p) (ha : 0 ≤ a ∧ a < p ^ e) (hr : 0 ≤ r ∧ r < p) : 0 ≤ a + r * p ^ e ∧ a + r * p ^ e < p ^ (e + 1) := by
  have q0 := pow_pos hp e
  rw [Int.pow_succ]
  generalize p ^ e = A at *
  have h1 : 0 ≤ r * A := Int.mul_nonneg hr.1 (by omega)
  have h2 : (r + 1) * A ≤ p * A := Int.mul_le_mul_of_nonneg_right (by omega) (by omega)
  rw [Int.add_mul, Int.one_mul] at h2
  rw [Int.mul_comm A p]
  omega
theorem rests_apart {p : Int} {n : Nat} (q : Int → Bool) (hn : (n : Int) ≤ p) : (((List.range n).map fun k : Nat => (k : Int)).filter q).Pairwise (fun r s => (s - r) % p ≠ 0) := by
  refine List.Pairwise.filter q ?_
  rw [List.pairwise_map]
  refine (List.pairwise_lt_range (n := n)).imp_of_mem fun {i j} hi hj hij => ?_
  have h1 := List.mem_range.mp hi
  have h2 := List.mem_range.mp hj
  rw [Int.emod_eq_of_lt (by omega) (by omega)]
  omega
end Dr
namespace Dr
instance (p x : Int) (b : Int × Nat) : Decidable (InB p x b) := inferInstanceAs (Decidable ((x - b.1) % p ^ b.2 = 0))
def Within (p : Int) (d b : Int × Nat) : Prop := b.2 ≤ d.2 ∧ (d.1 - b.1) % p ^ b.2 = 0
instance (p : Int) (d b : Int × Nat) : Decidable (Within p d b) := inferInstanceAs (Decidable (_ ∧ _))
end Dr
namespace Dr
def Stp (a b : Int × Int) : Prop := a.2 * b.1 < b.2 * a.1
def Par (a b : Int × Int) : Prop := a.2 * b.1 = b.2 * a.1
instance (a b : Int × Int) : Decidable (Stp a b) := inferInstanceAs (Decidable (_ < _))
instance (a b : Int × Int) : Decidable (Par a b) := inferInstanceAs (Decidable (_ = _))
def csum (v : Int × Int) : List (Int × Int) → Int × Int
  | [] => (0, 0)
  | x :: L => if Par x v then (x.1 + (csum v L).1, x.2 + (csum v L).2) else csum v L
end Dr
namespace Dr
end Dr
namespace Dr
end Dr
namespace Dr
theorem unit_dv {p u w : Int} (hp : p ∈ primes) (hu : u % p ≠ 0) (N : Nat) : (u * w) % p ^ N = 0 ↔ w % p ^ N = 0 := by
  have p2 := (primes_ge hp).1
  constructor
  · intro h
    by_cases z : w = 0
    · rw [z]; simp
    · obtain ⟨d, v, hf⟩ := fac p2 z
      have hu' : Fac p u 0 u := ⟨by simp, hu⟩
      have hm := hu'.mul hp hf
      rw [Nat.zero_add] at hm
      exact (hf.dvd p2 N).mpr ((hm.dvd p2 N).mp h)
  · intro h
    exact dvd_mul_l _ h
end Dr
namespace Dr
end Dr
namespace Dr
end Dr
namespace Dr
end Dr
namespace Dr
def Deep (p : Int) : Nat → List Int → Prop
  | 0, _ => True
  | n + 1, s => ∃ (c : Nat) (r : Int) (t : List Int), IsCont p s c ∧ (0 ≤ r ∧ r < p) ∧ pev (pdiv (p ^ c) s) r % p = 0 ∧ pdv (pdiv (p ^ c) s) r % p = 0 ∧ IsSeen (pdiv (p ^ c) s) r p t ∧ Deep p n t
structure RootAt (p : Int) (g : List Int) (r : Int) (M : Nat) (x : Int) : Prop where
  lo : 0 ≤ x
  hi : x < p ^ M
  near : M = 0 ∨ (x - r) % p = 0
  deep : pev g x % p ^ M = 0
inductive FL (p : Int) (N : Nat) (rec : Int → Nat → List Int → List Int → Prop) (a : Int) (e : Nat) (g : List Int) : List Int → List Int → Prop
  | nil : FL p N rec a e g [] []
  | knot {rs L L1 t : List Int} {r : Int} : FL p N rec a e g rs L → pdv g r % p = 0 → IsSeen g r p t → rec (a + r * p ^ e) (e + 1) t L1 → FL p N rec a e g (rs ++ [r]) (L ++ L1)
  | leaf {rs L : List Int} {r x : Int} : FL p N rec a e g rs L → pdv g r % p ≠ 0 → RootAt p g r (N - e) x → FL p N rec a e g (rs ++ [r]) (L ++ [(a + p ^ e * x) % p ^ N])
def restsP (p : Int) (g : List Int) : List Int := ((List.range p.toNat).map fun k : Nat => (k : Int)).filter fun r => decide (pev g r % p = 0)
theorem restsP_mem {p r : Int} {g : List Int} (hp : 0 ≤ p) : r ∈ restsP p g ↔ (0 ≤ r ∧ r < p) ∧ pev g r % p = 0 := by
  unfold restsP
  rw [List.mem_filter, List.mem_map, decide_eq_true_eq]
  constructor
  · rintro ⟨⟨k, hk, rfl⟩, h⟩
    have := List.mem_range.mp hk
    exact ⟨by omega, h⟩
  · rintro ⟨h1, h2⟩
    exact ⟨⟨r.toNat, List.mem_range.mpr (by omega), by omega⟩, h2⟩
def Found (p : Int) (N : Nat) : Nat → Int → Nat → List Int → List Int → Prop
  | 0, _, _, _, _ => False
  | n + 1, a, e, s, L => ∃ c : Nat, IsCont p s c ∧ FL p N (Found p N n) a e (pdiv (p ^ c) s) (restsP p (pdiv (p ^ c) s)) L
def lin (w : Int × Int) : List Int := [-w.1, w.2]
theorem lin_ev (w : Int × Int) (y : Int) : pev (lin w) y = w.2 * y - w.1 := by
  simp only [lin, pev]
  grind
theorem lin_dv (w : Int × Int) (y : Int) : pdv (lin w) y = w.2 := by
  simp [lin, pdv, pev]
def PL (F : List Int) : List (Int × Int) → List Int
  | [] => F
  | w :: W => pmul (lin w) (PL F W)
theorem PL_len {F : List Int} (hF : 0 < F.length) : ∀ W : List (Int × Int), (PL F W).length = F.length + W.length
  | [] => rfl
  | w :: W => by
    have ih := PL_len hF W
    have := pmul_len (PL F W) (by omega) (lin w) (by simp [lin])
    simp only [lin, List.length_cons, List.length_nil] at this
    simp only [PL, lin, List.length_cons]
    omega
theorem PL_ev (F : List Int) (y : Int) (w : Int × Int) (W : List (Int × Int)) : pev (PL F (w :: W)) y = (w.2 * y - w.1) * pev (PL F W) y := by
  rw [PL, pmul_ev, lin_ev]
theorem PL_dv (F : List Int) (y : Int) (w : Int × Int) (W : List (Int × Int)) : pdv (PL F (w :: W)) y = w.2 * pev (PL F W) y + (w.2 * y - w.1) * pdv (PL F W) y := by
  rw [PL, pdv_mul (fun x => pmul_ev x (PL F W) (lin w)), lin_ev, lin_dv]
def Un (p : Int) (F : List Int) : Prop := 0 < F.length ∧ ∀ y, pev F y % p ≠ 0
theorem pev_mod0 {p : Int} : ∀ {F : List Int} {y : Int}, (∀ x, x ∈ F → x % p = 0) → pev F y % p = 0
  | [], y, _ => by simp [pev]
  | a :: F, y, h => by
    simp only [pev]
    exact dvd_add_of (h a (List.mem_cons_self ..)) (dvd_mul_l y (pev_mod0 fun x hx => h x (List.mem_cons_of_mem _ hx)))
theorem Un.cont {p : Int} {F : List Int} (h : Un p F) : IsCont p F 0 := by
  refine ⟨fun x _ => by simp, Decidable.byContradiction fun z => h.2 0 (pev_mod0 fun x hx => Decidable.byContradiction fun w => z ⟨x, hx, by simpa using w⟩)⟩
theorem Un.mul {p : Int} {F G R : List Int} (hp : p ∈ primes) (hF : Un p F) (hG : ∀ y, pev G y % p ≠ 0) (hl : 0 < R.length) (hR : ∀ y, pev R y = pev G y * pev F y) : Un p R := ⟨hl, fun y z => hF.2 y (euclid hp (by rw [← hR]; exact z) (hG y))⟩
theorem PL_cont {p : Int} {F : List Int} (hp : p ∈ primes) (hF : Un p F) : ∀ {W : List (Int × Int)}, (∀ w, w ∈ W → w.2 % p ≠ 0) → IsCont p (PL F W) 0
  | [], _ => hF.cont
  | w :: W, h => by
    have ih := PL_cont hp hF fun v hv => h v (List.mem_cons_of_mem _ hv)
    have l : IsCont p (lin w) 0 := ⟨fun x _ => by simp, w.2, by simp [lin], by simpa using h w (List.mem_cons_self ..)⟩
    have := l.mul hp ih (pmul_prod (by simp [lin]) (by rw [PL_len hF.1]; have := hF.1; omega))
    exact this
theorem PL_scale (k : Int) {F : List Int} (hF : 0 < F.length) : ∀ W : List (Int × Int), (PL F W).map (k * ·) = PL (F.map (k * ·)) W
  | [] => rfl
  | w :: W => by
    refine pev_inj ?_ fun x => ?_
    · rw [List.length_map, PL_len hF, PL_len (by rw [List.length_map]; exact hF), List.length_map]
    · rw [pev_map, PL_ev, PL_ev, ← PL_scale k hF W, pev_map]
      grind
structure Fct (p : Int) (s : List Int) (W : List (Int × Int)) : Prop where
  ex : ∃ (K : Int) (F : List Int), K ≠ 0 ∧ Un p F ∧ s = (PL F W).map (K * ·)
  un : ∀ w, w ∈ W → w.2 % p ≠ 0
theorem map_div {q k : Int} (hq : q ≠ 0) : ∀ f : List Int, pdiv q (f.map (k * q * ·)) = f.map (k * ·)
  | [] => rfl
  | a :: f => by
    have ih := map_div (k := k) hq f
    unfold pdiv at ih ⊢
    simp only [List.map_cons]
    rw [ih]
    congr 1
    rw [show k * q * a = q * (k * a) by grind, Int.mul_ediv_cancel_left _ hq]
theorem Fct.free {p : Int} {s : List Int} {W : List (Int × Int)} (hp : p ∈ primes) (h : Fct p s W) : ∃ (c : Nat) (F : List Int), IsCont p s c ∧ Un p F ∧ pdiv (p ^ c) s = PL F W := by
  have p2 := primes_ge hp
  obtain ⟨K, F, K0, hF, rfl⟩ := h.ex
  obtain ⟨c, k, fc⟩ := fac (p := p) (by omega) K0
  have q0 := pow_pos (p := p) (by omega) c
  have ct := PL_cont hp hF h.un
  refine ⟨c, F.map (k * ·), ⟨fun x hx => ?_, ?_⟩, ⟨by rw [List.length_map]; exact hF.1, fun y z => ?_⟩, ?_⟩
  · obtain ⟨y, _, rfl⟩ := List.mem_map.mp hx
    rw [fc.eq, show k * p ^ c * y = p ^ c * (k * y) by grind]
    simp
  · obtain ⟨x, hx, n⟩ := ct.one
    refine ⟨K * x, List.mem_map_of_mem hx, fun z => ?_⟩
    rw [fc.eq, show k * p ^ c * x = p ^ c * (k * x) by grind, Int.mul_ediv_cancel_left _ (by omega)] at z
    have := euclid hp z fc.un
    apply n
    simpa using this
  · rw [pev_map] at z
    exact hF.2 y (euclid hp z fc.un)
  · rw [← PL_scale k hF.1 W]
    rw [fc.eq]
    exact map_div (by omega) _
def hits (p r : Int) (W : List (Int × Int)) : List (Int × Int) := W.filter fun w => decide ((w.2 * r - w.1) % p = 0)
theorem PL_zero {p r : Int} {F : List Int} (hp : p ∈ primes) (hF : Un p F) : ∀ W : List (Int × Int), pev (PL F W) r % p = 0 ↔ hits p r W ≠ []
  | [] => ⟨fun z => absurd z (hF.2 r), fun z => absurd rfl z⟩
  | w :: W => by
    have ih := PL_zero (r := r) hp hF W
    rw [PL_ev]
    unfold hits at ih ⊢
    rw [List.filter_cons]
    by_cases c : (w.2 * r - w.1) % p = 0
    · rw [if_pos (decide_eq_true c)]
      exact ⟨fun _ => by simp, fun _ => dvd_mul_r _ c⟩
    · rw [if_neg (by rw [decide_eq_true_eq]; exact c)]
      exact ⟨fun z => ih.mp (euclid hp z c), fun z => dvd_mul_l _ (ih.mpr z)⟩
theorem PL_knot {p r : Int} {F : List Int} (hp : p ∈ primes) (hF : Un p F) : ∀ {W : List (Int × Int)}, (∀ w, w ∈ W → w.2 % p ≠ 0) → hits p r W ≠ [] → (pdv (PL F W) r % p = 0 ↔ 2 ≤ (hits p r W).length)
  | [], _, h => absurd rfl h
  | w :: W, hu, h => by
    have hu' : ∀ v, v ∈ W → v.2 % p ≠ 0 := fun v hv => hu v (List.mem_cons_of_mem _ hv)
    have z := PL_zero (r := r) hp hF W
    rw [PL_dv]
    have eh : hits p r (w :: W) = if (w.2 * r - w.1) % p = 0 then w :: hits p r W else hits p r W := by
      unfold hits
      rw [List.filter_cons]
      by_cases c : (w.2 * r - w.1) % p = 0
      · rw [if_pos (decide_eq_true c), if_pos c]
      · rw [if_neg (by rw [decide_eq_true_eq]; exact c), if_neg c]
    rw [eh] at h ⊢
    by_cases c : (w.2 * r - w.1) % p = 0
    · rw [if_pos c]
      have e1 : (w.2 * pev (PL F W) r + (w.2 * r - w.1) * pdv (PL F W) r) % p = 0 ↔ (w.2 * pev (PL F W) r) % p = 0 := by
        have d := dvd_mul_r (pdv (PL F W) r) c
        constructor
        · intro y
          have := dvd_sub_of y d
          rwa [Int.add_sub_cancel] at this
        · intro y
          exact dvd_add_of y d
      rw [e1, List.length_cons]
      have hw := hu w (List.mem_cons_self ..)
      constructor
      · intro y
        have := List.length_pos_iff.mpr (z.mp (euclid hp y hw))
        omega
      · intro y
        exact dvd_mul_l _ (z.mpr (List.length_pos_iff.mp (by omega)))
    · rw [if_neg c] at h ⊢
      have ih := PL_knot (r := r) hp hF hu' h
      have d := dvd_mul_l w.2 (z.mpr h)
      rw [← ih]
      constructor
      · intro y
        have := dvd_sub_of y d
        rw [show w.2 * pev (PL F W) r + (w.2 * r - w.1) * pdv (PL F W) r - w.2 * pev (PL F W) r = (w.2 * r - w.1) * pdv (PL F W) r by omega] at this
        exact euclid hp this c
      · intro y
        exact dvd_add_of d (dvd_mul_l _ y)
def shw (p r : Int) (w : Int × Int) : Int × Int := ((w.1 - w.2 * r) / p, w.2)
theorem shw_eq {p r : Int} {w : Int × Int} (h : (w.2 * r - w.1) % p = 0) : w.1 = w.2 * r + p * (shw p r w).1 := by
  have e := Int.mul_ediv_add_emod (w.1 - w.2 * r) p
  have z : (w.1 - w.2 * r) % p = 0 := by
    have := dvd_mul_l (-1) h
    rwa [show -1 * (w.2 * r - w.1) = w.1 - w.2 * r by omega] at this
  rw [z] at e
  unfold shw
  simp only
  omega
theorem PL_seen {p r : Int} {F : List Int} (hp : p ∈ primes) (hF : Un p F) : ∀ W : List (Int × Int), ∃ F2, Un p F2 ∧ F2.length + (hits p r W).length = F.length + W.length ∧ ∀ y, pev (PL F W) (r + p * y) = p ^ (hits p r W).length * pev (PL F2 ((hits p r W).map (shw p r))) y
  | [] => by
    have hl : (sn r p F).length = F.length := sn_len ..
    refine ⟨sn r p F, ⟨by rw [hl]; exact hF.1, fun y => by rw [sn_ev]; exact hF.2 _⟩, by rw [hl]; rfl, fun y => ?_⟩
    simp only [hits, List.filter_nil, List.length_nil, List.map_nil, PL, sn_ev]
    grind
  | w :: W => by
    obtain ⟨F2, h2, hl, he⟩ := PL_seen (r := r) hp hF W
    have eh : hits p r (w :: W) = if (w.2 * r - w.1) % p = 0 then w :: hits p r W else hits p r W := by
      unfold hits
      rw [List.filter_cons]
      by_cases c : (w.2 * r - w.1) % p = 0
      · rw [if_pos (decide_eq_true c), if_pos c]
      · rw [if_neg (by rw [decide_eq_true_eq]; exact c), if_neg c]
    rw [eh]
    by_cases c : (w.2 * r - w.1) % p = 0
    · rw [if_pos c]
      refine ⟨F2, h2, by simp only [List.length_cons]; omega, fun y => ?_⟩
      rw [PL_ev, he, List.map_cons, PL_ev, List.length_cons, Int.pow_succ]
      have e := shw_eq c
      have e2 : (shw p r w).2 = w.2 := rfl
      rw [e2]
      generalize (shw p r w).1 = t at *
      generalize pev (PL F2 ((hits p r W).map (shw p r))) y = X
      generalize p ^ (hits p r W).length = Y
      rw [e]
      grind
    · rw [if_neg c]
      have un : ∀ y, pev (lin (w.1 - w.2 * r, w.2 * p)) y % p ≠ 0 := fun y z => by
        rw [lin_ev] at z
        apply c
        have d : (w.2 * p * y) % p = 0 := by rw [show w.2 * p * y = p * (w.2 * y) by grind]; simp
        have := dvd_sub_of z d
        rwa [show w.2 * p * y - (w.1 - w.2 * r) - w.2 * p * y = w.2 * r - w.1 by omega] at this
      have l1 := pmul_len F2 h2.1 (lin (w.1 - w.2 * r, w.2 * p)) (by simp [lin])
      refine ⟨pmul (lin (w.1 - w.2 * r, w.2 * p)) F2, Un.mul hp h2 un (by simp only [lin, List.length_cons, List.length_nil] at l1 ⊢; omega) fun y => pmul_ev y F2 _, by simp only [lin, List.length_cons, List.length_nil] at l1 ⊢; omega, fun y => ?_⟩
      rw [PL_ev, he]
      have key : ∀ V : List (Int × Int), pev (PL (pmul (lin (w.1 - w.2 * r, w.2 * p)) F2) V) y = (w.2 * p * y - (w.1 - w.2 * r)) * pev (PL F2 V) y := fun V => by
        induction V with
        | nil => rw [PL, pmul_ev, lin_ev]; rfl
        | cons v V ih =>
          rw [PL_ev, PL_ev, ih]
          grind
      rw [key]
      generalize pev (PL F2 ((hits p r W).map (shw p r))) y = X
      generalize p ^ (hits p r W).length = Y
      grind
theorem Fct.seen {p r : Int} {F t : List Int} {W : List (Int × Int)} (hp : p ∈ primes) (hF : Un p F) (hu : ∀ w, w ∈ W → w.2 % p ≠ 0) (ht : IsSeen (PL F W) r p t) : Fct p t ((hits p r W).map (shw p r)) := by
  have p2 := primes_ge hp
  obtain ⟨F2, h2, hl, he⟩ := PL_seen (r := r) hp hF W
  have q0 := pow_pos (p := p) (by omega) (hits p r W).length
  refine ⟨⟨p ^ (hits p r W).length, F2, by omega, h2, pev_inj ?_ fun y => ?_⟩, fun w hw => ?_⟩
  · rw [ht.len, PL_len hF.1, List.length_map, PL_len h2.1, List.length_map]
    omega
  · rw [ht.ev, he, pev_map]
  · obtain ⟨v, hv, rfl⟩ := List.mem_map.mp hw
    exact hu v (List.mem_filter.mp hv).1
def Apart (p : Int) (n : Nat) (W : List (Int × Int)) : Prop := W.Pairwise fun u v => (u.1 * v.2 - v.1 * u.2) % p ^ n ≠ 0
theorem shw_cross {p r : Int} {u v : Int × Int} (hu : (u.2 * r - u.1) % p = 0) (hv : (v.2 * r - v.1) % p = 0) : u.1 * v.2 - v.1 * u.2 = p * ((shw p r u).1 * (shw p r v).2 - (shw p r v).1 * (shw p r u).2) := by
  have e1 := shw_eq hu
  have e2 := shw_eq hv
  have e3 : (shw p r u).2 = u.2 := rfl
  have e4 : (shw p r v).2 = v.2 := rfl
  rw [e3, e4]
  generalize (shw p r u).1 = s at *
  generalize (shw p r v).1 = t at *
  rw [e1, e2]
  grind
theorem p_dv {p x : Int} {n : Nat} (hp : 2 ≤ p) : (p * x) % p ^ (n + 1) = 0 ↔ x % p ^ n = 0 := by
  have := mul_pow_dv (p := p) (x := x) (c := 1) (N := n + 1) hp (by omega)
  rw [Nat.add_sub_cancel, Int.pow_succ, Int.pow_zero, Int.one_mul] at this
  exact this
theorem hit_ex {p : Int} (hp : p ∈ primes) {w : Int × Int} (hw : w.2 % p ≠ 0) : ∃ r : Int, (0 ≤ r ∧ r < p) ∧ (w.2 * r - w.1) % p = 0 := by
  have p2 := primes_ge hp
  obtain ⟨y, _, _, e⟩ := inv_ex hp hw
  refine ⟨(w.1 * y) % p, ⟨Int.emod_nonneg _ (by omega), Int.emod_lt_of_pos _ (by omega)⟩, ?_⟩
  have h1 := rest_sub p (w.1 * y)
  have h2 : (w.2 * y - 1) % p = 0 := by
    have := Int.mul_ediv_add_emod (w.2 * y) p
    rw [e] at this
    have : w.2 * y - 1 = p * (w.2 * y / p) := by omega
    rw [this]
    simp
  have := dvd_add_of (dvd_mul_l w.2 h1) (dvd_mul_l w.1 h2)
  rwa [show w.2 * (w.1 * y % p - w.1 * y) + w.1 * (w.2 * y - 1) = w.2 * (w.1 * y % p) - w.1 by rw [Int.mul_sub, Int.mul_sub]; grind] at this
theorem Apart.down {p r : Int} {n : Nat} {W : List (Int × Int)} (hp : 2 ≤ p) (h : Apart p (n + 1) W) : Apart p n ((hits p r W).map (shw p r)) := by
  unfold Apart
  rw [List.pairwise_map]
  have hs : (hits p r W).Pairwise fun u v => (u.1 * v.2 - v.1 * u.2) % p ^ (n + 1) ≠ 0 := List.Pairwise.sublist List.filter_sublist h
  refine hs.imp_of_mem fun {u v} hu hv z w => z ?_
  have h1 := of_decide_eq_true (List.mem_filter.mp hu).2
  have h2 := of_decide_eq_true (List.mem_filter.mp hv).2
  rw [shw_cross h1 h2]
  exact (p_dv hp).mpr w
theorem Apart.up {p : Int} {n : Nat} {W : List (Int × Int)} (hp : p ∈ primes) (hu : ∀ w, w ∈ W → w.2 % p ≠ 0) (h : ∀ r : Int, 0 ≤ r ∧ r < p → 2 ≤ (hits p r W).length → Apart p n ((hits p r W).map (shw p r))) : Apart p (n + 1) W := by
  have p2 := primes_ge hp
  refine List.pairwise_iff_forall_sublist.mpr fun {u v} hs z => ?_
  have mu : u ∈ W := hs.subset (by simp)
  have mv : v ∈ W := hs.subset (by simp)
  obtain ⟨r, hr, hit⟩ := hit_ex hp (hu u mu)
  have hitv : (v.2 * r - v.1) % p = 0 := by
    have z1 := dvd_of_le (p := p) z (show 1 ≤ n + 1 by omega)
    rw [Int.pow_succ, Int.pow_zero, Int.one_mul] at z1
    have := dvd_add_of (dvd_mul_l v.2 hit) z1
    rw [show v.2 * (u.2 * r - u.1) + (u.1 * v.2 - v.1 * u.2) = u.2 * (v.2 * r - v.1) by grind] at this
    exact euclid hp this (hu u mu)
  have hs2 : [u, v].Sublist (hits p r W) := by
    have := hs.filter fun w => decide ((w.2 * r - w.1) % p = 0)
    simpa [hits, hit, hitv] using this
  have a := h r hr (by have := hs2.length_le; simpa using this)
  unfold Apart at a
  rw [List.pairwise_map] at a
  have := List.pairwise_iff_forall_sublist.mp a hs2
  apply this
  rw [shw_cross hit hitv] at z
  exact (p_dv (by omega)).mp z
theorem Fct.deep {p : Int} (hp : p ∈ primes) : ∀ {n : Nat} {s : List Int} {W : List (Int × Int)}, Fct p s W → (0 < n ∨ 2 ≤ W.length) → (Deep p n s ↔ ¬ Apart p n W)
  | 0, s, W, h, hn => by
    refine ⟨fun _ z => ?_, fun _ => trivial⟩
    match W, hn, z with
    | u :: v :: W, _, z =>
      have := (List.pairwise_cons.mp z).1 v (by simp)
      apply this
      simp
    | [], .inr h, _ => simp at h
    | [u], .inr h, _ => simp at h
    | [], .inl h, _ => omega
    | [u], .inl h, _ => omega
  | n + 1, s, W, h, _ => by
    have p2 := primes_ge hp
    have p2' : 2 ≤ p := by omega
    obtain ⟨c, F, hc, hF, eg⟩ := h.free hp
    constructor
    · rintro ⟨c', r, t, hc', hr, h1, h2, ht, hd⟩ ap
      have ec := hc'.uniq p2' hc
      subst ec
      rw [eg] at h1 h2 ht
      have hne := (PL_zero hp hF W).mp h1
      have h2l := (PL_knot hp hF h.un hne).mp h2
      have := (Fct.deep hp (Fct.seen hp hF h.un ht) (.inr (by rw [List.length_map]; exact h2l))).mp hd
      exact this (ap.down p2')
    · intro na
      refine Classical.byContradiction fun nd => na (Apart.up hp h.un fun r hr hl => Classical.byContradiction fun na2 => nd ?_)
      have hne : hits p r W ≠ [] := List.length_pos_iff.mp (by omega)
      have ht : IsSeen (PL F W) r p (sn r p (PL F W)) := ⟨sn_len .., fun y => sn_ev ..⟩
      refine ⟨c, r, sn r p (PL F W), hc, hr, ?_, ?_, ?_, (Fct.deep hp (Fct.seen hp hF h.un ht) (.inr (by rw [List.length_map]; exact hl))).mpr na2⟩
      · rw [eg]; exact (PL_zero hp hF W).mpr hne
      · rw [eg]; exact (PL_knot hp hF h.un hne).mpr hl
      · rw [eg]; exact ht
end Dr
namespace Dr
def vl (p : Int) (N : Nat) (β : Int → Int) (a : Int) (e : Nat) (w : Int × Int) : Int := (a + p ^ e * (w.1 * β w.2)) % p ^ N
theorem emod_same {x y q : Int} (h : (x - y) % q = 0) : x % q = y % q := Int.emod_emod_of_dvd x (Int.dvd_refl q) ▸ (Int.emod_emod_of_dvd y (Int.dvd_refl q) ▸ (by
  obtain ⟨k, e⟩ := Int.dvd_of_emod_eq_zero h
  rw [show x = y + q * k by omega, Int.add_mul_emod_self_left]))
theorem vl_shw {p r a : Int} {N e : Nat} {β : Int → Int} {w : Int × Int} (h : (w.2 * r - w.1) % p = 0) (hb : (w.2 * β w.2 - 1) % p ^ N = 0) : vl p N β (a + r * p ^ e) (e + 1) (shw p r w) = vl p N β a e w := by
  unfold vl
  have e1 := shw_eq h
  have e2 : (shw p r w).2 = w.2 := rfl
  rw [e2]
  refine emod_same ?_
  have := dvd_mul_l (-(p ^ e * r)) hb
  rw [show -(p ^ e * r) * (w.2 * β w.2 - 1) = a + r * p ^ e + p ^ (e + 1) * ((shw p r w).1 * β w.2) - (a + p ^ e * (w.1 * β w.2)) by
    rw [Int.pow_succ]
    generalize (shw p r w).1 = t at *
    generalize p ^ e = A
    generalize β w.2 = B
    rw [e1]
    grind] at this
  exact this
theorem hits_near {p x r : Int} {W : List (Int × Int)} (h : (x - r) % p = 0) : hits p x W = hits p r W := by
  unfold hits
  refine List.filter_congr fun w _ => decide_eq_decide.mpr ?_
  have d := dvd_mul_l w.2 h
  constructor
  · intro z
    have := dvd_sub_of z d
    rwa [show w.2 * x - w.1 - w.2 * (x - r) = w.2 * r - w.1 by rw [Int.mul_sub]; omega] at this
  · intro z
    have := dvd_add_of z d
    rwa [show w.2 * r - w.1 + w.2 * (x - r) = w.2 * x - w.1 by rw [Int.mul_sub]; omega] at this
theorem PL_one {p x : Int} {F : List Int} (hp : p ∈ primes) (hF : Un p F) : ∀ {W : List (Int × Int)} {w : Int × Int}, hits p x W = [w] → ∃ U : Int, U % p ≠ 0 ∧ pev (PL F W) x = U * (w.2 * x - w.1)
  | [], w, h => by simp [hits] at h
  | v :: W, w, h => by
    have eh : hits p x (v :: W) = if (v.2 * x - v.1) % p = 0 then v :: hits p x W else hits p x W := by
      unfold hits
      rw [List.filter_cons]
      by_cases c : (v.2 * x - v.1) % p = 0
      · rw [if_pos (decide_eq_true c), if_pos c]
      · rw [if_neg (by rw [decide_eq_true_eq]; exact c), if_neg c]
    rw [eh] at h
    by_cases c : (v.2 * x - v.1) % p = 0
    · rw [if_pos c] at h
      obtain ⟨rfl, h2⟩ := List.cons.inj h
      refine ⟨pev (PL F W) x, fun z => (PL_zero hp hF W).mp z h2, ?_⟩
      rw [PL_ev, Int.mul_comm]
    · rw [if_neg c] at h
      obtain ⟨U, hU, e⟩ := PL_one hp hF h
      refine ⟨(v.2 * x - v.1) * U, fun z => hU (euclid hp z c), ?_⟩
      rw [PL_ev, e, Int.mul_assoc]
theorem leaf_vl {p r a x : Int} {N e : Nat} {β : Int → Int} {F : List Int} {W : List (Int × Int)} {w : Int × Int} (hp : p ∈ primes) (hF : Un p F) (h : hits p r W = [w]) (hR : RootAt p (PL F W) r (N - e) x) (hb : (w.2 * β w.2 - 1) % p ^ N = 0) : (a + p ^ e * x) % p ^ N = vl p N β a e w := by
  unfold vl
  have key : (w.2 * x - w.1) % p ^ (N - e) = 0 := by
    rcases hR.near with z | z
    · rw [z]; simp
    · rw [← hits_near z] at h
      obtain ⟨U, hU, eU⟩ := PL_one hp hF h
      have := hR.deep
      rw [eU] at this
      exact (unit_dv hp hU _).mp this
  have hb2 := dvd_of_le (p := p) hb (show N - e ≤ N by omega)
  have k2 : (x - w.1 * β w.2) % p ^ (N - e) = 0 := by
    have := dvd_sub_of (dvd_mul_l (β w.2) key) (dvd_mul_l x hb2)
    rwa [show β w.2 * (w.2 * x - w.1) - x * (w.2 * β w.2 - 1) = x - w.1 * β w.2 by grind] at this
  obtain ⟨k, ek⟩ := Int.dvd_of_emod_eq_zero k2
  refine emod_same ?_
  rw [show a + p ^ e * x - (a + p ^ e * (w.1 * β w.2)) = p ^ (e + (N - e)) * k by rw [pow_add', Int.mul_assoc, ← ek]; grind]
  exact dvd_mul_r k (pow_dv (by omega))
theorem filter_or {α : Type} {P Q : α → Bool} : ∀ W : List α, (∀ w, w ∈ W → P w = true → Q w = false) → (W.filter fun w => P w || Q w).Perm (W.filter P ++ W.filter Q)
  | [], _ => .nil
  | w :: W, h => by
    have ih := filter_or (P := P) (Q := Q) W fun v hv => h v (List.mem_cons_of_mem _ hv)
    have hw := h w (List.mem_cons_self ..)
    simp only [List.filter_cons]
    cases e1 : P w with
    | true =>
      rw [hw e1]
      simp only [Bool.true_or, if_true, Bool.false_eq_true, if_false, List.cons_append]
      exact ih.cons w
    | false =>
      cases e2 : Q w with
      | true =>
        simp only [Bool.false_or, if_true, Bool.false_eq_true, if_false]
        exact (ih.cons w).trans List.perm_middle.symm
      | false =>
        simp only [Bool.false_or, Bool.false_eq_true, if_false]
        exact ih
theorem FL.perm {p a : Int} {N n e : Nat} {β : Int → Int} {F : List Int} {W : List (Int × Int)} (hp : p ∈ primes) (hF : Un p F) (hu : ∀ w, w ∈ W → w.2 % p ≠ 0) (hb : ∀ w, w ∈ W → (w.2 * β w.2 - 1) % p ^ N = 0)
    (IH : ∀ {a : Int} {e : Nat} {s : List Int} {W : List (Int × Int)} {L : List Int}, Fct p s W → (∀ w, w ∈ W → (w.2 * β w.2 - 1) % p ^ N = 0) → Found p N n a e s L → L.Perm (W.map (vl p N β a e))) :
    ∀ {rs L : List Int}, FL p N (Found p N n) a e (PL F W) rs L → (∀ r, r ∈ rs → (0 ≤ r ∧ r < p) ∧ hits p r W ≠ []) → rs.Pairwise (· ≠ ·) → L.Perm ((W.filter fun w => rs.any fun r => decide ((w.2 * r - w.1) % p = 0)).map (vl p N β a e)) := by
  intro rs L fl
  have step : ∀ {rs L L1 : List Int} {r : Int}, (∀ r, r ∈ rs → (0 ≤ r ∧ r < p) ∧ hits p r W ≠ []) → rs.Pairwise (· ≠ ·) → (∀ s, s ∈ rs → s ≠ r) → (0 ≤ r ∧ r < p) → L.Perm ((W.filter fun w => rs.any fun r => decide ((w.2 * r - w.1) % p = 0)).map (vl p N β a e)) → L1.Perm ((hits p r W).map (vl p N β a e)) →
      (L ++ L1).Perm ((W.filter fun w => (rs ++ [r]).any fun r => decide ((w.2 * r - w.1) % p = 0)).map (vl p N β a e)) := fun {rs L L1 r} h1 h2 h3 h4 p1 p2 => by
    have e1 : (fun w : Int × Int => (rs ++ [r]).any fun r => decide ((w.2 * r - w.1) % p = 0)) = fun w => (rs.any fun r => decide ((w.2 * r - w.1) % p = 0)) || decide ((w.2 * r - w.1) % p = 0) := by
      funext w
      simp [List.any_append]
    rw [e1]
    have fo := filter_or (P := fun w : Int × Int => rs.any fun r => decide ((w.2 * r - w.1) % p = 0)) (Q := fun w => decide ((w.2 * r - w.1) % p = 0)) W fun w hw hP => by
      obtain ⟨s, hs, hd⟩ := List.any_eq_true.mp hP
      refine decide_eq_false fun z => h3 s hs ?_
      have z1 := of_decide_eq_true hd
      have := dvd_sub_of z1 z
      rw [show w.2 * s - w.1 - (w.2 * r - w.1) = w.2 * (s - r) by rw [Int.mul_sub]; omega] at this
      exact rest_one (h1 s hs).1 h4 (euclid hp this (hu w hw))
    refine ((p1.append p2).trans ?_).trans (fo.map _).symm
    rw [List.map_append]
    exact .refl _
  induction fl with
  | nil => intro _ _; simp
  | @knot rs L L1 t r fl0 h1 h2 h3 ih =>
    intro hr hn
    obtain ⟨n1, _, n3⟩ := List.pairwise_append.mp hn
    have hr' : ∀ s, s ∈ rs → (0 ≤ s ∧ s < p) ∧ hits p s W ≠ [] := fun s hs => hr s (List.mem_append_left _ hs)
    have rr := hr r (by simp)
    refine step hr' n1 (fun s hs => n3 s hs r (by simp)) rr.1 (ih hr' n1) ?_
    have := IH (Fct.seen hp hF hu h2) (fun w hw => by
      obtain ⟨v, hv, rfl⟩ := List.mem_map.mp hw
      exact hb v (List.mem_filter.mp hv).1) h3
    rw [List.map_map] at this
    refine this.trans (List.Perm.of_eq (List.map_congr_left fun w hw => ?_))
    have hm := List.mem_filter.mp hw
    exact vl_shw (of_decide_eq_true hm.2) (hb w hm.1)
  | @leaf rs L r x fl0 h1 h2 ih =>
    intro hr hn
    obtain ⟨n1, _, n3⟩ := List.pairwise_append.mp hn
    have hr' : ∀ s, s ∈ rs → (0 ≤ s ∧ s < p) ∧ hits p s W ≠ [] := fun s hs => hr s (List.mem_append_left _ hs)
    have rr := hr r (by simp)
    refine step hr' n1 (fun s hs => n3 s hs r (by simp)) rr.1 (ih hr' n1) ?_
    have nk : ¬ 2 ≤ (hits p r W).length := fun z => h1 ((PL_knot hp hF hu rr.2).mpr z)
    obtain ⟨w, ew⟩ : ∃ w, hits p r W = [w] := by
      match e : hits p r W, rr.2, nk with
      | [w], _, _ => exact ⟨w, rfl⟩
      | _ :: _ :: _, _, nk => simp at nk
    have hw : w ∈ W := (List.mem_filter.mp (show w ∈ hits p r W by rw [ew]; simp)).1
    rw [ew, leaf_vl hp hF ew h2 (hb w hw)]
    exact .refl _
theorem restsP_ne (p : Int) (g : List Int) : (restsP p g).Pairwise (· ≠ ·) := by
  unfold restsP
  refine List.Pairwise.sublist List.filter_sublist (List.pairwise_map.mpr ?_)
  exact (List.nodup_range (n := p.toNat)).imp fun {i j} z w => z (by omega)
theorem Fct.found {p : Int} {N : Nat} {β : Int → Int} (hp : p ∈ primes) : ∀ {n : Nat} {a : Int} {e : Nat} {s : List Int} {W : List (Int × Int)} {L : List Int}, Fct p s W → (∀ w, w ∈ W → (w.2 * β w.2 - 1) % p ^ N = 0) → Found p N n a e s L → L.Perm (W.map (vl p N β a e))
  | 0, _, _, _, _, _, _, _, h => h.elim
  | n + 1, a, e, s, W, L, h, hb, hf => by
    have p2 := primes_ge hp
    obtain ⟨c, F, hc, hF, eg⟩ := h.free hp
    obtain ⟨c', hc', fl⟩ := hf
    have ec := hc'.uniq (by omega) hc
    subst ec
    rw [eg] at fl
    have := FL.perm (β := β) hp hF h.un hb (fun h hb hf => Fct.found hp h hb hf) fl (fun r hr => ?_) (restsP_ne _ _)
    · refine this.trans (List.Perm.of_eq ?_)
      congr 1
      refine List.filter_eq_self.mpr fun w hw => List.any_eq_true.mpr ?_
      obtain ⟨r, hr, hit⟩ := hit_ex hp (h.un w hw)
      refine ⟨r, (restsP_mem (by omega)).mpr ⟨hr, (PL_zero hp hF W).mpr fun z => ?_⟩, decide_eq_true hit⟩
      have : w ∈ hits p r W := List.mem_filter.mpr ⟨hw, decide_eq_true hit⟩
      rw [z] at this
      cases this
    · obtain ⟨h1, h2⟩ := (restsP_mem (by omega)).mp hr
      exact ⟨h1, (PL_zero hp hF W).mp h2⟩
theorem pev_noughts {y : Int} : ∀ {f : List Int}, (∀ x, x ∈ f → x = 0) → pev f y = 0
  | [], _ => rfl
  | a :: f, h => by
    simp only [pev]
    rw [h a (List.mem_cons_self ..), pev_noughts fun x hx => h x (List.mem_cons_of_mem _ hx)]
    simp
theorem seen_ne {f s : List Int} {r q : Int} (hq : q ≠ 0) (h : IsSeen f r q s) (hf : ∃ x, x ∈ f ∧ x ≠ 0) : ∃ x, x ∈ s ∧ x ≠ 0 := by
  refine Classical.byContradiction fun z => ?_
  have z0 : ∀ x, x ∈ s → x = 0 := fun x hx => Classical.byContradiction fun w => z ⟨x, hx, w⟩
  have t0 : ∀ j, (tay r f.length f).getD j 0 = 0 := fun j => by
    have e := seen_get h j
    have : s.getD j 0 = 0 := by
      rw [List.getD_eq_getElem?_getD]
      cases w : s[j]? with
      | none => rfl
      | some x => exact z0 x (List.mem_of_getElem? w)
    rw [this] at e
    exact (Int.mul_eq_zero.mp e.symm).resolve_left (Int.pow_ne_zero hq)
  have t1 : ∀ x, x ∈ tay r f.length f → x = 0 := fun x hx => by
    obtain ⟨i, hi, e⟩ := List.getElem_of_mem hx
    have := t0 i
    rw [List.getD_eq_getElem?_getD, List.getElem?_eq_getElem hi] at this
    rw [← e]
    exact this
  have e : f = List.replicate f.length 0 := pev_inj (by rw [List.length_replicate]) fun x => by
    rw [pev_zeros]
    have := tay_ev r (x - r) f.length f (Nat.le_refl _)
    rw [show r + (x - r) = x by omega] at this
    rw [← this]
    exact pev_noughts t1
  obtain ⟨x, hx, x0⟩ := hf
  rw [e] at hx
  exact x0 (List.mem_replicate.mp hx).2
end Dr
namespace Dr
theorem FL.len {p a : Int} {N n e : Nat} {g : List Int} (hp : 2 ≤ p) (IH : ∀ {a : Int} {e : Nat} {s L : List Int}, Found p N n a e s L → ∀ (c m : Nat), IsCont p s c → DegP p (pdiv (p ^ c) s) m → L.length ≤ m) : ∀ {rs L : List Int}, FL p N (Found p N n) a e g rs L → (∀ r, r ∈ rs → pev g r % p = 0) → ∃ R : List (Int × Nat), R.map (·.1) = rs ∧ L.length ≤ total R ∧ ∀ rk, rk ∈ R → Van p g rk.1 rk.2 := by
  intro rs L fl
  induction fl with
  | nil => intro _; exact ⟨[], rfl, by simp, fun _ h => nomatch h⟩
  | @knot rs L L1 t s fl0 h1 h2 h3 ih =>
    intro h
    obtain ⟨R, e1, e2, e3⟩ := ih fun r hr => h r (List.mem_append_left _ hr)
    obtain ⟨c, m, hc, hm, hl⟩ : ∃ c m, IsCont p t c ∧ DegP p (pdiv (p ^ c) t) m ∧ L1.length ≤ m := by
      have : ∃ c, IsCont p t c := by
        cases n with
        | zero => exact h3.elim
        | succ n => obtain ⟨c, hc, _⟩ := h3; exact ⟨c, hc⟩
      obtain ⟨c, hc⟩ := this
      obtain ⟨m, _, hm⟩ := degP_ex _ (cont_free hc)
      exact ⟨c, m, hc, hm, IH h3 c m hc hm⟩
    refine ⟨R ++ [(s, m)], by rw [List.map_append, e1]; rfl, ?_, fun rk hrk => ?_⟩
    · unfold total at e2 ⊢
      rw [List.length_append, List.map_append, List.sum_append]
      simp only [List.map_cons, List.map_nil, List.sum_cons, List.sum_nil]
      omega
    · rcases List.mem_append.mp hrk with z | z
      · exact e3 rk z
      · rw [List.mem_singleton.mp z]
        exact seen_van hp h2 hc hm
  | @leaf rs L s x fl0 h1 h2 ih =>
    intro h
    obtain ⟨R, e1, e2, e3⟩ := ih fun r hr => h r (List.mem_append_left _ hr)
    refine ⟨R ++ [(s, 1)], by rw [List.map_append, e1]; rfl, ?_, fun rk hrk => ?_⟩
    · unfold total at e2 ⊢
      rw [List.length_append, List.map_append, List.sum_append]
      simp only [List.map_cons, List.map_nil, List.sum_cons, List.sum_nil, List.length_cons, List.length_nil]
      omega
    · rcases List.mem_append.mp hrk with z | z
      · exact e3 rk z
      · rw [List.mem_singleton.mp z]
        exact ⟨h s (by simp), trivial⟩
theorem Found.len {p : Int} {N : Nat} (hp : p ∈ primes) : ∀ {n : Nat} {a : Int} {e : Nat} {s L : List Int}, Found p N n a e s L → ∀ (c m : Nat), IsCont p s c → DegP p (pdiv (p ^ c) s) m → L.length ≤ m
  | 0, _, _, _, _, h => h.elim
  | n + 1, a, e, s, L, h => fun c m hc hm => by
    have p2 := primes_ge hp
    obtain ⟨c', hc', fl⟩ := h
    have ec := hc'.uniq (by omega) hc
    subst ec
    obtain ⟨R, e1, e2, e3⟩ := FL.len (by omega) (fun h => Found.len hp h) fl fun r hr => ((restsP_mem (by omega)).mp hr).2
    have := noughts hp m _ R hm (by rw [e1]; exact rests_apart _ (by omega)) e3
    omega
theorem Found.few {p : Int} {N n e : Nat} {a : Int} {s L : List Int} (hp : p ∈ primes) (h : Found p N n a e s L) : L.length < s.length := by
  obtain ⟨c, hc⟩ : ∃ c, IsCont p s c := by
    cases n with
    | zero => exact h.elim
    | succ n => obtain ⟨c, hc, _⟩ := h; exact ⟨c, hc⟩
  obtain ⟨m, hl, hm⟩ := degP_ex _ (cont_free hc)
  have := h.len hp c m hc hm
  rw [pdiv_len] at hl
  omega
end Dr
namespace Dr
theorem Root.near2 {p : Int} {f : List Int} {a u x y : Int} {d t : Nat} (hp : p ∈ primes) (h : Single p f a d u) (hx : (x - a) % p ^ (d + 1) = 0) (hy : (y - a) % p ^ (d + 1) = 0) (hw : (pev f x - pev f y) % p ^ (t + d) = 0) : (x - y) % p ^ t = 0 := by
  have p2 := primes_ge hp
  have p2' : 2 ≤ p := by omega
  obtain ⟨v, hv, _⟩ := h.near p2' hy
  obtain ⟨R, e⟩ := taylor y (x - y) f
  rw [show y + (x - y) = x by omega] at e
  have hxy : (x - y) % p ^ (d + 1) = 0 := by
    have := dvd_sub_of hx hy
    rwa [show x - a - (y - a) = x - y by omega] at this
  obtain ⟨k, ek⟩ := Int.dvd_of_emod_eq_zero hxy
  have hu : (v + p * k * R) % p ≠ 0 := fun z => hv.fac.un (by
    rw [show v + p * k * R = v + p * (k * R) by grind, Int.add_mul_emod_self_left] at z
    exact z)
  have e2 : pev f x - pev f y = p ^ d * ((v + p * k * R) * (x - y)) := by
    rw [e, hv.fac.eq]
    have : (x - y) * (x - y) * R = p ^ d * (p * k * R * (x - y)) := by
      conv => lhs; rw [Int.mul_assoc, ek]
      rw [Int.pow_succ]
      have := ek
      rw [Int.pow_succ] at this
      generalize p ^ d = A at *
      rw [← this]
      grind
    generalize p ^ d = A at *
    grind
  rw [e2, mul_pow_dv p2' (by omega), Nat.add_sub_cancel] at hw
  exact (unit_dv hp hu _).mp hw
end Dr
namespace Dr
theorem PL_snoc {F : List Int} (hF : 0 < F.length) (w : Int × Int) : ∀ W : List (Int × Int), PL F (W ++ [w]) = PL F (w :: W)
  | [] => rfl
  | v :: W => by
    rw [List.cons_append]
    refine pev_inj ?_ fun y => ?_
    · rw [PL_len hF, PL_len hF]
      simp
    · rw [PL_ev, PL_snoc hF w W, PL_ev, PL_ev, PL_ev]
      grind
theorem Fct.lin {p t b : Int} {f r : List Int} {W : List (Int × Int)} (h : Fct p f W) (hr : IsProd f [0 - t, b] r) (hb : b % p ≠ 0) : Fct p r (W ++ [(t, b)]) := by
  obtain ⟨K, F, K0, hF, rfl⟩ := h.ex
  refine ⟨⟨K, F, K0, hF, ?_⟩, fun w hw => ?_⟩
  · refine pev_inj ?_ fun x => ?_
    · have := hr.len
      rw [List.length_map, PL_len hF.1] at this ⊢
      simp only [List.length_append, List.length_cons, List.length_nil] at this ⊢
      omega
    · rw [hr.ev, pev_map, pev_map, PL_snoc hF.1, PL_ev]
      simp only [pev]
      grind
  · rcases List.mem_append.mp hw with z | z
    · exact h.un w z
    · rw [List.mem_singleton.mp z]
      exact hb
theorem PL_app {F G R : List Int} (hF : 0 < F.length) (hR : IsProd F G R) (hR0 : 0 < R.length) (y : Int) : ∀ W : List (Int × Int), pev (PL R W) y = pev (PL F W) y * pev G y
  | [] => by rw [PL, PL, hR.ev]
  | w :: W => by
    rw [PL_ev, PL_ev, PL_app hF hR hR0 y W]
    grind
theorem Fct.unit {p : Int} {f g r : List Int} {W : List (Int × Int)} (hp : p ∈ primes) (h : Fct p f W) (hr : IsProd f g r) (hg : Un p g) : Fct p r W := by
  obtain ⟨K, F, K0, hF, rfl⟩ := h.ex
  have hR := pmul_prod hF.1 hg.1
  have l0 := hR.len
  have lF := hF.1
  have lg := hg.1
  have hR0 : 0 < (pmul F g).length := by omega
  refine ⟨⟨K, pmul F g, K0, Un.mul hp hF hg.2 hR0 fun y => by rw [hR.ev, Int.mul_comm], ?_⟩, h.un⟩
  refine pev_inj ?_ fun x => ?_
  · have := hr.len
    rw [List.length_map, PL_len hF.1] at this
    rw [List.length_map, PL_len hR0]
    omega
  · rw [hr.ev, pev_map, pev_map, PL_app hF.1 hR hR0]
    grind
theorem Fct.start {p k : Int} (hp : 2 ≤ p) (hk : k ≠ 0) : Fct p [k] [] := by
  refine ⟨⟨k, [1], hk, ⟨by simp, fun y => ?_⟩, by simp [PL]⟩, fun w h => nomatch h⟩
  simp only [pev, Int.mul_zero, Int.add_zero]
  rw [Int.emod_eq_of_lt (by omega) (by omega)]
  decide
noncomputable def turn (p : Int) (b : Int) : Int := Classical.epsilon fun y => (b * y - 1) % p ^ 64 = 0
end Dr
namespace Dr
end Dr
namespace Dr
def PF (F : Int → Int) : Prop := ∃ k : List Int, ∀ x, F x = pev k x
theorem PF.of (k : List Int) : PF (pev k) := ⟨k, fun _ => rfl⟩
theorem PF.const (c : Int) : PF fun _ => c := ⟨[c], fun x => by simp [pev]⟩
def Cg (q : Int) (F G : Int → Int) : Prop := ∃ K, PF K ∧ ∀ x, F x - G x = q * K x
theorem Cg.of_eq {q : Int} {F G : Int → Int} (h : ∀ x, F x = G x) : Cg q F G := ⟨fun _ => 0, PF.const 0, fun x => by rw [h, Int.sub_self, Int.mul_zero]⟩
theorem Cg.refl {q : Int} (F : Int → Int) : Cg q F F := Cg.of_eq fun _ => rfl
def Cf (q : Int) (f g : List Int) : Prop := ∀ i, (f.getD i 0 - g.getD i 0) % q = 0
theorem pmul_top : ∀ (f g : List Int) (n m : Nat), f.length = n + 1 → g.length = m + 1 → (pmul f g).getD (n + m) 0 = f.getD n 0 * g.getD m 0
  | [], _, _, _, h, _ => by simp at h
  | [a], g, n, m, h, hg => by
    have : n = 0 := by simpa using h.symm
    subst this
    show (padd (g.map (a * ·)) []).getD (0 + m) 0 = _
    rw [padd_getD, map_getD, Nat.zero_add]
    simp
  | a :: b :: f, g, n, m, h, hg => by
    obtain ⟨k, rfl⟩ : ∃ k, n = k + 1 := ⟨n - 1, by simp at h; omega⟩
    have ih := pmul_top (b :: f) g k m (by simp at h ⊢; omega) hg
    show (padd (g.map (a * ·)) (0 :: pmul (b :: f) g)).getD (k + 1 + m) 0 = _
    rw [padd_getD, map_getD, show k + 1 + m = (k + m) + 1 by omega]
    have e : g.getD (k + m + 1) 0 = 0 := by
      rw [List.getD_eq_getElem?_getD, List.getElem?_eq_none (by omega)]
      rfl
    rw [e]
    simp only [List.getD_cons_succ, Int.mul_zero, Int.zero_add]
    exact ih
theorem getD_len {f : List Int} {i : Nat} (h : f.length ≤ i) : f.getD i 0 = 0 := by
  rw [List.getD_eq_getElem?_getD, List.getElem?_eq_none h]
  rfl
theorem Cf.take {p : Int} {f : List Int} {m : Nat} (h : ∀ j, m < j → f.getD j 0 % p = 0) : Cf p (f.take (m + 1)) f := fun i => by
  by_cases c : i < m + 1
  · have : (f.take (m + 1)).getD i 0 = f.getD i 0 := by
      rw [List.getD_eq_getElem?_getD, List.getD_eq_getElem?_getD, List.getElem?_take_of_lt c]
    rw [this, Int.sub_self]
    simp
  · rw [getD_len (by rw [List.length_take]; omega)]
    have := dvd_mul_l (-1) (h i (by omega))
    rwa [show -1 * f.getD i 0 = 0 - f.getD i 0 by omega] at this
end Dr
namespace Dr
end Dr
namespace Dr
def Inv (p : Int) (g h t : List Int) : Prop := ∃ s : List Int, Cg p (fun x => pev t x * pev h x + pev s x * pev g x) fun _ => 1
end Dr
namespace Dr
theorem one_mod {p : Int} (hp : p ∈ primes) : (1 : Int) % p ≠ 0 := by
  have := primes_ge hp
  rw [Int.emod_eq_of_lt (by omega) (by omega)]
  decide
end Dr
namespace Dr
def prodR : List Int → Int → Int
  | [], _ => 1
  | r :: l, x => (x - r) * prodR l x
theorem prodR_app (a b : List Int) (x : Int) : prodR (a ++ b) x = prodR a x * prodR b x := by
  induction a with
  | nil => rw [List.nil_append]; show _ = 1 * _; rw [Int.one_mul]
  | cons r a ih => show (x - r) * prodR (a ++ b) x = (x - r) * prodR a x * prodR b x; rw [ih, Int.mul_assoc]
structure Blt (rs f : List Int) : Prop where
  len : f.length = rs.length + 1
  top : f.getLast? = some 1
  ev : ∀ x, pev f x = prodR rs x
theorem Blt.nil : Blt [] [1] := ⟨rfl, rfl, fun x => by show 1 + x * 0 = 1; omega⟩
theorem top_of {f g r : List Int} (hr : IsProd f g r) (hf : f.getLast? = some 1) (hg : g.getLast? = some 1) (lf : 0 < f.length) (lg : 0 < g.length) : r.getLast? = some 1 := by
  have e2 : r = pmul f g := hr.uniq (pmul_prod lf lg)
  have t := pmul_top f g (f.length - 1) (g.length - 1) (by omega) (by omega)
  have one : ∀ {l : List Int}, l.getLast? = some 1 → l.getD (l.length - 1) 0 = 1 := fun {l} h => by
    rw [List.getLast?_eq_getElem?] at h
    rw [List.getD_eq_getElem?_getD, h]
    rfl
  rw [one hf, one hg] at t
  have ln := hr.len
  have h1 : r.getD (f.length - 1 + (g.length - 1)) 0 = 1 := by rw [e2]; exact t
  rw [List.getLast?_eq_getElem?, show r.length - 1 = f.length - 1 + (g.length - 1) by omega]
  rw [List.getD_eq_getElem?_getD] at h1
  cases z : r[f.length - 1 + (g.length - 1)]? with
  | none => rw [z] at h1; cases h1
  | some v => rw [z] at h1; exact congrArg some h1
theorem Blt.app {a b f g r : List Int} (hf : Blt a f) (hg : Blt b g) (hr : IsProd f g r) : Blt (a ++ b) r := by
  have l1 := hf.len
  have l2 := hg.len
  have ln := hr.len
  exact ⟨by rw [List.length_append]; omega, top_of hr hf.top hg.top (by omega) (by omega), fun x => by rw [hr.ev, hf.ev, hg.ev, prodR_app]⟩
theorem Blt.one (w : Int) : Blt [w] [0 - w, 1] := ⟨rfl, rfl, fun x => by
  show 0 - w + x * (1 + x * 0) = (x - w) * 1
  rw [Int.mul_zero, Int.add_zero, Int.mul_one, Int.mul_one]
  omega⟩
theorem Blt.ex : ∀ a : List Int, ∃ f, Blt a f
  | [] => ⟨_, Blt.nil⟩
  | w :: a => by
    obtain ⟨f, hf⟩ := Blt.ex a
    exact ⟨_, (Blt.one w).app hf (pmul_prod (by simp) (by rw [hf.len]; omega))⟩
end Dr
namespace Dr
def ws (rs : List Int) : List (Int × Int) := rs.map fun r => (r, 1)
theorem Apart.whole {p : Int} (hp : p ∈ primes) {rs : List Int} (nd : rs.Nodup) (b : ∀ x, x ∈ rs → x.natAbs < 2 ^ 40) : Apart p 60 (ws rs) := by
  have p2 := primes_ge hp
  unfold Apart ws
  rw [List.pairwise_map]
  refine nd.imp_of_mem fun {x y} hx hy ne z => ne ?_
  have h := two_pow_le (p := p) (by omega) 60
  have bx := b x hx
  have by' := b y hy
  have q0 := pow_pos (p := p) (by omega) 60
  obtain ⟨k, e⟩ := Int.dvd_of_emod_eq_zero z
  have e : x - y = p ^ 60 * k := by
    have e1 : x * 1 - y * 1 = p ^ 60 * k := e
    omega
  have n1 : (x - y).natAbs < 2 ^ 41 := by
    have : (2 : Nat) ^ 41 = 2 ^ 40 + 2 ^ 40 := by decide
    omega
  rw [e, Int.natAbs_mul] at n1
  have k0 : k = 0 := by
    refine Decidable.byContradiction fun c => ?_
    have := Nat.mul_le_mul h (show 1 ≤ k.natAbs by omega)
    have : (2 : Nat) ^ 41 < 2 ^ 60 * 1 := by decide
    omega
  rw [k0, Int.mul_zero] at e
  omega
theorem Found.whole {p : Int} {N : Nat} (hp : p ∈ primes) {f L rs : List Int} (h : Fct p f (ws rs)) (hf : Found p N 60 0 0 f L) : L.Perm (rs.map (· % p ^ N)) := by
  have := Fct.found (β := fun _ => 1) hp h (fun w hw => by
    obtain ⟨r, _, rfl⟩ := List.mem_map.mp hw
    simp) hf
  have e : (ws rs).map (vl p N (fun _ => 1) 0 0) = rs.map (· % p ^ N) := by
    unfold ws
    rw [List.map_map]
    refine List.map_congr_left fun r _ => ?_
    simp [vl]
  rwa [e] at this
theorem unit_lin {p : Int} (hp : p ∈ primes) (m : Int) : Un p [1, p * m] := by
  refine ⟨by simp, fun y z => one_mod hp ?_⟩
  have e : pev [1, p * m] y = 1 + p * (m * y) := by
    simp only [pev]
    grind
  rwa [e, Int.add_mul_emod_self_left] at z
theorem Fct.scaled {p k : Int} {f : List Int} {W : List (Int × Int)} (h : Fct p f W) (hk : k ≠ 0) : Fct p (f.map (k * ·)) W := by
  obtain ⟨K, F, K0, hF, rfl⟩ := h.ex
  refine ⟨⟨k * K, F, Int.mul_ne_zero hk K0, hF, ?_⟩, h.un⟩
  rw [List.map_map]
  refine List.map_congr_left fun x _ => ?_
  simp [Int.mul_assoc]
theorem sn_seen (r q : Int) (f : List Int) : IsSeen f r q (sn r q f) := ⟨sn_len .., fun y => sn_ev ..⟩
theorem Fct.seenK {p r : Int} {f t : List Int} {W : List (Int × Int)} (hp : p ∈ primes) (h : Fct p f W) (ht : IsSeen f r p t) : Fct p t ((hits p r W).map (shw p r)) := by
  obtain ⟨K, F, K0, hF, e⟩ := h.ex
  have s := Fct.seen hp hF h.un (sn_seen r p (PL F W))
  have : t = (sn r p (PL F W)).map (K * ·) := by
    refine ht.uniq ⟨by rw [List.length_map, sn_len, e, List.length_map], fun y => ?_⟩
    rw [pev_map, sn_ev, e, pev_map]
  rw [this]
  exact s.scaled K0
theorem hits_whole (p r : Int) : ∀ rs : List Int, (hits p r (ws rs)).map (shw p r) = ws ((rs.filter fun x => decide ((x - r) % p = 0)).map fun x => (x - r) / p)
  | [] => rfl
  | x :: rs => by
    have ih := hits_whole p r rs
    have c : ((1 : Int) * r - x) % p = 0 ↔ (x - r) % p = 0 := by
      rw [Int.one_mul]
      constructor <;> intro z <;> obtain ⟨k, e⟩ := Int.dvd_of_emod_eq_zero z <;> refine Int.emod_eq_zero_of_dvd ⟨-k, ?_⟩ <;> rw [Int.mul_neg] <;> omega
    unfold hits ws at ih ⊢
    simp only [List.map_cons, List.filter_cons]
    by_cases d : (x - r) % p = 0
    · rw [decide_eq_true (c.mpr d), decide_eq_true d, if_pos rfl, if_pos rfl]
      simp only [List.map_cons, ih]
      simp [shw, Int.one_mul]
    · rw [decide_eq_false (fun z => d (c.mp z)), decide_eq_false d, if_neg (by simp), if_neg (by simp)]
      exact ih
theorem whole_dv {f A B g : List Int} {c r : Int} (h : ∀ x, pev f x = c * prodR (A ++ r :: B) x * pev g x) : pdv f r = c * prodR (A ++ B) r * pev g r ∧ pev f r = 0 := by
  obtain ⟨q, hq⟩ := Blt.ex (A ++ B)
  have e : ∀ x, pev f x = pev [0 - r, 1] x * pev (pmul (q.map (c * ·)) g) x := fun x => by
    rw [h, pmul_ev, pev_map, hq.ev, prodR_app, prodR_app]
    show c * (prodR A x * ((x - r) * prodR B x)) * pev g x = (0 - r + x * (1 + x * 0)) * (c * (prodR A x * prodR B x) * pev g x)
    grind
  have z : pev [0 - r, 1] r = 0 := by
    show 0 - r + r * (1 + r * 0) = 0
    grind
  refine ⟨?_, by rw [e, z, Int.zero_mul]⟩
  rw [pdv_mul e, z, Int.zero_mul, Int.add_zero, pmul_ev, pev_map, hq.ev]
  have : pdv [0 - r, 1] r = 1 := by simp [pdv, pev]
  rw [this, Int.one_mul]
theorem prodR_sm {n : Nat} {x : Int} : ∀ {l : List Int}, (∀ y, y ∈ l → Sm (x - y) n) → Sm (prodR l x) (l.length * n + 1)
  | [], _ => by
    show (1 : Int).natAbs < 2 ^ (0 * n + 1)
    rw [Nat.zero_mul]
    decide
  | y :: l, h => by
    have := (h y (.head _)).mul (prodR_sm (l := l) fun z hz => h z (.tail _ hz))
    refine this.mono ?_
    simp only [List.length_cons, Nat.succ_mul]
    omega
theorem prodR_zero {x : Int} : ∀ {l : List Int}, prodR l x = 0 → x ∈ l
  | [], h => by cases h
  | y :: l, h => by
    rcases Int.mul_eq_zero.mp (show (x - y) * prodR l x = 0 from h) with z | z
    · rw [show x = y by omega]; exact .head _
    · exact .tail _ (prodR_zero z)
theorem whole_at {p c r : Int} (hp : p ∈ primes) {f rs g : List Int} {n : Nat} (h : ∀ x, pev f x = c * prodR rs x * pev g x) (hg : Un p g) (nd : rs.Nodup) (hr : r ∈ rs) (hc : c ≠ 0) (bc : Sm c 5) (b : ∀ y, y ∈ rs → Sm (r - y) n) :
    pev f r = 0 ∧ pdv f r ≠ 0 ∧ ∀ (d : Nat) (u : Int), Fac p (pdv f r) d u → Sm (p ^ d) ((rs.length - 1) * n + 6) := by
  have p2 := primes_ge hp
  obtain ⟨A, B, rfl⟩ := List.append_of_mem hr
  obtain ⟨e1, e2⟩ := whole_dv h
  have hn : r ∉ A ++ B := by
    obtain ⟨n1, n2, n3⟩ := List.nodup_append.mp nd
    intro z
    rcases List.mem_append.mp z with z | z
    · exact n3 r z r (.head _) rfl
    · exact (List.nodup_cons.mp n2).1 z
  have d0 : c * prodR (A ++ B) r ≠ 0 := Int.mul_ne_zero hc fun z => hn (prodR_zero z)
  have g0 : pev g r ≠ 0 := fun z => hg.2 r (by rw [z]; simp)
  refine ⟨e2, by rw [e1]; exact Int.mul_ne_zero d0 g0, fun d u F => ?_⟩
  obtain ⟨d1, u1, F1⟩ := fac (p := p) (by omega) d0
  have F2 := F1.mul hp ⟨(by rw [Int.pow_zero, Int.mul_one] : pev g r = pev g r * p ^ 0), hg.2 r⟩
  rw [← e1] at F2
  have ed := (F.uniq (by omega) F2).1
  rw [show d = d1 by omega]
  have le := F1.pow_le (p := p) (by omega)
  have bD : Sm (c * prodR (A ++ B) r) (5 + ((A ++ B).length * n + 1)) := bc.mul (prodR_sm fun y hy => b y (by
    rcases List.mem_append.mp hy with z | z
    · exact List.mem_append_left _ z
    · exact List.mem_append_right _ (.tail _ z)))
  have : 5 + ((A ++ B).length * n + 1) ≤ ((A ++ r :: B).length - 1) * n + 6 := by
    have : (A ++ r :: B).length - 1 = (A ++ B).length := by simp
    rw [this]
    omega
  exact Nat.lt_of_le_of_lt le (bD.mono this)
theorem root_whole {p a r x u : Int} (hp : p ∈ primes) {f : List Int} {d N : Nat} (h : Single p f a d u) (hr : pev f r = 0) (ha : (r - a) % p ^ (d + 1) = 0) (R : Root p f a d N x) : x = r % p ^ N := by
  have := Root.near2 hp h R.near ha (by rw [hr, Int.sub_zero]; exact R.deep)
  have q : x % p ^ N = r % p ^ N := emod_same this
  rw [← q]
  exact (Int.emod_eq_of_lt R.lo R.hi).symm
theorem l1_pmul (g : List Int) : ∀ f : List Int, l1 (pmul f g) ≤ l1 f * l1 g
  | [] => by simp [pmul, l1]
  | [a] => by
    have h1 := l1_padd (g.map (a * ·)) []
    rw [l1_map] at h1
    simp only [pmul, l1] at h1 ⊢
    rw [Nat.add_zero] at h1 ⊢
    exact h1
  | a :: b :: f => by
    have ih := l1_pmul g (b :: f)
    have h1 := l1_padd (g.map (a * ·)) (0 :: pmul (b :: f) g)
    rw [l1_map] at h1
    have h2 : l1 (0 :: pmul (b :: f) g) = l1 (pmul (b :: f) g) := by simp [l1]
    rw [h2] at h1
    show l1 (padd (g.map (a * ·)) (0 :: pmul (b :: f) g)) ≤ (a.natAbs + l1 (b :: f)) * l1 g
    rw [Nat.add_mul]
    omega
theorem seen_small {f s g rs : List Int} {c r q : Int} {B C : Nat} (hs : IsSeen f r q s) (h : ∀ x, pev f x = c * prodR rs x * pev g x) (lf : f.length = rs.length + g.length) (hg : 0 < g.length) (b : ∀ y, y ∈ rs → (r - y).natAbs + q.natAbs ≤ B) (hC : l1 (sn r q g) ≤ C) :
    ∀ y, y ∈ s → y.natAbs ≤ c.natAbs * (B ^ rs.length * C) := by
  have key : ∀ l : List Int, (∀ y, y ∈ l → (r - y).natAbs + q.natAbs ≤ B) → ∃ t, t.length = l.length + g.length ∧ (∀ y, pev t y = prodR l (r + q * y) * pev g (r + q * y)) ∧ l1 t ≤ B ^ l.length * C := fun l => by
    induction l with
    | nil => exact fun _ => ⟨sn r q g, by rw [sn_len]; simp, fun y => by rw [sn_ev]; show _ = 1 * _; rw [Int.one_mul], by simpa using hC⟩
    | cons z l ih =>
      intro hb
      obtain ⟨t, l1', e1, b1⟩ := ih fun y hy => hb y (.tail _ hy)
      refine ⟨pmul [r - z, q] t, ?_, fun y => ?_, ?_⟩
      · have := pmul_len t (by omega) [r - z, q] (by simp)
        simp only [List.length_cons, List.length_nil] at this ⊢
        omega
      · rw [pmul_ev, e1]
        show (r - z + y * (q + y * 0)) * _ = (r + q * y - z) * prodR l _ * _
        grind
      · have h1 := l1_pmul t [r - z, q]
        have h2 : l1 [r - z, q] = (r - z).natAbs + q.natAbs := by simp [l1]
        have h3 := hb z (.head _)
        rw [h2] at h1
        have h4 := Nat.mul_le_mul h3 b1
        rw [List.length_cons, Nat.pow_succ, Nat.mul_assoc, Nat.mul_comm B C, ← Nat.mul_assoc, Nat.mul_comm _ B]
        exact Nat.le_trans h1 h4
  obtain ⟨t, lt, et, bt⟩ := key rs b
  have e : s = t.map (c * ·) := pev_inj (by rw [hs.len, lf, List.length_map, lt]) fun y => by rw [hs.ev, h, pev_map, et, Int.mul_assoc]
  intro y hy
  have h1 := l1_mem hy
  rw [e, l1_map] at h1
  exact Nat.le_trans h1 (Nat.mul_le_mul_left _ bt)
end Dr
namespace Dr
theorem pev_zero {x : Int} : ∀ {f : List Int}, (∀ y, y ∈ f → y = 0) → pev f x = 0
  | [], _ => rfl
  | a :: f, h => by
    simp only [pev]
    rw [h a (.head _), pev_zero fun y hy => h y (.tail _ hy), Int.mul_zero, Int.add_zero]
theorem pdv_zero {x : Int} : ∀ {f : List Int}, (∀ y, y ∈ f → y = 0) → pdv f x = 0
  | [], _ => rfl
  | a :: f, h => by
    simp only [pdv]
    rw [pev_zero fun y hy => h y (.tail _ hy), pdv_zero fun y hy => h y (.tail _ hy), Int.mul_zero, Int.add_zero]
end Dr
namespace L2
open PySem PySem.Spec PyProof.Rows
section
variable {X : Cx}
theorem op_mulW : OpR X (binaryOp .Mult) (rI IntMulOk fun i j => .int (i * j)) := opI fun _ _ _ _ _ _ _ hc q => mul_int q hc
def CDivW (_ j : Int) : Prop := 0 < j ∧ j.natAbs.log2 < 9000
theorem op_fdivW : OpR X (binaryOp .FloorDiv) (rI CDivW fun i j => .int (i / j)) := opI fun i j _ _ _ _ _ hc q => by
  have h1 : (0 : Int) < j := hc.1
  exact floordiv_int (by omega) (by rw [Int.fdiv_eq_ediv_of_nonneg i (by omega)]; exact q) (.inl (PyProof.noPylong_of_log2 hc.2))
end
def Itc (a c : Int) (n : Nat) : It := ⟨fun i _ => i < n, fun i H x H' => H' = H ∧ x = .int (a + i * c), fun i _ => n ≤ i⟩
theorem turn_rangeC {P : Program} {w : World} {K : PySem.W.Frag} {tg : Expr} (it : Addr) (lo c : Int) (n : Nat) : Turn P w K tg (Itc lo c n) [it] it (fun i h => IsRangeIter h it (lo + (i : Nat) * c) ((n : Int) - (i : Nat)) c) where
  mem := by simp
  obj := fun i h st b hb => by
    have e : b = it := by simpa using hb
    subst e
    exact ⟨_, st, fun v z => by
      have z' : Data.fields _ = Data.cell v := z
      cases z'⟩
  keep := fun i h h' st k => k it (by simp) _ st
  item := by
    intro X hP hw hK hc i pins s σ H E I hf st hg
    subst hP hw hK
    obtain ⟨f0, f1, f2, f3, f4, f5⟩ := hf it (by simp)
    have W := Walks.range (prog := X.prog) (w := X.w) (I.ok.hd hc) it lo c n
    refine W.item i s _ _ hg st fun v h' tk hv st' kk => ?_
    obtain ⟨t, rfl⟩ := hv
    have I1 : Inv X pins σ H { s with heap := h', toks := tk } := I.turned (fun b o hb e => kk b o (by simpa using hb) e) f0 f1 f3 f4 f5
    exact ⟨_, rfl, go_of (s := { s with heap := h', toks := tk }) (n := "range_iterator") st' rfl rfl (by decide) ⟨.int (lo + i * c), H, I1, ⟨t, rfl⟩, ⟨rfl, rfl⟩, st', fun b hb => (hf b hb).1⟩⟩
  done := by
    intro X hP hw hK hc i pins s σ H E I hf st hg
    subst hP hw hK
    obtain ⟨f0, f1, f2, f3, f4, f5⟩ := hf it (by simp)
    exact wpAny_pyNext_range_end (I.ok.hd hc) st (by have : n ≤ i := hg; omega) fun h' eb => ⟨rfl, I.turned (t' := s.toks) (fun b o hb e => eb b o hb e) f0 f1 f3 f4 f5⟩
  self := fun _ _ _ _ _ st h => wpAny_pyIter_rangeiter st h
section
variable {X : Cx} {tg : Expr}
def turns (a b c : Int) : Nat := if a < b then ((b - a - 1) / c + 1).toNat else 0
theorem rangeSize_pos {a b c : Int} (hc : 0 < c) : Builtin.Range.rangeSize a b c = ((turns a b c : Nat) : Int) := by
  unfold Builtin.Range.rangeSize turns
  rw [if_pos hc]
  split
  · have := Int.ediv_nonneg (show 0 ≤ b - a - 1 by omega) (show 0 ≤ c by omega)
    omega
  · rfl
theorem small_c {a b c : Int} (ha : -(2 ^ 60) ≤ a) (ha' : a < 2 ^ 60) (hb : -(2 ^ 60) ≤ b) (hb' : b < 2 ^ 60) (hc : 0 < c) (hc' : c < 1000) : Builtin.Range.small a b c = true := by
  have h1 : turns a b c < 2 ^ 62 := by
    unfold turns
    split
    · have := Int.ediv_le_self (a := b - a - 1) c (by omega)
      omega
    · decide
  have h2 : ((turns a b c : Nat) : Int) * c ≤ 2 ^ 61 + 2000 := by
    unfold turns
    split
    · have h0 := Int.ediv_nonneg (show 0 ≤ b - a - 1 by omega) (show 0 ≤ c by omega)
      rw [Int.toNat_of_nonneg (by omega), Int.add_mul, Int.one_mul]
      have := Int.ediv_mul_le (b - a - 1) (show c ≠ 0 by omega)
      omega
    · simp
  unfold Builtin.Range.small
  rw [rangeSize_pos hc]
  simp only [Builtin.Range.rangeFitsLong, Bool.and_eq_true, Bool.or_eq_true, decide_eq_true_eq, beq_iff_eq, show c > 0 from hc, if_true]
  omega
theorem range_itC {pins : List (Addr × Obj)} {σ : St} {H : Hp} {s : Shared} {R : It → Hp → Prop} {E : Value → Shared → Prop} {lo hi c : Int} {t u v : Tok} {tk : Nat} (I : Inv X pins σ H s) (h1 : -(2 ^ 60) ≤ lo) (h2 : lo < 2 ^ 60) (h3 : -(2 ^ 60) ≤ hi) (h4 : hi < 2 ^ 60) (h5 : 0 < c) (h6 : c < 1000)
    (q : R (Itc lo c (turns lo hi c)) H) : wpAny (model X.prog X.w) X.A (pyIter (.ref s.heap.objs.size)) (PIE X pins σ tg R) E { s with heap := s.heap.push { cls := .type "range", data := .fields #[.int lo t, .int hi u, .int c v] }, toks := tk } := by
  refine wpAny_pyIter_range (IsRange.new ..) (small_c h1 h2 h3 h4 h5 h6) ?_
  have I1 : Inv X pins σ H { s with heap := s.heap.push { cls := .type "range", data := .fields #[.int lo t, .int hi u, .int c v] }, toks := tk } := I.kept fun b o e => Heap.get?_push_of_some _ e
  refine ⟨(s.heap.push { cls := .type "range", data := .fields #[.int lo t, .int hi u, .int c v] }).objs.size, [(s.heap.push { cls := .type "range", data := .fields #[.int lo t, .int hi u, .int c v] }).objs.size], _, _, H, rfl,
    I1.kept (t' := tk) fun b o e => Heap.get?_push_of_some _ e, turn_rangeC _ lo c (turns lo hi c), ?_, fun b hb => ?_, q⟩
  · have e1 : lo + ((0 : Nat) : Int) * c = lo := by simp
    have e2 : ((turns lo hi c : Nat) : Int) - ((0 : Nat) : Int) = Builtin.Range.rangeSize lo hi c := by rw [rangeSize_pos h5]; simp
    show IsRangeIter _ _ (lo + ((0 : Nat) : Int) * c) (((turns lo hi c : Nat) : Int) - ((0 : Nat) : Int)) c
    rw [e1, e2]
    exact Heap.get?_push_size _ rfl
  · have e : b = (s.heap.push { cls := .type "range", data := .fields #[.int lo t, .int hi u, .int c v] }).objs.size := by simpa using hb
    subst e
    exact I1.fpOk (Nat.le_refl _) (I1.hok.fresh (Nat.le_refl _))
def iRng3 (ta : TA) : TI := fun σ H R => ta σ H fun vs H1 => ∃ i j c : Int, vs = [.int i, .int j, .int c] ∧ (-(2 ^ 60) ≤ i ∧ i < 2 ^ 60 ∧ -(2 ^ 60) ≤ j ∧ j < 2 ^ 60 ∧ 0 < c ∧ c < 1000) ∧ R (Itc i c (turns i j c)) H1
theorem pi_range3 {a : Expr} {es : List Expr} {ta : TA} {p pos : Pos} (hg : Gl X "range") (hm : X.mg "range" = none) (ha : PA X (a :: es) ta) (he : starEach (a :: es) X.env = (false, eval a X.env) :: starEach es X.env := by rfl) (hpl : (backTo pos (starEach es X.env)).any (·.1) = false := by rfl) :
    PI X tg (.Call (.Name "range" p) (a :: es) [] pos) (iRng3 ta) := by
  intro pins s σ H R I h
  refine Call_ (ld_blt I hg hm boot_range (PyProof.Rows.callWith_type1 (thn (ha pos pins s σ H _ I h) fun us s1 ⟨vs, H1, I1, r1, q1⟩ => ?_) he hpl))
  obtain ⟨i, j, c, e, ⟨q1, q2, q3, q4, q5, q6⟩, q⟩ := q1
  subst e
  cases r1 with
  | cons r rr =>
    cases rr with
    | cons r' rr =>
      cases rr with
      | cons r'' rr =>
        cases rr
        obtain ⟨t, rfl⟩ := r
        obtain ⟨t', rfl⟩ := r'
        obtain ⟨t'', rfl⟩ := r''
        exact call_range_3 (by omega) (range_itC I1 q1 q2 q3 q4 q5 q6 q) (.inl (PyProof.noPylong_small (by omega)))
end
theorem for_rangeC {lo c : Int} {n : Nat} {g : TG} {tb : TS} {D : Ends} {σ : St} {H : Hp} (Pv : Nat → St → Hp → Prop) (h0 : Pv 0 σ H)
    (hs : ∀ i σ H, i < n → Pv i σ H → g (.int (lo + i * c)) σ H fun σ2 H2 => tb { D with nx := Pv (i + 1), ct := Pv (i + 1), bk := D.nx } σ2 H2) (hd : ∀ σ H, Pv n σ H → D.nx σ H) :
    ∃ W : Nat → Nat → St → Hp → Prop, (∃ m, W 0 m σ H) ∧ ∀ i m σ H, W i m σ H →
      ((Itc lo c n).stop i H ∧ D.nx σ H) ∨ ((Itc lo c n).go i H ∧ ∃ N : St → Hp → Prop, (∀ σ' H', N σ' H' → ∃ m', m' < m ∧ W (i + 1) m' σ' H') ∧ ∀ x H', (Itc lo c n).yld i H x H' → g x σ H' fun σ2 H2 => tb { D with nx := N, ct := N, bk := D.nx } σ2 H2) := by
  refine ⟨fun i m σ H => m = n - i ∧ i ≤ n ∧ Pv i σ H, ⟨n, by simp, Nat.zero_le _, h0⟩, ?_⟩
  rintro i m σ H ⟨rfl, hi, p⟩
  by_cases hlt : i < n
  · refine .inr ⟨hlt, Pv (i + 1), fun σ' H' p' => ⟨n - (i + 1), by omega, rfl, hlt, p'⟩, fun x H' y => ?_⟩
    obtain ⟨e, y⟩ := y
    subst e y
    exact hs i σ _ hlt p
  · have e : i = n := by omega
    subst e
    exact .inl ⟨Nat.le_refl _, hd σ H p⟩
def clsV : V → Value
  | .ty n => .type n
  | .ref a => .ref a
  | _ => .none
def isCls : V → Bool
  | .ty _ => true
  | .ref _ => true
  | _ => false
section
variable {X : Cx}
theorem call_isinst : CallR X (.builtin "isinstance") (fun xs H Q => ∃ x y t b, xs = [x, y] ∧ isCls y = true ∧ TyOf X.K H x t ∧ PySem.W.kitOne X.K t (clsV y) = some b ∧ Q (.bl b) H) := by
  intro pins s σ H xs us Q I r h
  obtain ⟨x, y, t, b, rfl, hy, ty, e, q⟩ := h
  obtain ⟨u, w', rfl, rx, ry⟩ := vals2 r
  have ec : w' = clsV y := by
    cases y <;> first
      | (simp [isCls] at hy; done)
      | exact ry
  subst ec
  exact isinst_ok I rx ty e fun tk => ⟨.bl b, H, I.tok tk, rfl, q⟩
mutual
inductive DatV (K : PySem.W.Frag) (H : Hp) : V → PyData → Prop
  | non : DatV K H .non .none
  | bl (b : Bool) : DatV K H (.bl b) (.bool b)
  | int (i : Int) : DatV K H (.int i) (.int i)
  | str (x : Str) : DatV K H (.str x) (.str x)
  | lst {a : Addr} {xs : List V} {ds : List PyData} : SqL K H a xs → DatVs K H xs ds → DatV K H (.ref a) (.list ds)
  | tup {a : Addr} {xs : List V} {ds : List PyData} : SqT K H a xs → DatVs K H xs ds → DatV K H (.ref a) (.tuple ds)
inductive DatVs (K : PySem.W.Frag) (H : Hp) : List V → List PyData → Prop
  | nil : DatVs K H [] []
  | cons {x : V} {d : PyData} {xs : List V} {ds : List PyData} : DatV K H x d → DatVs K H xs ds → DatVs K H (x :: xs) (d :: ds)
end
theorem DatVs.ints {K : PySem.W.Frag} {H : Hp} : ∀ ns : List Int, DatVs K H (ns.map V.int) (ns.map PyData.int)
  | [] => .nil
  | n :: r => .cons (.int n) (DatVs.ints r)
variable {pins : List (Addr × Obj)} {σ : St} {H : Hp} {s : Shared}
mutual
theorem reads_of (I : Inv X pins σ H s) : ∀ {x : V} {d : PyData} {u : Value}, DatV X.K H x d → RelV x u → ∃ as, Reads s.heap u d as
  | _, _, _, .non, r => by cases r; exact ⟨_, .none⟩
  | _, _, _, .bl b, r => by cases r; exact ⟨_, .bool b⟩
  | _, _, _, .int i, r => by obtain ⟨t, rfl⟩ := r; exact ⟨_, .int i t⟩
  | _, _, _, .str x, r => by obtain ⟨t, rfl⟩ := r; exact ⟨_, .str x t⟩
  | _, _, _, .lst h q, r => by
    cases r
    obtain ⟨its, rv, pl, _⟩ := I.list h
    obtain ⟨o, ho, hc, n, hd⟩ := pl.isList
    obtain ⟨as, ra⟩ := readsAll_of I q rv
    exact ⟨_, .list ho hc hd (by simpa using ra)⟩
  | _, _, _, .tup h q, r => by
    cases r
    obtain ⟨its, rv, pl, _⟩ := I.tuple h
    obtain ⟨o, ho, hc, n, hd⟩ := pl
    obtain ⟨as, ra⟩ := readsAll_of I q rv
    exact ⟨_, .tuple ho hc hd (by simpa using ra)⟩
theorem readsAll_of (I : Inv X pins σ H s) : ∀ {xs : List V} {ds : List PyData} {us : List Value}, DatVs X.K H xs ds → Vals xs us → ∃ as, ReadsAll s.heap us ds as
  | _, _, _, .nil, r => by cases r; exact ⟨_, .nil⟩
  | _, _, _, .cons h q, r => by
    cases r with
    | cons r rr =>
      obtain ⟨as, ra⟩ := reads_of I h r
      obtain ⟨bs, rb⟩ := readsAll_of I q rr
      exact ⟨_, .cons ra rb⟩
end
def rEqD (K : PySem.W.Frag) (neg : Bool) : R2 := fun x y H Q => ∃ d e, DatV K H x d ∧ DatV K H y e ∧ SeqAt.shaped d = true ∧ SeqAt.shaped e = true ∧ Q (.bl (if neg then !PyData.eqv d e else PyData.eqv d e)) H
theorem op_neD (hu : X.A.units + 64 < cLine) : OpR X (compareOp .NotEq) (rEqD X.K true) := by
  intro pins s σ H x y v u Q I rx ry h
  obtain ⟨d, e, hd, he, sd, se, q⟩ := h
  obtain ⟨as, ra⟩ := reads_of I hd rx
  obtain ⟨bs, rb⟩ := reads_of I he ry
  exact ne_dataH ra rb sd se hu (fin_bl I q rfl)
theorem eqvAll_ints : ∀ ns ms : List Int, PyData.eqvAll (ns.map PyData.int) (ms.map PyData.int) = decide (ns = ms)
  | [], [] => by simp [PyData.eqvAll]
  | [], _ :: _ => by simp [PyData.eqvAll]
  | _ :: _, [] => by simp [PyData.eqvAll]
  | a :: r, b :: t => by
    simp only [List.map_cons, PyData.eqvAll, PyData.eqv, eqvAll_ints r t]
    by_cases h : a = b <;> by_cases h' : r = t <;> simp [h, h']
end
end L2
namespace Att
open PySem PySem.W PySem.Calls PyProof.Rows
theorem bits_of_lay {ns : List Int} (h : WData.layableAll [WData.list (ns.map WData.int)] = true) : ∀ n, n ∈ ns → Builtin.Int.intBits n ≤ 2 ^ 20 := fun n hn => by
  have h1 := layableW_arg h _ (List.mem_singleton.mpr rfl)
  have h2 := layableW_item h1 (.int n) (List.mem_map.mpr ⟨n, hn, rfl⟩)
  have h3 := (layableW_iff.mp h2).2.2
  simpa only [WData.weight, Builtin.Int.intBits] using h3
theorem attach_callB {l : OpenLaw} {n : Nat} {q : Program} {loose : List Str} {XP : (Str → Option Value) → Heap → Prop} {YP : World → Heap → Prop} {d : DefRec}
    (hn : l.most = some n) (hdf : d.params.defaults = [])
    (call : ∀ (w : World) (s₀ s₁ : Shared) (mg mb : Str → Option Value) (fa : Addr) (o : Obj) (pm cd doc : Value) (a : Addr) (vs : List Value) (ns : List Int),
      Ground q loose [] XP w s₀ mg mb s₁.heap → YP w s₁.heap →
      s₁.heap.get? fa = some o → o.data = .func (docDef d.name d.params d.body d.scope pm cd doc) → s₁.heap.CodeRec cd d.name → mg d.name = some (.ref fa) →
      s₁.heap.get? a = some { cls := .type "list", data := .seq vs.toArray } → IntsAre vs ns → ns.length ≤ n → (∀ n, n ∈ ns → Builtin.Int.intBits n ≤ 2 ^ 20) → s₁.gens = #[] →
      codeAny (model l.prog w) callerA (.call (.ref fa) ⟨[.ref a], []⟩) (fun r s' => r = .ok (.ret (.bool true)) ∧ OldK s₁.heap s'.heap ∧ s'.os = s₁.os ∧ AllBare s'.gens) s₁) :
    WalkO q loose XP YP l.row.toRowW d [] (fun f vs => PySem.call f vs) := by
  intro w s₀ s₁ mg mb G Y fa o pm cd doc dV kV ho hd hcd hD hmg hg args vals as hpre hlay hrd hwl hlo
  obtain rfl : dV = .none := Dflts.none hD hdf
  obtain rfl : kV = .none := Dflts.noKw hD
  obtain ⟨a, vs, ns, rfl, rfl, hobj, hints, hlen⟩ := script_of hn hpre hwl
  refine enter_call (codeAny_mono (call w s₀ s₁ mg mb fa o pm cd doc a vs ns G Y ho (fd_plain hd) hcd hmg hobj hints hlen (bits_of_lay hlay) hg) fun r s' hq => ?_)
  obtain ⟨rfl, h2, h3, h4⟩ := hq
  exact ⟨.inl ⟨.bool true, .bool true, [], rfl, fun _ => rfl, .bool true, post_true l _, fun _ => ⟨List.Pairwise.nil, fun _ hm => (nomatch hm)⟩⟩, h2, h3, h4⟩
end Att
namespace L2
open PySem PySem.Spec PyProof.Rows
def spLaw (K : PySem.W.Frag) : Sp := fun vs H Q _ => ∃ (a : Addr) (ns : List Int), vs = [.ref a] ∧ SqL K H a (ns.map V.int) ∧ ns.length ≤ 63 ∧ (∀ n, n ∈ ns → Builtin.Int.intBits n ≤ 2 ^ 20) ∧ ∀ H', Q (.bl true) H'
theorem walk_law {l : PySem.W.OpenLaw} {k : Nat} {q : Program} {loose : List Str} {XP : (Str → Option Value) → Heap → Prop} {YP : World → Heap → Prop} {d : DefRec} {K : Params → PySem.W.Frag} {CX : World → CXT}
    (hn : l.most = some 63) (hdf : d.params.defaults = []) (hr : Room k callerA)
    (hY : ∀ (w : World) (h : Heap), YP w h → (K w.params).In h)
    (hCX : ∀ (w : World) (H : Hp) (s : Shared) (e : Value) (s' : Shared), CX w [] H s (fun _ _ _ => False) e s' → False)
    (F : ∀ (w : World) (mg : Str → Option Value) (fa : Addr) (h : Heap), (K w.params).In h → h.Ns mainGlobals mg → mg d.name = some (.ref fa) →
      ∃ fd : FuncData, (∀ (s : Shared) (u : Value), BindsTo s fd ⟨[u], []⟩ [("script", u)]) ∧
        ∀ base : Heap, (K w.params).In base → base.Ns mainGlobals mg → FnOk l.prog w (K w.params) mg base (CX w) k fa fd ["script"] (spLaw (K w.params))) :
    PySem.W.WalkO q loose XP YP l.row.toRowW d [] (fun f vs => PySem.call f vs) := by
  refine Att.attach_callB hn hdf fun w s₀ s₁ mg mb fa o pm cd doc a vs ns G Y ho hd hcd hmg hobj hints hlen hbits hg => ?_
  have KX := hY w _ Y
  obtain ⟨fd, hb, hF⟩ := F w mg fa _ KX G.T.g hmg
  exact law_call KX G.T.g G.T.b G.T.builtins G.T.nolimit hg hobj hints (Nat.le_trans hlen (by decide)) hr hF hb (fun H hO hS => ⟨a, ns, rfl, hS, hlen, hbits, fun _ => rfl⟩) fun H e s' => hCX w H s₁ e s'
end L2
namespace L2
open PySem PySem.Spec PyProof.Rows
theorem adr {a b : Addr} (h : @Ne Nat a b) : a ≠ b := h
theorem ltN {h : Heap} {b : Addr} {o : Obj} (e : h.get? b = some o) : @LT.lt Nat instLTNat b h.objs.size := Heap.lt_size e
def ClOk (cells : List (Str × Addr)) : List (Str × Addr) → Prop
  | [] => True
  | y :: r => cells.lookup y.1 = some y.2 ∧ ClOk cells r
theorem ClOk.get {cells : List (Str × Addr)} : ∀ {cl : List (Str × Addr)}, ClOk cells cl → ∀ {x : Str} {c : Addr}, cl.lookup x = some c → cells.lookup x = some c
  | (y, d) :: r, ⟨h, hr⟩, x, c, e => by
    by_cases q : x = y
    · subst q
      simp only [List.lookup_cons, beq_self_eq_true] at e
      cases e
      exact h
    · have q' : (x == y) = false := by simpa using q
      simp only [List.lookup_cons, q'] at e
      exact ClOk.get hr e
def CapsOk (X : Cx) (sc : Scope) (cl : List (Str × Addr)) : List Nat → List Str → Prop
  | [], [] => True
  | j :: js, x :: xs => X.N[j]? = some x ∧ X.env.scope.names.lookup x = some .cell ∧ sc.names.lookup x = some .cell ∧ (cl.lookup x).isSome = true ∧ CapsOk X sc cl js xs
  | _, _ => False
def capV (caps : List Nat) (σ : St) : St := caps.map fun j => (σ[j]?).getD none
def compCx (X : Cx) (N : List Str) (scope : Scope) (cl : List (Str × Addr)) (C : Addr) (s : Shared) (H : Hp) (fp : List Addr) : Cx where
  prog := X.prog
  w := X.w
  K := X.K
  mg := X.mg
  base := X.base
  A := X.A
  N := N
  s₀ := s
  H₀ := H
  env := compEnvC scope cl C X.env
  outer := X.stack
  stack := X.stack
  ex := fp
  fn := fun _ => false
  calm := X.calm
  pn := []
  xe := fun _ _ => False
theorem mem_of_lookup {α : Type} {x : Str} {k : α} : ∀ {l : List (Str × α)}, l.lookup x = some k → (x, k) ∈ l
  | (y, j) :: r, e => by
    by_cases q : x = y
    · subst q
      simp only [List.lookup_cons, beq_self_eq_true] at e
      cases e
      exact .head _
    · have q' : (x == y) = false := by simpa using q
      simp only [List.lookup_cons, q'] at e
      exact .tail _ (mem_of_lookup e)
section
variable {X : Cx} {pins : List (Addr × Obj)} {σ : St} {H : Hp} {s : Shared} {N : List Str} {scope : Scope} {cl : List (Str × Addr)} {C : Addr} {fp : List Addr} {caps : List Nat} {xs : List Str}
theorem comp_ok (I : Inv X pins σ H s) (hcl : ClOk X.env.cells cl) (hk : scope.kind = .function) (hfp : ∀ b ∈ fp, FpOk X pins H b) (hlt : ∀ b ∈ fp, b < s.heap.objs.size)
    (hhas : ((relabel scope X.env).names.all fun y => !(y.2 == .cell || y.2 == .free) || (cl.lookup y.1).isSome) = true) (hC : s.heap.objs.size ≤ C) : (compCx X N scope cl C s H fp).Ok where
  mod := I.ok.mod
  kind := hk
  glob := I.ok.glob
  blt := I.ok.blt
  above := hC
  inj := fun x y c h1 h2 => I.ok.inj x y c (hcl.get h1) (hcl.get h2)
  has := fun x h => by
    have key : ∀ k : NameKind, (k = .cell ∨ k = .free) → (relabel scope X.env).names.lookup x = some k → ∃ c, cl.lookup x = some c := fun k hk e => by
      have h1 := List.all_eq_true.mp hhas _ (mem_of_lookup e)
      have h2 : (cl.lookup x).isSome = true := by
        rcases hk with rfl | rfl <;> simpa using h1
      exact Option.isSome_iff_exists.mp h2
    rcases h with h | h
    · exact key _ (.inl rfl) h
    · exact key _ (.inr rfl) h
  cab := fun x c h => by cases h
  hd := I.ok.hd
  frames := I.ok.frames
  stk := .inl rfl
  exf := fun b hb => ⟨fun z => by
      have h1 : @LT.lt Nat instLTNat b s.heap.objs.size := hlt b hb
      have z' : @Eq Nat b C := z
      have hC' : @LE.le Nat _ s.heap.objs.size C := hC
      omega, fun x c e => (hfp b hb).2.2.2.2.1 x c (hcl.get e)⟩
  bs := I.bs
  bsz := Nat.le_trans I.ok.bsz I.sz
  noex := fun b o e hb => by
    rcases (hfp b hb).2.2.2.1 with z | z
    · exact I.ok.noex b o e z
    · have h1 : @LT.lt Nat _ b X.base.objs.size := Heap.lt_size e
      have h2 := I.ok.bsz
      have z' : @LE.le Nat _ X.s₀.heap.objs.size b := z
      omega
  exfs := fun b hb z => by
    have h1 := I.stkSub b z
    rcases List.mem_cons.mp h1 with q | q
    · exact (hfp b hb).2.1 q
    · exact (hfp b hb).2.2.1 q
  funs := I.stack
  frf := I.stkFree
theorem cap_get : ∀ {caps : List Nat} {xs : List Str}, CapsOk X (relabel scope X.env) cl caps xs → ∀ {i : Nat} {x : Str} {v : V}, xs[i]? = some x → (capV caps σ)[i]? = some (some v) →
    ∃ j : Nat, X.N[j]? = some x ∧ σ[j]? = some (some v) ∧ X.env.scope.names.lookup x = some .cell ∧ (relabel scope X.env).names.lookup x = some .cell ∧ ∃ c, cl.lookup x = some c
  | [], [], _, i, x, v, h, _ => by simp at h
  | j :: js, y :: ys, ⟨h1, h2, h3, h4, hr⟩, 0, x, v, h, e => by
    simp only [List.getElem?_cons_zero, Option.some.injEq] at h
    subst h
    have e' : (σ[j]?).getD none = some v := by simpa [capV] using e
    refine ⟨j, h1, ?_, h2, h3, Option.isSome_iff_exists.mp h4⟩
    cases q : σ[j]? with
    | none => rw [q] at e'; cases e'
    | some o => rw [q] at e'; exact congrArg some e'
  | j :: js, y :: ys, ⟨_, _, _, _, hr⟩, i + 1, x, v, h, e => cap_get hr (by simpa using h) (by simpa [capV] using e)
theorem comp_start (I : Inv X pins σ H s) (hcl : ClOk X.env.cells cl) (hk : scope.kind = .function) (hfp : ∀ b ∈ fp, FpOk X pins H b) (hlt : ∀ b ∈ fp, b < s.heap.objs.size)
    (hhas : ((relabel scope X.env).names.all fun y => !(y.2 == .cell || y.2 == .free) || (cl.lookup y.1).isSome) = true) (hC : s.heap.objs.size ≤ C)
    (hcap : CapsOk X (relabel scope X.env) cl caps xs) (hlen : caps.length = xs.length) {x : Str} {h₁ : Heap} {t : Nat} {m : Str → Option Value} (hn : h₁.Ns C m) (kp : ∀ b o, s.heap.get? b = some o → h₁.get? b = some o) :
    Inv (compCx X (x :: xs) scope cl C s H fp) [] (none :: capV caps σ) H { s with heap := h₁, toks := t } where
  ok := comp_ok I hcl hk hfp hlt hhas hC
  os := rfl
  bare := I.bare
  base := Un.kept kp
  loc := by
    refine ⟨m, hn, fun i y v h1 h2 _ => ?_⟩
    cases i with
    | zero => simp at h2
    | succ i =>
      obtain ⟨j, e1, e2, e3, e4, c, e5⟩ := cap_get (X := X) (scope := scope) hcap (i := i) (by simpa [compCx] using h1) (by simpa using h2)
      obtain ⟨m₀, _, hl⟩ := I.loc
      obtain ⟨u, r, lk⟩ := hl j y v e1 e2 (.inr (.inl e3))
      refine ⟨u, r, .inr ⟨.inl e4, c, e5, ?_⟩⟩
      rcases lk with ⟨z, _⟩ | ⟨_, c', q1, q2⟩
      · have z' : X.env.scope.names.lookup y = some .local := z
        rw [e3] at z'
        cases z'
      · rw [hcl.get e5] at q1
        cases q1
        obtain ⟨o, ho, hd⟩ := q2
        exact ⟨o, kp _ _ ho, hd⟩
  cell := fun y c e => by
    obtain ⟨v, o, ho, hd⟩ := I.cell y c (hcl.get e)
    exact ⟨v, o, kp _ _ ho, hd⟩
  free := I.hok.fresh hC
  freeC := fun y c e => I.freeC y c (hcl.get e)
  pin := fun p hp => by
    have hp' : p ∈ ([] : List (Addr × Obj)) := hp
    cases hp'
  hok := I.hok.kept kp
  len := by simp [compCx, capV, hlen]
end
def PTs (X : Cx) (ifs : List Expr) (t : TT) : Prop :=
  ∀ (pins : List (Addr × Obj)) (s : Shared) (σ : St) (H : Hp) (Q : Bool → Hp → Prop), Inv X pins σ H s → t σ H Q →
    wpAny (model X.prog X.w) X.A (forIn ifs true fun c r => if r = true then do let ok ← isTrue c X.env (eval c X.env); pure (ForInStep.yield ok) else pure (ForInStep.yield r)) (TP X pins σ Q) X.xe s
theorem pts_nil {X : Cx} : PTs X [] (fun _ H Q => Q true H) := fun _ _ _ H _ I h => wpAny_tests_nil ⟨H, I, h⟩
theorem pts_one {X : Cx} {c : Expr} {t : TT} (h : PT X c t) : PTs X [c] t := fun pins s σ H Q I q => wpAny_tests_one (h pins s σ H Q I q)
def tComp (caps : List Nat) (wi : TI) (tt : TT) (te : TE) : TE := fun σ H Q => wi σ H fun J H1 => ∃ (n : Nat) (W : Nat → List V → Hp → Prop), n ≤ sizeLine ∧ W 0 [] H1 ∧ ∀ i ys H2, W i ys H2 →
  (J.stop i H2 ∧ ∀ p, H2 p = none → Q (.ref p) (upd H2 p (.lst ys))) ∨
  (J.go i H2 ∧ i < n ∧ ∀ x H3, J.yld i H2 x H3 → tt (some x :: capV caps σ) H3 fun b H4 => if b = true then te (some x :: capV caps σ) H4 fun v H5 => W (i + 1) (ys ++ [v]) H5 else W (i + 1) ys H4)
section
variable {prog : Program} {w : World} {A : Around} {R : Result → Shared → Prop} {s : Shared}
theorem comp_loop {elt target iter : Expr} {ifs : List Expr} {scope : Scope} {pos : Pos} {it acc : Value} {env : Env} (I : Nat → Shared → Prop)
    (turn : ∀ n s, I n s → wpAny (model prog w) A (pyNext it) (fun r s₁ => match r with
      | none => R (.ok .next) s₁
      | some v => wpAny (model prog w) A (letOwnedTupleGo target it v) (fun _ s₁ => wpAny (model prog w) A (assign target env v) (fun _ s₂ =>
          wpAny (model prog w) A (forIn ifs true fun c r => if r = true then do let ok ← isTrue c env (eval c env); pure (ForInStep.yield ok) else pure (ForInStep.yield r)) (fun ok s₃ =>
            if ok = true then wpAny (model prog w) A (eval elt env) (fun x s₄ =>
              wpAny (model prog w) A (call (.builtin "list.append") [acc, x]) (fun _ s₅ => ∃ m, m < n ∧ I m s₅) (fun _ _ => False) s₄) (fun _ _ => False) s₃
            else ∃ m, m < n ∧ I m s₃) (fun _ _ => False) s₂) (fun _ _ => False) s₁) (fun _ _ => False) s₁) (fun _ _ => False) s)
    (n : Nat) (h : I n s) :
    codeAny (model prog w) A (.compLoop (.ListComp elt [⟨target, iter, ifs, 0⟩] scope pos) 0 it acc env) R s := by
  refine codeAny_loop rfl I (fun n s hI => ?_) n h
  show wpAny _ A ((compTurn (.ListComp elt [⟨target, iter, ifs, 0⟩] scope pos) 0 it acc env).onRaise (fun x => do noteFrame x env; theTreesLotGoes x)) _ _ s
  refine wpAny_noted ?_
  rw [compTurn_list]
  refine wpAny_bind (wpAny_standAt (wpAny_bind (wpAny_mono (turn n s hI) (fun r s₁ h₁ => ?_) fun _ _ h' => h'.elim)))
  cases r with
  | none => exact wpAny_pure h₁
  | some v =>
    refine wpAny_bind (wpAny_mono h₁ (fun _ s₁ h₁ => ?_) fun _ _ h' => h'.elim)
    refine wpAny_bind (wpAny_mono h₁ (fun _ s₂ h₂ => wpAny_bind (wpAny_mono h₂ (fun ok s₃ h₃ => ?_) fun _ _ h' => h'.elim)) fun _ _ h' => h'.elim)
    cases ok with
    | false => exact wpAny_pure ⟨rfl, h₃⟩
    | true =>
      exact wpAny_bind (wpAny_bind (wpAny_mono h₃ (fun x s₄ h₄ => wpAny_bind (wpAny_mono h₄ (fun _ s₅ h₅ => wpAny_pure (wpAny_pure ⟨rfl, h₅⟩)) fun _ _ h' => h'.elim)) fun _ _ h' => h'.elim))
end
def Loose (X : Cx) (pins : List (Addr × Obj)) (H : Hp) (C : Addr) : Prop :=
  H C = none ∧ C ≠ X.env.locals ∧ X.s₀.heap.objs.size ≤ C ∧ (∀ x c, X.env.cells.lookup x = some c → c ≠ C) ∧ ∀ p ∈ X.pn ++ pins, p.1 ≠ C
theorem Inv.letGo {X : Cx} {pins : List (Addr × Obj)} {σ : St} {H : Hp} {s : Shared} {C : Addr} {h' : Heap} (I : Inv X pins σ H s) (l : Loose X pins H C) (k : Heap.SameBut C s.heap h') : Inv X pins σ H { s with heap := h' } :=
  I.turned (it := C) (t' := s.toks) (fun b o hb e => k.extBut b o hb e) l.1 l.2.1 (.inr l.2.2.1) l.2.2.2.1 l.2.2.2.2
section
variable {X : Cx}
theorem comp_block {elt iter : Expr} {x : Str} {px pos : Pos} {ifs : List Expr} {scope : Scope} {cl : List (Str × Addr)} {caps : List Nat} {xs : List Str} {tt : TT} {te : TE}
    (hc : X.calm = true) (hcl : ClOk X.env.cells cl) (hcap : CapsOk X (relabel scope X.env) cl caps xs) (hlen : caps.length = xs.length)
    (hkind : scope.kind = .function) (hcell : ∀ y ∈ scope.names, y.2 ≠ .cell)
    (hhas : ((relabel scope X.env).names.all fun y => !(y.2 == .cell || y.2 == .free) || (cl.lookup y.1).isSome) = true)
    (hx : (relabel scope X.env).names.lookup x = some .local) (hN : (x :: xs).Nodup)
    (ht : ∀ C s H fp, PTs (compCx X (x :: xs) scope cl C s H fp) ifs tt) (he : ∀ C s H fp, PE (compCx X (x :: xs) scope cl C s H fp) elt te)
    {pins : List (Addr × Obj)} {σ : St} {H1 : Hp} {s2 : Shared} {it : Addr} {fp : List Addr} {tn : Nat → Heap → Prop} {J : It} {Q : VK}
    (I2 : Inv X pins σ H1 s2) (T : Turn X.prog X.w X.K (.Name x px) J fp it tn) (st0 : tn 0 s2.heap) (hfp : ∀ b ∈ fp, FpOk X pins H1 b)
    (hq : ∃ (n : Nat) (W : Nat → List V → Hp → Prop), n ≤ sizeLine ∧ W 0 [] H1 ∧ ∀ i ys H2, W i ys H2 →
      (J.stop i H2 ∧ ∀ p, H2 p = none → Q (.ref p) (upd H2 p (.lst ys))) ∨
      (J.go i H2 ∧ i < n ∧ ∀ x H3, J.yld i H2 x H3 → tt (some x :: capV caps σ) H3 fun b H4 => if b = true then te (some x :: capV caps σ) H4 fun v H5 => W (i + 1) (ys ++ [v]) H5 else W (i + 1) ys H4))
    {RR : Value → Addr → Result → Shared → Prop}
    (hRR : ∀ s1 D C m H', Inv X pins σ H' s1 → s1.heap.Ns C m → Loose X pins H' C → Q (.ref D) H' → RR (.ref D) C (.ok .next) s1) :
    wpAny (model X.prog X.w) X.A (newList []) (fun acc s₃ => wpAny (model X.prog X.w) X.A (newFunctionEnv scope X.env.globals cl [] X.env.qual none .none (some X.env)) (fun cenv s₄ =>
      codeAny (model X.prog X.w) X.A (.compStart (.ListComp elt [⟨.Name x px, iter, ifs, 0⟩] scope pos) 0 (.ref it) acc { cenv with scope := relabel scope X.env }) (RR acc cenv.locals) s₄) X.xe s₃) X.xe s2 := by
  obtain ⟨n, W, hn, w0, hW⟩ := hq
  have hlt : ∀ b ∈ fp, b < s2.heap.objs.size := fun b hb => by
    obtain ⟨o, ho, _⟩ := T.obj 0 s2.heap st0 b hb
    exact Heap.lt_size ho
  refine wpAny_newObj_type (wpAny_newFunctionEnv hcell (by intro y hy; simp at hy) (fun h₁ hns₁ hsb₁ => ?_) hkind)
  dsimp only at hns₁ hsb₁ ⊢
  generalize hH2 : s2.heap.push { cls := .type "list", dict := none, data := .seq ([] : List Value).toArray } = G at hns₁ hsb₁ ⊢
  have hC : G.objs.size = s2.heap.objs.size + 1 := by rw [← hH2, Heap.size_push]
  have hDC : s2.heap.objs.size ≠ G.objs.size := by omega
  have old : ∀ b o, s2.heap.get? b = some o → h₁.get? b = some o := fun b o e => hsb₁.extBut b o (adr (by have h1 : @LT.lt Nat _ b s2.heap.objs.size := Heap.lt_size e; omega)) (Heap.get?_push_of_some _ (hH2 ▸ Heap.get?_push_of_some _ e))
  have hacc : h₁.get? s2.heap.objs.size = some { cls := .type "list", dict := none, data := .seq ([] : List Value).toArray } :=
    hsb₁.extBut _ _ hDC (Heap.get?_push_of_some _ (hH2 ▸ Heap.get?_push_size _ rfl))
  have I3 : Inv (compCx X (x :: xs) scope cl G.objs.size s2 H1 fp) [] (none :: capV caps σ) H1 { s2 with heap := h₁, toks := s2.toks + ([] : List (Str × Value)).length } :=
    comp_start I2 hcl hkind hfp hlt hhas (by omega) hcap hlen hns₁ old
  have st1 : tn 0 h₁ := T.keep 0 _ _ st0 fun b hb o e => old b o e
  have fpX : ∀ {pins' : List (Addr × Obj)} {H' : Hp} (b : Addr), b ∈ fp → H' b = none → (∀ p ∈ pins', p.1 ≠ b) → FpOk (compCx X (x :: xs) scope cl G.objs.size s2 H1 fp) pins' H' b := fun b hb hh hp =>
    ⟨hh, fun z => by have h1 : @LT.lt Nat _ b s2.heap.objs.size := hlt b hb; have z' : @Eq Nat b G.objs.size := z; omega, fun z => by
      rcases List.mem_cons.mp (I2.stkSub b z) with q | q
      · exact (hfp b hb).2.1 q
      · exact (hfp b hb).2.2.1 q, .inl hb, fun y c e => (hfp b hb).2.2.2.2.1 y c (hcl.get e), fun p hp' => hp p hp'⟩
  let XC := compCx X (x :: xs) scope cl G.objs.size s2 H1 fp
  have loop : ∀ s3 : Shared, s3 = { s2 with heap := h₁, toks := s2.toks + ([] : List (Str × Value)).length } →
      codeAny (model X.prog X.w) X.A (.compLoop (.ListComp elt [⟨.Name x px, iter, ifs, 0⟩] scope pos) 0 (.ref it) (.ref s2.heap.objs.size) (compEnvC scope cl G.objs.size X.env))
        (RR (.ref s2.heap.objs.size) G.objs.size) s3 := by
    rintro s3 rfl
    refine comp_loop (fun m s' => ∃ (i : Nat) (ys : List V) (Hn : Hp) (its : List Value) (k : Nat) (v0 : Option V), m = n + 1 - i ∧ i ≤ n ∧ ys.length ≤ i ∧ W i ys Hn ∧ Vals ys its ∧ tn i s'.heap ∧ (∀ b ∈ fp, Hn b = none) ∧
      Inv XC [(s2.heap.objs.size, { cls := .type "list", data := .seq its.toArray k })] (v0 :: capV caps σ) Hn s') ?_ (n + 1) ?_
    · rintro m s' ⟨i, ys, Hn, its, k, v0, rfl, hin, hyl, w, rv, st, hfn, J'⟩
      have pD := J'.pin _ (List.mem_append_right _ (List.mem_singleton.mpr rfl))
      have neD : ∀ b ∈ fp, ∀ p ∈ [((s2.heap.objs.size, ({ cls := .type "list", data := .seq its.toArray k } : Obj)))], p.1 ≠ b := fun b hb p hp z => by
        have h1 : @LT.lt Nat instLTNat b s2.heap.objs.size := hlt b hb
        rw [List.mem_singleton.mp hp] at z
        have z' : @Eq Nat s2.heap.objs.size b := z
        omega
      rcases hW i ys Hn w with ⟨hstop, fin⟩ | ⟨hgo, hi', hgo'⟩
      · -- it stops
        refine wpAny_mono (T.done XC rfl rfl rfl hc i _ s' _ Hn (fun _ _ => False) J' (fun b hb => fpX b hb (hfn b hb) (neD b hb)) st hstop) (fun r s1 hr => ?_) fun _ _ z => z
        obtain ⟨rfl, J1⟩ := hr
        obtain ⟨mC, hnC, _⟩ := J1.loc
        have pD1 := J1.pin _ (List.mem_append_right _ (List.mem_singleton.mpr rfl))
        have hD' : s1.heap.get? s2.heap.objs.size = some { cls := .type "list", data := .seq its.toArray k } := pD1.1
        have hHD : Hn s2.heap.objs.size = none := pD1.2.1
        have hHC : Hn G.objs.size = none := J1.free
        have un : Un (frs X.stack) fp H1 (upd Hn s2.heap.objs.size (.lst ys)) s2.heap s1.heap := by
          have u := J1.base
          have lt2 : ∀ b o, s2.heap.get? b = some o → b ≠ G.objs.size ∧ b ≠ s2.heap.objs.size := fun b o e => by
            have h1 := ltN e
            exact ⟨adr (by omega), adr (by omega)⟩
          refine ⟨u.keep, u.slot, fun b o e n1 n2 => ?_, u.there, fun b zs e => ?_, fun b o u' e => ?_, fun b ps e => ?_⟩
          · rw [upd_ne (lt2 b o e).2]
            exact u.free b o e n1 n2
          · have q := u.tups b zs e
            rw [upd_ne (fun z => by rw [z, hHD] at q; cases q)]
            exact q
          · have q := u.frzs b o u' e
            rw [upd_ne (fun z => by rw [z, hHD] at q; cases q)]
            exact q
          · obtain ⟨more, q⟩ := u.tbls b ps e
            refine ⟨more, ?_⟩
            rw [upd_ne (fun z => by rw [z, hHD] at q; cases q)]
            exact q
        have hok : HOk X.prog X.w (upd Hn s2.heap.objs.size (.lst ys)) s1.heap := fun a o e => by
          by_cases ha : a = s2.heap.objs.size
          · subst ha
            rw [upd_same] at e
            cases e
            exact ⟨by omega, its, k, rv, hD'⟩
          · rw [upd_ne ha] at e
            have q : ObjOk X.prog X.w Hn s1.heap a o := J1.hok a o e
            refine q.stay (fun b u' hb e' => e') (fun b e' => ?_) fun b zs e' => ?_
            · rw [upd_ne (fun z => by rw [z, hHD] at e'; cases e')]; exact e'
            · rw [upd_ne (fun z => by rw [z, hHD] at e'; cases e')]; exact e'
        have I4 : Inv X pins σ (upd Hn s2.heap.objs.size (.lst ys)) s1 :=
          I2.call' (ch := fp) J1.os un hok J1.bare fun b hb => ⟨(hfp b hb).2.2.2.1, (hfp b hb).2.1, (hfp b hb).2.2.2.2.1, (hfp b hb).2.2.2.2.2⟩
        refine hRR s1 _ _ mC _ I4 hnC ⟨by rw [upd_ne (Ne.symm hDC)]; exact hHC, fun z => ?_, by have := I2.sz; omega, fun y c e z => ?_, fun p hp z => ?_⟩ (fin _ hHD)
        · have h1 : @LT.lt Nat instLTNat X.env.locals s2.heap.objs.size := I2.lt
          have z' : @Eq Nat G.objs.size X.env.locals := z
          omega
        · obtain ⟨v', o', ho', _⟩ := I2.cell y c e
          have h1 := ltN ho'
          have z' : @Eq Nat c G.objs.size := z
          omega
        · have h1 := ltN (I2.pin p hp).1
          have z' : @Eq Nat p.1 G.objs.size := z
          omega
      · -- a turn
        refine wpAny_mono (T.item XC rfl rfl rfl hc i _ s' _ Hn (fun _ _ => False) J' (fun b hb => fpX b hb (hfn b hb) (neD b hb)) st hgo) (fun r s1 hr => ?_) fun _ _ z => z
        obtain ⟨u, rfl, hr⟩ := hr
        refine wpAny_mono hr (fun _ s2' h2 => ?_) fun _ _ z => z
        obtain ⟨v, H3, J1, ru, hy, st1', hf3⟩ := h2
        refine wpAny_assign_Name ?_
        refine store_ok2 (v := v) J1 hN (i := 0) rfl (.inl hx) ru (fun s4 J2 hsb => ?_) (.inr hx)
        have st4 : tn (i + 1) s4.heap := by
          obtain ⟨a, hsa, ha⟩ := hsb
          refine T.keep _ _ _ st1' fun b hb o e => hsa.extBut b o (fun z => ?_) e
          rcases ha with ha | ha
          · have h1 : @LT.lt Nat instLTNat b s2.heap.objs.size := hlt b hb
            have ha' : @Eq Nat a G.objs.size := ha
            have z' : @Eq Nat b a := z
            omega
          · exact (hfp b hb).2.2.2.2.1 x a (hcl.get ha) z.symm
        have J2' : Inv XC [(s2.heap.objs.size, { cls := .type "list", data := .seq its.toArray k })] (some v :: capV caps σ) H3 s4 := J2
        have ob4 : ∀ b ∈ fp, ∃ o, s4.heap.get? b = some o ∧ ∀ v, o.data ≠ .cell v := fun b hb => T.obj _ _ st4 b hb
        have J3 := J2'.pinned (fun b hb => fpX b hb (hf3 b hb) (neD b hb)) ob4
        have tnAt : ∀ {σ' : St} {H' : Hp} {s'' : Shared}, Inv XC ([(s2.heap.objs.size, ({ cls := .type "list", data := .seq its.toArray k } : Obj))] ++ pinsAt fp s4.heap) σ' H' s'' → tn (i + 1) s''.heap ∧ ∀ b ∈ fp, H' b = none := fun J4 =>
          ⟨T.keep _ _ _ st4 fun b hb o e => (J4.pin (b, o) (List.mem_append_right _ (List.mem_append_right _ (mem_pinsAt hb e)))).1, fun b hb => by
            obtain ⟨o, e, _⟩ := ob4 b hb
            exact (J4.pin (b, o) (List.mem_append_right _ (List.mem_append_right _ (mem_pinsAt hb e)))).2.1⟩
        refine thn (ht _ _ _ _ _ s4 _ H3 _ J3 (hgo' v H3 hy)) fun ok s5 ⟨H4, J4, q4⟩ => ?_
        cases ok with
        | false =>
          rw [if_neg (by simp)]
          have q4' : W (i + 1) ys H4 := q4
          obtain ⟨a1, a2⟩ := tnAt J4
          exact ⟨n + 1 - (i + 1), by omega, i + 1, ys, H4, its, k, some v, rfl, by omega, by omega, q4', rv, a1, a2, J4.unpinned⟩
        | true =>
          rw [if_pos rfl]
          have q4' : te (some v :: capV caps σ) H4 fun v H5 => W (i + 1) (ys ++ [v]) H5 := q4
          refine thn (he _ _ _ _ _ s5 _ H4 _ J4 q4') fun uv s6 ⟨y, H5, J5, ry, q5⟩ => ?_
          obtain ⟨a1, a2⟩ := tnAt J5
          have pD6 := J5.pin _ (List.mem_append_right _ (List.mem_append_left _ (List.mem_singleton.mpr rfl)))
          have hl6 := rv.length
          refine call_meets F.slot_list_append ⟨_, pD6.1, rfl⟩ F.entry_list_append (F.args_list_append_2 _ _) (PySem.list_append s2.heap.objs.size its.toArray k uv (by rw [List.size_toArray]; omega)) ⟨pD6.1, ?_⟩
          have J6 : Inv XC [] (some v :: capV caps σ) H5 s6 := J5.pins_of fun p hp => by cases hp
          have ne6 : s2.heap.objs.size ∉ fp := fun z => by have h1 : @LT.lt Nat instLTNat s2.heap.objs.size s2.heap.objs.size := hlt _ z; omega
          have J7 : Inv XC [] (some v :: capV caps σ) H5 { s6 with heap := s6.heap.update s2.heap.objs.size (Obj.mapSeq fun xs => xs.push uv), toks := s6.toks } :=
            J6.turned (it := s2.heap.objs.size) (fun b o hb e => by rw [Heap.get?_update_other _ _ (Ne.symm hb)]; exact e) pD6.2.1 (fun z => hDC z) (.inr (Nat.le_refl _)) (fun y c e z => by
              have e1 := I2.cell y c (hcl.get e)
              obtain ⟨v', o', ho', _⟩ := e1
              have h1 := ltN ho'
              have z' : @Eq Nat c s2.heap.objs.size := z
              omega) (fun p hp => by cases hp)
          refine ⟨n + 1 - (i + 1), by omega, i + 1, ys ++ [y], H5, its ++ [uv], k + 1, some v, rfl, by omega, by rw [List.length_append, List.length_singleton]; omega, q5, rv.append (.cons ry .nil), ?_, a2, ?_⟩
          · refine T.keep _ _ _ a1 fun b hb o e => ?_
            show (s6.heap.update s2.heap.objs.size _).get? b = some o
            rw [Heap.get?_update_other _ _ (fun z => ne6 (by rw [z]; exact hb))]
            exact e
          · refine J7.pins_of fun p hp => ?_
            rw [List.mem_singleton.mp hp]
            refine ⟨?_, pD6.2.1, fun z => hDC z, pD6.2.2.2.1, fun v' z => ?_⟩
            · show (s6.heap.update s2.heap.objs.size _).get? s2.heap.objs.size = _
              rw [Heap.get?_update_self _ pD6.1 rfl]
              simp only [Obj.mapSeq, List.push_toArray]
              rw [if_neg (by simp)]
            · have z' : Data.seq _ _ = Data.cell v' := z
              cases z'
    · exact ⟨0, [], H1, [], 0, none, by omega, by omega, by simp, w0, .nil, st1, fun b hb => (hfp b hb).1, I3.pins_of fun p hp => by
        rw [List.mem_singleton.mp hp]
        refine ⟨hacc, I2.hok.fresh (Nat.le_refl _), fun z => hDC z, fun z => ?_, fun v' z => ?_⟩
        · have := I2.stkFree _ z
          rcases List.mem_cons.mp (I2.stkSub _ z) with q | q
          · have h1 : @LT.lt Nat instLTNat X.env.locals s2.heap.objs.size := I2.lt
            have z' : @Eq Nat s2.heap.objs.size X.env.locals := q
            omega
          · exact I2.nofs (Nat.le_refl _) q
        · have z' : Data.seq _ _ = Data.cell v' := z
          cases z'⟩
  exact codeAny_compStart_list (loop _ rfl) (T.self X.A 0 _ _ _ st1 (loop _ rfl))
theorem pe_comp {elt iter : Expr} {x : Str} {px pos : Pos} {ifs : List Expr} {scope : Scope} {cl : List (Str × Addr)} (caps : List Nat) (xs : List Str) {wi : TI} {tt : TT} {te : TE}
    (hc : X.calm = true) (hclos : closureFor scope X.env = pure cl) (hcl : ClOk X.env.cells cl) (hcap : CapsOk X (relabel scope X.env) cl caps xs) (hlen : caps.length = xs.length)
    (hkind : scope.kind = .function) (hcell : ∀ y ∈ scope.names, y.2 ≠ .cell) (hnames : ∀ y ∈ scope.names, y.2 = .local → scope.names.lookup y.1 = some .local)
    (hhas : ((relabel scope X.env).names.all fun y => !(y.2 == .cell || y.2 == .free) || (cl.lookup y.1).isSome) = true)
    (hx : (relabel scope X.env).names.lookup x = some .local) (hN : (x :: xs).Nodup)
    (hi : PI X (.Name x px) iter wi) (ht : ∀ C s H fp, PTs (compCx X (x :: xs) scope cl C s H fp) ifs tt) (he : ∀ C s H fp, PE (compCx X (x :: xs) scope cl C s H fp) elt te)
    (hs : ∀ v, foldedSetIterable iter X.env v = pure v := by intro _; rfl) : PE X (.ListComp elt [⟨.Name x px, iter, ifs, 0⟩] scope pos) (tComp caps wi tt te) := by
  intro pins s σ H Q I h
  rw [eval_ListComp]
  refine wpAny_comprehension_free (use := none) rfl hs hclos hkind hnames (wpAny_mono (hi pins s σ H _ I h) (fun v s1 h1 => wpAny_mono h1 (fun itv s2 h2 => ?_) fun _ _ e => e) fun _ _ e => e)
  obtain ⟨it, fp, tn, J, H1, rfl, I2, T, st0, hfp, hq⟩ := h2
  refine comp_block (RR := fun acc C => compPost (model X.prog X.w) X.A X.xe none (EP X pins σ Q) acc C) hc hcl hcap hlen hkind hcell hhas hx hN ht he I2 T st0 hfp hq ?_
  intro s1 D C m H' I4 hn l q
  exact ⟨m, hn, fun h' hsb => ⟨.ref D, H', I4.letGo l hsb, rfl, q⟩⟩
theorem ps_comp {elt iter : Expr} {x y : Str} {px py pos spos : Pos} {ifs : List Expr} {scope : Scope} {cl : List (Str × Addr)} {k : Nat} (caps : List Nat) (xs : List Str) {wi : TI} {tt : TT} {te : TE}
    (hsw : swapsWith (.ListComp elt [⟨.Name x px, iter, ifs, 0⟩] scope pos) (some (.Name y py)) spos.line X.env = pure true)
    (hNX : X.N.Nodup) (hk : X.N[k]? = some y) (hy : X.env.scope.names.lookup y = some .local)
    (hc : X.calm = true) (hclos : closureFor scope X.env = pure cl) (hcl : ClOk X.env.cells cl) (hcap : CapsOk X (relabel scope X.env) cl caps xs) (hlen : caps.length = xs.length)
    (hkind : scope.kind = .function) (hcell : ∀ y ∈ scope.names, y.2 ≠ .cell) (hnames : ∀ y ∈ scope.names, y.2 = .local → scope.names.lookup y.1 = some .local)
    (hhas : ((relabel scope X.env).names.all fun y => !(y.2 == .cell || y.2 == .free) || (cl.lookup y.1).isSome) = true)
    (hx : (relabel scope X.env).names.lookup x = some .local) (hN : (x :: xs).Nodup)
    (hi : PI X (.Name x px) iter wi) (ht : ∀ C s H fp, PTs (compCx X (x :: xs) scope cl C s H fp) ifs tt) (he : ∀ C s H fp, PE (compCx X (x :: xs) scope cl C s H fp) elt te)
    (hs : ∀ v, foldedSetIterable iter X.env v = pure v := by intro _; rfl) : PS X (.Assign [.Name y py] (.ListComp elt [⟨.Name x px, iter, ifs, 0⟩] scope pos) spos) (tAsg (tComp caps wi tt te) (gName k)) := by
  intro pins s σ H D I h
  rw [exec_Assign_Name_used _ _ _ _ hsw]
  refine wpAny_bind (wpAny_standAt (wpAny_bind ?_))
  show wpAny _ X.A (do let _ ← comprehension (.ListComp elt [⟨.Name x px, iter, ifs, 0⟩] scope pos) scope X.env _ (newList []) false (eval iter X.env) (some (assign (.Name y py) X.env))) _ _ s
  refine wpAny_bind (wpAny_mono (wpAny_comprehension_free (use := some (assign (.Name y py) X.env)) (Q := fun _ s' => SP X pins D .next s') rfl hs hclos hkind hnames
    (wpAny_mono (hi pins s σ H _ I h) (fun xv s₁ h₁ => wpAny_mono h₁ (fun itv s2 h2 => ?_) fun _ _ e => e) fun _ _ e => e)) (fun _ s' hq => wpAny_pure (wpAny_pure hq)) fun _ _ e => e)
  obtain ⟨it, fp, tn, J, H1, rfl, I2, T, st0, hfp, hq⟩ := h2
  refine comp_block (Q := fun v H1 => gName k v σ H1 D.nx) (RR := fun acc C => compPost (model X.prog X.w) X.A X.xe (some (assign (.Name y py) X.env)) (fun _ s' => SP X pins D .next s') acc C) hc hcl hcap hlen hkind hcell hhas hx hN ht he I2 T st0 hfp hq ?_
  intro s1 Da C m H' I4 hn l q
  show wpAny _ X.A (assign (.Name y py) X.env (.ref Da)) _ _ s1
  refine wpAny_assign_Name (store_ok2 (v := .ref Da) I4 hNX hk (.inl hy) rfl (fun s4 I5 hsb => ?_) (.inr hy))
  obtain ⟨a, hsa, ha⟩ := hsb
  have hCa : C ≠ a := by
    rcases ha with ha | ha
    · rw [ha]; exact l.2.1
    · exact Ne.symm (l.2.2.2.1 y a ha)
  refine ⟨m, hn.sameBut hsa hCa, fun h' hsb => ⟨_, H', I5.letGo l hsb, q⟩⟩
end
end L2
namespace L2
open PySem PySem.Spec PyProof.Rows
theorem same_new {H : Hp} {p : Addr} (h : H p = none) (o : HO) : Same H (upd H p o) := fun b u q => by rw [upd_ne (ne_of_none q h)]; exact q
structure Def (P : Program) (w : World) (K : PySem.W.Frag) (mg : Str → Option Value) (base : Heap) (x : Str) (k : Nat) (ps : List Str) (sp : Sp) : Prop where
  ex : ∃ (f : Addr) (fd : FuncData), FnOk P w K mg base CX0 k f fd ps sp ∧ Binds K fd ps [] ∧ PySem.W.keepIn K (.ref f) = true ∧ mg x = some (.ref f)
theorem def_mk {P : Program} {w : World} {K : PySem.W.Frag} {mg : Str → Option Value} {base : Heap} {x qual : Str} {st : Stmt} {f : Addr} {fd : FuncData} {k : Nat} {ps : List Str} {sp : Sp} (F : Fun K x qual st f fd)
    (ok : FnOk P w K mg base CX0 k f fd ps sp) (b : Binds K fd ps []) (m : mg x = some (.ref f)) : Def P w K mg base x k ps sp := ⟨⟨f, fd, ok, b, F.kp, m⟩⟩
section
variable {X : Cx} {x : Str} {j k : Nat} {ps : List Str} {sp : Sp} {p pos : Pos} {e : Expr} {es : List Expr} {t : TA}
theorem pe_def (D : Def X.prog X.w X.K X.mg X.base x j ps sp) (hr : Room k X.A) (hg : Gl X x) (ha : PA X (e :: es) t) (hjk : j ≤ k := by decide) (hdb : (x == ("__debug__" : Str)) = false := by decide)
    (he : starEach (e :: es) X.env = (false, eval e X.env) :: starEach es X.env := by rfl) (hpl : (backTo pos (starEach es X.env)).any (·.1) = false := by rfl) :
    PE X (.Call (.Name x p) (e :: es) [] pos) (tCall sp [] E0 t) := by
  obtain ⟨f, fd, ok, b, kp, m⟩ := D.ex
  exact pe_call ok (hr.mono hjk) hg m kp b .nil pass0 ha hdb he hpl
end
end L2
namespace L2
open PySem PySem.Spec PyProof.Rows
def tJoin (t : TS) : TS := fun D σ H => ∃ R : St → Hp → Prop, (∀ σ' H', R σ' H' → D.nx σ' H') ∧ t { D with nx := R } σ H
theorem ps_join {X : Cx} {st : Stmt} {t : TS} (h : PS X st t) : PS X st (tJoin t) := by
  intro pins s σ H D I ⟨R, hR, q⟩
  refine thn (h pins s σ H _ I q) fun f s' hq => ?_
  cases f with
  | next =>
    obtain ⟨σ', H', I', r⟩ := hq
    exact ⟨σ', H', I', hR _ _ r⟩
  | brk => exact hq
  | cont => exact hq
  | ret v => exact hq
end L2
namespace L2
open PySem PySem.Spec PyProof.Rows
theorem bt_isinstance : bootBuiltins "isinstance" = some (.builtin "isinstance") := by decide +kernel
theorem bt_min : bootBuiltins "min" = some (.builtin "min") := by decide +kernel
theorem bt_max : bootBuiltins "max" = some (.builtin "max") := by decide +kernel
theorem bt_int : bootBuiltins "int" = some (.type "int") := by decide +kernel
theorem bt_str : bootBuiltins "str" = some (.type "str") := by decide +kernel
theorem bt_reversed : bootBuiltins "reversed" = some (.type "reversed") := by decide +kernel
def cInts : List Expr → Option (List Int)
  | [] => some []
  | .Constant (.int i) _ _ :: r => (cInts r).map (i :: ·)
  | _ => none
theorem pa_ints {X : Cx} : ∀ {es : List Expr} {ns : List Int}, cInts es = some ns → PA X es (fun _ H Q => Q (ns.map V.int) H)
  | [], ns, h => by
    simp only [cInts, Option.some.injEq] at h
    subst h
    exact pa_nil
  | e :: es, ns, h => by
    cases e with
    | Constant c k p =>
      cases c with
      | int i =>
        simp only [cInts, Option.map_eq_some_iff] at h
        obtain ⟨ms, h1, rfl⟩ := h
        have q := pa_cons (X := X) (e := .Constant (.int i) k p) pe_int (pa_ints h1) rfl
        exact q
      | _ => simp [cInts] at h
    | _ => simp [cInts] at h
theorem int_pow_le {a b : Int} (h0 : 0 ≤ a) (h : a ≤ b) : ∀ n : Nat, a ^ n ≤ b ^ n
  | 0 => by simp
  | n + 1 => by
    rw [Int.pow_succ, Int.pow_succ]
    have h1 := int_pow_le h0 h n
    have h2 : 0 ≤ a ^ n := Int.pow_nonneg h0
    exact Int.mul_le_mul h1 h h0 (Int.le_trans h2 h1)
end L2
namespace L2
open PySem PySem.Spec PyProof.Rows
theorem ps_eq {X : Cx} {st st' : Stmt} {t : TS} (e : st = st') (h : PS X st' t) : PS X st t := by subst e; exact h
theorem ps_setInts {X : Cx} {st : Stmt} {i : Nat} {x : Str} {es : List Expr} {ns : List Int} {p1 p2 pos : Pos} (e : st = .Assign [.Name x p1] (.List es p2) pos) (hc : cInts es = some ns) (hN : X.N.Nodup) (hi : X.N[i]? = some x) (hx : Loc X.env.scope x)
    (hf : X.fn x = true ∨ X.env.scope.names.lookup x = some .local) : PS X st (tAsg (tLst fun _ H Q => Q (ns.map V.int) H) (gName i)) := by
  subst e
  exact ps_set hN hi hx (pe_lst (pa_ints hc)) rfl hf
end L2
namespace L2
open PySem PySem.Spec PyProof.Rows
def ForIt (J : It) (g : TG) (tb : TS) (D : Ends) (σ : St) (H : Hp) : Prop := ∃ W : Nat → Nat → St → Hp → Prop, (∃ m, W 0 m σ H) ∧ ∀ i m σ H, W i m σ H →
  (J.stop i H ∧ D.nx σ H) ∨ (J.go i H ∧ ∃ N : St → Hp → Prop, (∀ σ' H', N σ' H' → ∃ m', m' < m ∧ W (i + 1) m' σ' H') ∧ ∀ x H', J.yld i H x H' → g x σ H' fun σ2 H2 => tb { D with nx := N, ct := N, bk := D.nx } σ2 H2)
theorem w_for {wi : TI} {g : TG} {tb : TS} {D : Ends} {σ : St} {H : Hp} : tFor wi g tb D σ H = wi σ H fun J H1 => ForIt J g tb D σ H1 := rfl
section
variable {lo c : Int} {n : Nat} {K : PySem.W.Frag} {a : Addr} {xs : List V} {g : TG} {tb : TS} {D : Ends} {σ : St} {H : Hp}
theorem forR (Pv : Nat → St → Hp → Prop) (h0 : Pv 0 σ H)
    (hs : ∀ i σ H, i < n → Pv i σ H → g (.int (lo + i)) σ H fun σ2 H2 => tb { D with nx := Pv (i + 1), ct := Pv (i + 1), bk := D.nx } σ2 H2) (hd : ∀ σ H, Pv n σ H → D.nx σ H) : ForIt (Itr lo n) g tb D σ H := for_range Pv h0 hs hd
theorem forC (Pv : Nat → St → Hp → Prop) (h0 : Pv 0 σ H)
    (hs : ∀ i σ H, i < n → Pv i σ H → g (.int (lo + i * c)) σ H fun σ2 H2 => tb { D with nx := Pv (i + 1), ct := Pv (i + 1), bk := D.nx } σ2 H2) (hd : ∀ σ H, Pv n σ H → D.nx σ H) : ForIt (Itc lo c n) g tb D σ H := for_rangeC Pv h0 hs hd
theorem forL (xs : List V) (Pv : Nat → St → Hp → Prop) (h0 : Pv 0 σ H) (hl : ∀ i σ H, i ≤ xs.length → Pv i σ H → SqL K H a xs)
    (hs : ∀ i x σ H, xs[i]? = some x → Pv i σ H → g x σ H fun σ2 H2 => tb { D with nx := Pv (i + 1), ct := Pv (i + 1), bk := D.nx } σ2 H2) (hd : ∀ σ H, Pv xs.length σ H → D.nx σ H) : ForIt (Itl K a) g tb D σ H := for_list Pv h0 hl hs hd
theorem forI (ns : List Int) (Pv : Nat → St → Hp → Prop) (h0 : Pv 0 σ H) (hl : ∀ i σ H, Pv i σ H → SqL K H a (ns.map V.int))
    (hs : ∀ i (x : Int) σ H, ns[i]? = some x → Pv i σ H → g (.int x) σ H fun σ2 H2 => tb { D with nx := Pv (i + 1), ct := Pv (i + 1), bk := D.nx } σ2 H2) (hd : ∀ σ H, Pv ns.length σ H → D.nx σ H) : ForIt (Itl K a) g tb D σ H := by
  refine forL (ns.map V.int) Pv h0 (fun i σ H _ h => hl i σ H h) (fun i v σ H hv p => ?_) (fun σ H p => hd σ H (by rw [List.length_map] at p; exact p))
  rw [List.getElem?_map] at hv
  cases z : ns[i]? with
  | none => rw [z] at hv; cases hv
  | some x =>
    rw [z] at hv
    cases hv
    exact hs i x σ H z p
end
theorem whB {c : TT} {tb : TS} {D : Ends} {σ : St} {H : Hp} (W : Nat → St → Hp → Prop) (m : Nat) (h0 : W m σ H) (hs : ∀ m σ H, W m σ H →
    c σ H fun b H1 => if b = true then ∃ N : St → Hp → Prop, (∀ σ' H', N σ' H' → ∃ m', m' < m ∧ W m' σ' H') ∧ tb { D with nx := N, ct := N, bk := D.nx } σ H1 else D.nx σ H1) : tWhile c tb D σ H := ⟨W, ⟨m, h0⟩, hs⟩
theorem Same.up {H H' : Hp} (g : Same H H') {p : Addr} (hp : H p = none) (o : HO) : Same H (upd H' p o) := fun b u q => by rw [upd_ne (ne_of_none q hp)]; exact g b u q
theorem joinB {t : TS} {D : Ends} {σ : St} {H : Hp} (R : St → Hp → Prop) (h : t { D with nx := R } σ H) (hR : ∀ σ' H', R σ' H' → D.nx σ' H') : tJoin t D σ H := ⟨R, hR, h⟩
theorem sc_ii {a b : Int} : scal (.int a) (.int b) = true := rfl
theorem sc_bb {a b : Bool} : scal (.bl a) (.bl b) = true := rfl
theorem sc_in {a : Int} : scal (.int a) .non = true := rfl
theorem sc_ni {a : Int} : scal .non (.int a) = true := rfl
theorem sc_ss {a b : Str} : scal (.str a) (.str b) = true := rfl
theorem sc_nn : scal .non .non = true := rfl
theorem sc_bn {a : Bool} : scal (.bl a) .non = true := rfl
theorem sc_is {a : Int} {b : Str} : scal (.int a) (.str b) = true := rfl
theorem kit_int_int (K : PySem.W.Frag) : PySem.W.kitOne K (.type "int") (.type "int") = some true := by unfold PySem.W.kitOne; rw [if_pos (by decide)]
theorem kit_int_bool (K : PySem.W.Frag) : PySem.W.kitOne K (.type "int") (.type "bool") = some false := by unfold PySem.W.kitOne; rw [if_neg (by decide)]; kernel_rfl
theorem kit_int_str (K : PySem.W.Frag) : PySem.W.kitOne K (.type "int") (.type "str") = some false := by unfold PySem.W.kitOne; rw [if_neg (by decide)]; kernel_rfl
theorem kit_int_list (K : PySem.W.Frag) : PySem.W.kitOne K (.type "int") (.type "list") = some false := by unfold PySem.W.kitOne; rw [if_neg (by decide)]; kernel_rfl
theorem kit_int_tuple (K : PySem.W.Frag) : PySem.W.kitOne K (.type "int") (.type "tuple") = some false := by unfold PySem.W.kitOne; rw [if_neg (by decide)]; kernel_rfl
theorem kit_int_dict (K : PySem.W.Frag) : PySem.W.kitOne K (.type "int") (.type "dict") = some false := by unfold PySem.W.kitOne; rw [if_neg (by decide)]; kernel_rfl
theorem kit_bool_int (K : PySem.W.Frag) : PySem.W.kitOne K (.type "bool") (.type "int") = some true := by unfold PySem.W.kitOne; rw [if_neg (by decide)]; kernel_rfl
theorem kit_bool_bool (K : PySem.W.Frag) : PySem.W.kitOne K (.type "bool") (.type "bool") = some true := by unfold PySem.W.kitOne; rw [if_pos (by decide)]
theorem kit_bool_str (K : PySem.W.Frag) : PySem.W.kitOne K (.type "bool") (.type "str") = some false := by unfold PySem.W.kitOne; rw [if_neg (by decide)]; kernel_rfl
theorem kit_bool_list (K : PySem.W.Frag) : PySem.W.kitOne K (.type "bool") (.type "list") = some false := by unfold PySem.W.kitOne; rw [if_neg (by decide)]; kernel_rfl
theorem kit_bool_tuple (K : PySem.W.Frag) : PySem.W.kitOne K (.type "bool") (.type "tuple") = some false := by unfold PySem.W.kitOne; rw [if_neg (by decide)]; kernel_rfl
theorem kit_bool_dict (K : PySem.W.Frag) : PySem.W.kitOne K (.type "bool") (.type "dict") = some false := by unfold PySem.W.kitOne; rw [if_neg (by decide)]; kernel_rfl
theorem kit_NoneType_int (K : PySem.W.Frag) : PySem.W.kitOne K (.type "NoneType") (.type "int") = some false := by unfold PySem.W.kitOne; rw [if_neg (by decide)]; kernel_rfl
theorem kit_NoneType_bool (K : PySem.W.Frag) : PySem.W.kitOne K (.type "NoneType") (.type "bool") = some false := by unfold PySem.W.kitOne; rw [if_neg (by decide)]; kernel_rfl
theorem kit_NoneType_str (K : PySem.W.Frag) : PySem.W.kitOne K (.type "NoneType") (.type "str") = some false := by unfold PySem.W.kitOne; rw [if_neg (by decide)]; kernel_rfl
theorem kit_NoneType_list (K : PySem.W.Frag) : PySem.W.kitOne K (.type "NoneType") (.type "list") = some false := by unfold PySem.W.kitOne; rw [if_neg (by decide)]; kernel_rfl
theorem kit_NoneType_tuple (K : PySem.W.Frag) : PySem.W.kitOne K (.type "NoneType") (.type "tuple") = some false := by unfold PySem.W.kitOne; rw [if_neg (by decide)]; kernel_rfl
theorem kit_NoneType_dict (K : PySem.W.Frag) : PySem.W.kitOne K (.type "NoneType") (.type "dict") = some false := by unfold PySem.W.kitOne; rw [if_neg (by decide)]; kernel_rfl
theorem kit_str_int (K : PySem.W.Frag) : PySem.W.kitOne K (.type "str") (.type "int") = some false := by unfold PySem.W.kitOne; rw [if_neg (by decide)]; kernel_rfl
theorem kit_str_bool (K : PySem.W.Frag) : PySem.W.kitOne K (.type "str") (.type "bool") = some false := by unfold PySem.W.kitOne; rw [if_neg (by decide)]; kernel_rfl
theorem kit_str_str (K : PySem.W.Frag) : PySem.W.kitOne K (.type "str") (.type "str") = some true := by unfold PySem.W.kitOne; rw [if_pos (by decide)]
theorem kit_str_list (K : PySem.W.Frag) : PySem.W.kitOne K (.type "str") (.type "list") = some false := by unfold PySem.W.kitOne; rw [if_neg (by decide)]; kernel_rfl
theorem kit_str_tuple (K : PySem.W.Frag) : PySem.W.kitOne K (.type "str") (.type "tuple") = some false := by unfold PySem.W.kitOne; rw [if_neg (by decide)]; kernel_rfl
theorem kit_str_dict (K : PySem.W.Frag) : PySem.W.kitOne K (.type "str") (.type "dict") = some false := by unfold PySem.W.kitOne; rw [if_neg (by decide)]; kernel_rfl
abbrev bnames : List String := ["int", "bool", "str", "list", "tuple", "dict"]
def isiT (a b : String) : Option Bool := if b ∈ bnames then some (a == b || (a == "bool" && b == "int")) else none
theorem isi_int {K : PySem.W.Frag} {b : String} {v : Bool} (h : isiT "int" b = some v) : PySem.W.kitOne K (.type "int") (.type b) = some v := by
  unfold isiT at h
  split at h
  · rename_i z
    cases h
    simp only [bnames, List.mem_cons, List.not_mem_nil, or_false] at z
    rcases z with rfl | rfl | rfl | rfl | rfl | rfl
    · exact kit_int_int K
    · exact kit_int_bool K
    · exact kit_int_str K
    · exact kit_int_list K
    · exact kit_int_tuple K
    · exact kit_int_dict K
  · cases h
theorem isi_bool {K : PySem.W.Frag} {b : String} {v : Bool} (h : isiT "bool" b = some v) : PySem.W.kitOne K (.type "bool") (.type b) = some v := by
  unfold isiT at h
  split at h
  · rename_i z
    cases h
    simp only [bnames, List.mem_cons, List.not_mem_nil, or_false] at z
    rcases z with rfl | rfl | rfl | rfl | rfl | rfl
    · exact kit_bool_int K
    · exact kit_bool_bool K
    · exact kit_bool_str K
    · exact kit_bool_list K
    · exact kit_bool_tuple K
    · exact kit_bool_dict K
  · cases h
theorem isi_NoneType {K : PySem.W.Frag} {b : String} {v : Bool} (h : isiT "NoneType" b = some v) : PySem.W.kitOne K (.type "NoneType") (.type b) = some v := by
  unfold isiT at h
  split at h
  · rename_i z
    cases h
    simp only [bnames, List.mem_cons, List.not_mem_nil, or_false] at z
    rcases z with rfl | rfl | rfl | rfl | rfl | rfl
    · exact kit_NoneType_int K
    · exact kit_NoneType_bool K
    · exact kit_NoneType_str K
    · exact kit_NoneType_list K
    · exact kit_NoneType_tuple K
    · exact kit_NoneType_dict K
  · cases h
theorem isi_str {K : PySem.W.Frag} {b : String} {v : Bool} (h : isiT "str" b = some v) : PySem.W.kitOne K (.type "str") (.type b) = some v := by
  unfold isiT at h
  split at h
  · rename_i z
    cases h
    simp only [bnames, List.mem_cons, List.not_mem_nil, or_false] at z
    rcases z with rfl | rfl | rfl | rfl | rfl | rfl
    · exact kit_str_int K
    · exact kit_str_bool K
    · exact kit_str_str K
    · exact kit_str_list K
    · exact kit_str_tuple K
    · exact kit_str_dict K
  · cases h
def isiV : V → String → Option Bool
  | .int _, n => isiT "int" n
  | .bl _, n => isiT "bool" n
  | .non, n => isiT "NoneType" n
  | .str _, n => isiT "str" n
  | _, _ => none
def isiO : HO → String → Option Bool
  | .lst _, n => isiT "list" n
  | .tup _, n => isiT "tuple" n
  | .dK _, n => isiT "dict" n
  | _, _ => none
section
variable {X : Cx}
theorem call_isiS : CallR X (.builtin "isinstance") (fun xs H Q => ∃ x n, xs = [x, .ty n] ∧ ∃ b, isiV x n = some b ∧ Q (.bl b) H) := by
  intro pins s σ H xs us Q I r h
  obtain ⟨x, n, rfl, b, e, q⟩ := h
  refine call_isinst pins s σ H _ us Q I r ?_
  cases x with
  | int i => exact ⟨_, _, _, b, rfl, rfl, .int i, isi_int e, q⟩
  | bl i => exact ⟨_, _, _, b, rfl, rfl, .bl i, isi_bool e, q⟩
  | non => exact ⟨_, _, _, b, rfl, rfl, .non, isi_NoneType e, q⟩
  | str i => exact ⟨_, _, _, b, rfl, rfl, .str i, isi_str e, q⟩
  | _ => cases e
end
theorem isv_int_int {i : Int} : isiV (.int i) "int" = some true := (by decide : isiT "int" "int" = _)
theorem isv_int_bool {i : Int} : isiV (.int i) "bool" = some false := (by decide : isiT "int" "bool" = _)
theorem isv_int_str {i : Int} : isiV (.int i) "str" = some false := (by decide : isiT "int" "str" = _)
theorem isv_int_list {i : Int} : isiV (.int i) "list" = some false := (by decide : isiT "int" "list" = _)
theorem isv_int_tuple {i : Int} : isiV (.int i) "tuple" = some false := (by decide : isiT "int" "tuple" = _)
theorem isv_int_dict {i : Int} : isiV (.int i) "dict" = some false := (by decide : isiT "int" "dict" = _)
theorem isv_bool_int {i : Bool} : isiV (.bl i) "int" = some true := (by decide : isiT "bool" "int" = _)
theorem isv_bool_bool {i : Bool} : isiV (.bl i) "bool" = some true := (by decide : isiT "bool" "bool" = _)
theorem isv_bool_str {i : Bool} : isiV (.bl i) "str" = some false := (by decide : isiT "bool" "str" = _)
theorem isv_bool_list {i : Bool} : isiV (.bl i) "list" = some false := (by decide : isiT "bool" "list" = _)
theorem isv_bool_tuple {i : Bool} : isiV (.bl i) "tuple" = some false := (by decide : isiT "bool" "tuple" = _)
theorem isv_bool_dict {i : Bool} : isiV (.bl i) "dict" = some false := (by decide : isiT "bool" "dict" = _)
theorem isv_NoneType_int  : isiV (.non) "int" = some false := by decide
theorem isv_NoneType_bool  : isiV (.non) "bool" = some false := by decide
theorem isv_NoneType_str  : isiV (.non) "str" = some false := by decide
theorem isv_NoneType_list  : isiV (.non) "list" = some false := by decide
theorem isv_NoneType_tuple  : isiV (.non) "tuple" = some false := by decide
theorem isv_NoneType_dict  : isiV (.non) "dict" = some false := by decide
theorem isv_str_int {i : Str} : isiV (.str i) "int" = some false := (by decide : isiT "str" "int" = _)
theorem isv_str_bool {i : Str} : isiV (.str i) "bool" = some false := (by decide : isiT "str" "bool" = _)
theorem isv_str_str {i : Str} : isiV (.str i) "str" = some true := (by decide : isiT "str" "str" = _)
theorem isv_str_list {i : Str} : isiV (.str i) "list" = some false := (by decide : isiT "str" "list" = _)
theorem isv_str_tuple {i : Str} : isiV (.str i) "tuple" = some false := (by decide : isiT "str" "tuple" = _)
theorem isv_str_dict {i : Str} : isiV (.str i) "dict" = some false := (by decide : isiT "str" "dict" = _)
theorem iso_list_int {xs : List V} : isiO (.lst xs) "int" = some false := (by decide : isiT "list" "int" = _)
theorem iso_list_bool {xs : List V} : isiO (.lst xs) "bool" = some false := (by decide : isiT "list" "bool" = _)
theorem iso_list_str {xs : List V} : isiO (.lst xs) "str" = some false := (by decide : isiT "list" "str" = _)
theorem iso_list_list {xs : List V} : isiO (.lst xs) "list" = some true := (by decide : isiT "list" "list" = _)
theorem iso_list_tuple {xs : List V} : isiO (.lst xs) "tuple" = some false := (by decide : isiT "list" "tuple" = _)
theorem iso_list_dict {xs : List V} : isiO (.lst xs) "dict" = some false := (by decide : isiT "list" "dict" = _)
theorem iso_tuple_int {xs : List V} : isiO (.tup xs) "int" = some false := (by decide : isiT "tuple" "int" = _)
theorem iso_tuple_bool {xs : List V} : isiO (.tup xs) "bool" = some false := (by decide : isiT "tuple" "bool" = _)
theorem iso_tuple_str {xs : List V} : isiO (.tup xs) "str" = some false := (by decide : isiT "tuple" "str" = _)
theorem iso_tuple_list {xs : List V} : isiO (.tup xs) "list" = some false := (by decide : isiT "tuple" "list" = _)
theorem iso_tuple_tuple {xs : List V} : isiO (.tup xs) "tuple" = some true := (by decide : isiT "tuple" "tuple" = _)
theorem iso_tuple_dict {xs : List V} : isiO (.tup xs) "dict" = some false := (by decide : isiT "tuple" "dict" = _)
theorem iso_dict_int {xs : List (Key × V)} : isiO (.dK xs) "int" = some false := (by decide : isiT "dict" "int" = _)
theorem iso_dict_bool {xs : List (Key × V)} : isiO (.dK xs) "bool" = some false := (by decide : isiT "dict" "bool" = _)
theorem iso_dict_str {xs : List (Key × V)} : isiO (.dK xs) "str" = some false := (by decide : isiT "dict" "str" = _)
theorem iso_dict_list {xs : List (Key × V)} : isiO (.dK xs) "list" = some false := (by decide : isiT "dict" "list" = _)
theorem iso_dict_tuple {xs : List (Key × V)} : isiO (.dK xs) "tuple" = some false := (by decide : isiT "dict" "tuple" = _)
theorem iso_dict_dict {xs : List (Key × V)} : isiO (.dK xs) "dict" = some true := (by decide : isiT "dict" "dict" = _)
end L2
namespace L2
open PySem PySem.Spec PyProof.Rows
def CompIt (J : It) (caps : List Nat) (tt : TT) (te : TE) (σ : St) (H : Hp) (Q : VK) : Prop := ∃ (n : Nat) (W : Nat → List V → Hp → Prop), n ≤ sizeLine ∧ W 0 [] H ∧ ∀ i ys H2, W i ys H2 →
  (J.stop i H2 ∧ ∀ p, H2 p = none → Q (.ref p) (upd H2 p (.lst ys))) ∨
  (J.go i H2 ∧ i < n ∧ ∀ x H3, J.yld i H2 x H3 → tt (some x :: capV caps σ) H3 fun b H4 => if b = true then te (some x :: capV caps σ) H4 fun v H5 => W (i + 1) (ys ++ [v]) H5 else W (i + 1) ys H4)
theorem w_comp {caps : List Nat} {wi : TI} {tt : TT} {te : TE} {σ : St} {H : Hp} {Q : VK} : tComp caps wi tt te σ H Q = wi σ H fun J H1 => CompIt J caps tt te σ H1 Q := rfl
section
variable {lo : Int} {n : Nat} {K : PySem.W.Frag} {a : Addr} {caps : List Nat} {tt : TT} {te : TE} {σ : St} {H : Hp} {Q : VK}
theorem compR (Pv : Nat → List V → Hp → Prop) (hn : n ≤ sizeLine) (h0 : Pv 0 [] H)
    (hs : ∀ i ys H, i < n → Pv i ys H → tt (some (.int (lo + i)) :: capV caps σ) H fun b H4 => if b = true then te (some (.int (lo + i)) :: capV caps σ) H4 fun v H5 => Pv (i + 1) (ys ++ [v]) H5 else Pv (i + 1) ys H4)
    (hd : ∀ ys H, Pv n ys H → ∀ p, H p = none → Q (.ref p) (upd H p (.lst ys))) : CompIt (Itr lo n) caps tt te σ H Q := by
  refine ⟨n, fun i ys H => i ≤ n ∧ Pv i ys H, hn, ⟨Nat.zero_le _, h0⟩, ?_⟩
  rintro i ys H2 ⟨hi, p⟩
  by_cases hlt : i < n
  · refine .inr ⟨hlt, hlt, ?_⟩
    rintro x H3 ⟨rfl, rfl⟩
    have key := hs i ys H3 hlt p
    have e1 : ∀ H5 zs, Pv (i + 1) zs H5 → i + 1 ≤ n ∧ Pv (i + 1) zs H5 := fun _ _ h => ⟨hlt, h⟩
    have e2 : (fun (b : Bool) (H4 : Hp) => if b = true then te (some (.int (lo + i)) :: capV caps σ) H4 fun v H5 => Pv (i + 1) (ys ++ [v]) H5 else Pv (i + 1) ys H4) = fun b H4 => if b = true then te (some (.int (lo + i)) :: capV caps σ) H4 fun v H5 => i + 1 ≤ n ∧ Pv (i + 1) (ys ++ [v]) H5 else i + 1 ≤ n ∧ Pv (i + 1) ys H4 := by
      funext b H4
      have z : i + 1 ≤ n := hlt
      simp only [z, true_and]
    rw [e2] at key
    exact key
  · have e : i = n := by omega
    subst e
    exact .inl ⟨Nat.le_refl _, hd ys H2 p⟩
theorem compI (ns : List Int) (Pv : Nat → List V → Hp → Prop) (hn : ns.length ≤ sizeLine) (h0 : Pv 0 [] H) (hl : ∀ i ys H, Pv i ys H → SqL K H a (ns.map V.int))
    (hs : ∀ i (x : Int) ys H, ns[i]? = some x → Pv i ys H → tt (some (.int x) :: capV caps σ) H fun b H4 => if b = true then te (some (.int x) :: capV caps σ) H4 fun v H5 => Pv (i + 1) (ys ++ [v]) H5 else Pv (i + 1) ys H4)
    (hd : ∀ ys H, Pv ns.length ys H → ∀ p, H p = none → Q (.ref p) (upd H p (.lst ys))) : CompIt (Itl K a) caps tt te σ H Q := by
  refine ⟨ns.length, fun i ys H => i ≤ ns.length ∧ Pv i ys H, hn, ⟨Nat.zero_le _, h0⟩, ?_⟩
  rintro i ys H2 ⟨hi, p⟩
  have hS := hl i ys H2 p
  by_cases hlt : i < ns.length
  · obtain ⟨x, hx⟩ : ∃ x, ns[i]? = some x := ⟨ns[i], List.getElem?_eq_getElem hlt⟩
    have hv : (ns.map V.int)[i]? = some (.int x) := by rw [List.getElem?_map, hx]; rfl
    refine .inr ⟨⟨_, _, hS, hv⟩, hlt, ?_⟩
    rintro y H3 ⟨rfl, hy⟩
    have hxy : y = .int x := (Option.some.inj (hv.symm.trans (hy _ hS))).symm
    subst hxy
    have key := hs i x ys H3 hx p
    have e2 : (fun (b : Bool) (H4 : Hp) => if b = true then te (some (.int x) :: capV caps σ) H4 fun v H5 => Pv (i + 1) (ys ++ [v]) H5 else Pv (i + 1) ys H4) = fun b H4 => if b = true then te (some (.int x) :: capV caps σ) H4 fun v H5 => i + 1 ≤ ns.length ∧ Pv (i + 1) (ys ++ [v]) H5 else i + 1 ≤ ns.length ∧ Pv (i + 1) ys H4 := by
      funext b H4
      have z : i + 1 ≤ ns.length := hlt
      simp only [z, true_and]
    rw [e2] at key
    exact key
  · have e : i = ns.length := by omega
    subst e
    exact .inl ⟨⟨_, hS, by rw [List.length_map]; exact Nat.le_refl _⟩, hd ys H2 p⟩
end
theorem cx_K {CX : CXT} {P : Program} {w : World} {K : PySem.W.Frag} {mg : Str → Option Value} {base : Heap} {N : List Str} {qual : Str} {scope : Scope} {f : Addr} {cd : Value} {A : Around} {outer : List Env} {s : Shared} {H : Hp} {E : XK} : (cxOf CX P w K mg base N qual scope f cd A outer s H E).K = K := rfl
theorem cc_K {X : Cx} {N : List Str} {scope : Scope} {cl : List (Str × Addr)} {C : Addr} {s : Shared} {H : Hp} {fp : List Addr} : (compCx X N scope cl C s H fp).K = X.K := rfl
end L2
namespace Rv
open PySem PySem.Spec PyProof.Rows
section
variable {prog : Program} {w : World} {A : Around} {E : Value → Shared → Prop} {s : Shared}
end
section
variable {prog : Program} {w : World} {A : Around} {E : Value → Shared → Prop} {s : Shared}
end
end Rv
namespace L2
open PySem PySem.Spec PyProof.Rows
def Itv (K : PySem.W.Frag) (a : Addr) (n : Nat) : It :=
  ⟨fun i H => i < n ∧ ∃ xs, SqL K H a xs ∧ xs.length = n, fun i H x H' => H' = H ∧ ∀ xs, SqL K H a xs → xs[n - 1 - i]? = some x, fun i _ => n ≤ i⟩
theorem turn_rev {P : Program} {w : World} {K : PySem.W.Frag} {tg : Expr} (a it : Addr) (n : Nat) : Turn P w K tg (Itv K a n) [it] it (fun i h => i ≤ n ∧ h.IsRevIter it a ((n : Int) - 1 - (i : Int))) where
  mem := by simp
  obj := fun i h st b hb => by
    have e : b = it := by simpa using hb
    subst e
    obtain ⟨_, o, e, c, d⟩ := st
    exact ⟨o, e, fun v z => by rw [d] at z; cases z⟩
  keep := fun i h h' st k => ⟨st.1, st.2.at fun o e => k it (by simp) o e⟩
  item := by
    intro X hP hw hK hc i pins s σ H E I hf st hg
    subst hP hw hK
    obtain ⟨hi, xs, hq, hn⟩ := hg
    obtain ⟨its, rv, p, hz⟩ := I.list hq
    have hlt : n - 1 - i < xs.length := by omega
    have hx : xs[n - 1 - i]? = some xs[n - 1 - i] := List.getElem?_eq_getElem hlt
    obtain ⟨u, hu, ru⟩ := rv.get hx
    obtain ⟨f0, f1, f2, f3, f4, f5⟩ := hf it (by simp)
    have st2 := st.2
    rw [show (n : Int) - 1 - (i : Int) = ((n - 1 - i : Nat) : Int) by omega] at st2
    refine wpAny_pyNext_rev_item st2 p.isList (x := u) (by simpa using hu) fun h' st' sb => ?_
    have I1 : Inv X pins σ H { s with heap := h' } := I.turned (t' := s.toks) (fun b o hb e => (sb.2 b hb).trans e) f0 f1 f3 f4 f5
    rw [show ((n - 1 - i : Nat) : Int) - 1 = (n : Int) - 1 - ((i + 1 : Nat) : Int) by omega] at st'
    obtain ⟨o, e, c, d⟩ := id st'
    exact ⟨u, rfl, go_of (s := { s with heap := h' }) e c d (by decide) ⟨_, H, I1, ru, ⟨rfl, fun ys hy => by rw [I.list_inj hy hq]; exact hx⟩, ⟨hi, st'⟩, fun b hb => (hf b hb).1⟩⟩
  done := by
    intro X hP hw hK hc i pins s σ H E I hf st hg
    subst hP hw hK
    obtain ⟨f0, f1, f2, f3, f4, f5⟩ := hf it (by simp)
    have hg' : n ≤ i := hg
    have st2 := st.2
    rw [show (n : Int) - 1 - (i : Int) = -1 by have := st.1; omega] at st2
    exact wpAny_pyNext_rev_end (I.ok.hd hc) st2 fun h' eb => ⟨rfl, I.turned (t' := s.toks) (fun b o hb e => eb b o hb e) f0 f1 f3 f4 f5⟩
  self := fun _ _ _ _ _ st h => wpAny_pyIter_revIter st.2 h
section
variable {X : Cx} {tg e : Expr} {te : TE} {p p2 pos pos2 : Pos}
theorem ev_rev {pins : List (Addr × Obj)} {σ : St} {H : Hp} {s : Shared} {R : Addr → List V → Hp → Prop} (hg : Gl X "reversed") (hm : X.mg "reversed" = none) (he : PE X e te) (I : Inv X pins σ H s)
    (h : te σ H fun x H1 => ∃ a xs, x = .ref a ∧ SqL X.K H1 a xs ∧ R a xs H1)
    (hs : starEach [e] X.env = (false, eval e X.env) :: starEach [] X.env := by rfl) :
    wpAny (model X.prog X.w) X.A (eval (.Call (.Name "reversed" p) [e] [] pos) X.env) (fun v s1 => ∃ it a xs H1, v = .ref it ∧ Inv X pins σ H1 s1 ∧ s1.heap.IsRevIter it a ((xs.length : Int) - 1) ∧ FpOk X pins H1 it ∧ SqL X.K H1 a xs ∧ a ≠ it ∧ R a xs H1) X.xe s := by
  refine wpAny_Call_Name_kw (ld_blt I hg hm bt_reversed ?_ (by decide) (by decide))
  refine PyProof.Rows.callWith_type1 (thn (pa_cons he pa_nil hs pos pins s σ H (fun vs H1 => ∃ a xs, vs = [.ref a] ∧ SqL X.K H1 a xs ∧ R a xs H1) I ?_) fun us s1 ⟨vs, H1, I1, r1, q1⟩ => ?_) hs rfl
  · show te σ H _
    have e2 : (fun x H1 => tNil σ H1 fun xs H2 => (fun vs H1 => ∃ a ys, vs = [V.ref a] ∧ SqL X.K H1 a ys ∧ R a ys H1) (x :: xs) H2) = fun x H1 => ∃ a xs, x = V.ref a ∧ SqL X.K H1 a xs ∧ R a xs H1 := by
      funext x H1
      simp only [tNil, List.cons.injEq, and_true]
    have := h
    rw [← e2] at this
    exact this
  · obtain ⟨a, xs, rfl, hq, hR⟩ := q1
    obtain ⟨u, rfl, ru⟩ := vals1 r1
    cases ru
    obtain ⟨its, rv, pl, hz⟩ := I1.list hq
    refine call_reversed_list pl.isList ?_
    have hl := rv.length
    obtain ⟨o, ho, _⟩ := id pl.isList
    refine ⟨s1.heap.objs.size, a, xs, H1, rfl, I1.kept (t' := s1.toks) fun b o e => Heap.get?_push_of_some _ e, ⟨_, Heap.get?_push_size _ rfl, rfl, ?_⟩, I1.fpOk (Nat.le_refl _) (I1.hok.fresh (Nat.le_refl _)), hq, Nat.ne_of_lt (Heap.lt_size ho), hR⟩
    simp only [revObj, List.size_toArray]
    rw [← hl]
def iRev (K : PySem.W.Frag) (tl : TE) : TI := fun σ H R => tl σ H fun x H1 => ∃ a xs, x = .ref a ∧ SqL K H1 a xs ∧ R (Itv K a xs.length) H1
theorem pi_rev (hg : Gl X "reversed") (hm : X.mg "reversed" = none) (he : PE X e te) (hs : starEach [e] X.env = (false, eval e X.env) :: starEach [] X.env := by rfl) : PI X tg (.Call (.Name "reversed" p) [e] [] pos) (iRev X.K te) := by
  intro pins s σ H R I h
  refine thn (ev_rev hg hm he I h hs) fun v s1 ⟨it, a, xs, H1, hv, I1, hit, hf, hq, hne, hR⟩ => ?_
  subst hv
  refine wpAny_pyIter_revIter hit ?_
  refine ⟨it, [it], _, _, H1, rfl, I1, turn_rev a it xs.length, ⟨Nat.zero_le _, by simpa using hit⟩, fun b hb => ?_, hR⟩
  have e : b = it := by simpa using hb
  subst e
  exact hf
def tListRev (K : PySem.W.Frag) (te : TE) : TE := fun σ H Q => te σ H fun x H1 => ∃ a xs, x = .ref a ∧ SqL K H1 a xs ∧ ∀ l, H1 l = none → Q (.ref l) (upd H1 l (.lst xs.reverse))
end
theorem forV {K : PySem.W.Frag} {a : Addr} {g : TG} {tb : TS} {D : Ends} {σ : St} {H : Hp} (ns : List Int) (Pv : Nat → St → Hp → Prop) {n : Nat} (hn : n = ns.length) (h0 : Pv 0 σ H) (hl : ∀ i σ H, Pv i σ H → SqL K H a (ns.map V.int))
    (hs : ∀ i (x : Int) σ H, ns.reverse[i]? = some x → Pv i σ H → g (.int x) σ H fun σ2 H2 => tb { D with nx := Pv (i + 1), ct := Pv (i + 1), bk := D.nx } σ2 H2) (hd : ∀ σ H, Pv ns.length σ H → D.nx σ H) : ForIt (Itv K a n) g tb D σ H := by
  subst hn
  refine ⟨fun i m σ H => m = ns.length - i ∧ i ≤ ns.length ∧ Pv i σ H, ⟨ns.length, by simp, Nat.zero_le _, h0⟩, ?_⟩
  rintro i m σ H ⟨rfl, hi, p⟩
  have q := hl i σ H p
  by_cases hlt : i < ns.length
  · refine .inr ⟨⟨hlt, _, q, by simp⟩, Pv (i + 1), fun σ' H' p' => ⟨ns.length - (i + 1), by omega, rfl, hlt, p'⟩, fun x H' y => ?_⟩
    obtain ⟨e, y⟩ := y
    subst e
    have y' := y _ q
    rw [List.getElem?_map] at y'
    have hr : ns.reverse[i]? = ns[ns.length - 1 - i]? := List.getElem?_reverse hlt
    cases z : ns[ns.length - 1 - i]? with
    | none => rw [z] at y'; cases y'
    | some v =>
      rw [z] at y'
      cases y'
      exact hs i v σ _ (hr.trans z) p
  · have e : i = ns.length := by omega
    subst e
    exact .inl ⟨Nat.le_refl _, hd σ H p⟩
theorem cut_from {α : Type} (f : α → V) (xs : List α) {k : Int} (hk : 0 ≤ k) : cutV (xs.map f) (some k) none = (xs.drop k.toNat).map f := by
  obtain ⟨n, rfl⟩ : ∃ n : Nat, k = (n : Int) := ⟨k.toNat, by omega⟩
  unfold cutV
  rw [HT.sIx_none, HT.sIx_nat, Int.toNat_natCast, List.map_drop]
  rcases Nat.le_total n (xs.map f).length with h | h
  · rw [Nat.min_eq_left h, List.take_of_length_le (by rw [List.length_drop]; exact Nat.le_refl _)]
  · rw [Nat.min_eq_right h, List.drop_of_length_le (Nat.le_refl _), List.drop_of_length_le h]
    simp
theorem newH {H H1 : Hp} {p : Addr} {o : HO} (e : upd H p o = H1) (n : H p = none) : Same H H1 ∧ H1 p = some o := by
  subst e
  exact ⟨same_new n o, upd_same⟩
theorem w_tyl {K : PySem.W.Frag} {p : Addr} {H : Hp} : tyV K "list" (.ref p) H = ∃ xs, SqL K H p xs := by
  unfold tyV
  simp
section
variable {K : PySem.W.Frag} {H : Hp} {a b : Addr} {ns ms : List Int} {Q : VK}
theorem eqv_il : PyData.eqv (.list (ns.map PyData.int)) (.list (ms.map PyData.int)) = decide (ns = ms) := by
  rw [← eqvAll_ints]
  simp only [PyData.eqv]
theorem canLay_ints : ∀ ns : List Int, PyData.canLayAll0 (ns.map PyData.int) = true
  | [] => by simp [PyData.canLayAll0]
  | n :: r => by simp [PyData.canLayAll0, PyData.canLay0, canLay_ints r]
theorem depth_ints : ∀ ns : List Int, PyData.depthAll (ns.map PyData.int) = 0
  | [] => by simp [PyData.depthAll]
  | n :: r => by simp [PyData.depthAll, PyData.depth, depth_ints r]
theorem shaped_l (ns : List Int) : SeqAt.shaped (.list (ns.map PyData.int)) = true := by
  unfold SeqAt.shaped
  simp [PyData.canLay0, PyData.depth, canLay_ints, depth_ints]
theorem neL (h : SqL K H a (ns.map V.int)) (h' : SqL K H b (ms.map V.int)) (q : Q (.bl (!decide (ns = ms))) H) : rEqD K true (.ref a) (.ref b) H Q := by
  refine ⟨_, _, .lst h (DatVs.ints ns), .lst h' (DatVs.ints ms), shaped_l ns, shaped_l ms, ?_⟩
  rw [if_pos rfl, eqv_il]
  exact q
end
theorem seqI {t u : TS} {D : Ends} {σ : St} {H : Hp} (h : t { D with nx := u D } σ H) : tSeq t u D σ H := h
section
variable {X : Cx}
end
end L2
namespace Ul
open PySem PySem.Spec PyProof.Rows
section
variable {prog : Program} {w : World} {A : Around} {E : Value → Shared → Prop}
variable {s : Shared}
end
end Ul
namespace L2
open PySem PySem.Spec PyProof.Rows
section
variable {X : Cx} {pos : Pos}
def gLst (K : PySem.W.Frag) (n : Nat) (t : TGs) : TG := fun v σ H Q => ∃ a xs, v = .ref a ∧ SqL K H a xs ∧ xs.length = n ∧ t xs σ H Q
theorem hu1 {n : Nat} (h : n + 64 < cLine) : n + 1 < cLine := by omega
end
end L2
namespace L2
open PySem PySem.Spec PyProof.Rows
def CXE (P : Program) (w : World) : CXT := fun outer H s E e s' => ∃ (ea t : Addr) (C : Value) (vs : List Value) (B : Heap) (H' : Hp), e = .ref ea ∧ s'.os = s.os ∧ AllBare s'.gens ∧ Heap.FlyingW B outer ea C (.ref t) s'.heap ∧ s'.heap.TupAt t vs ∧ B.get? t = none ∧
  HOk P w H' B ∧ (∀ b o, s.heap.get? b = some o → H b = none → b ∉ frs outer → B.get? b = some o) ∧ (∀ b o, s.heap.get? b = some o → b ∉ frs outer → ∃ o', B.get? b = some o') ∧ Un (frs outer) [] H H' s.heap s'.heap ∧ E C none H'
section
variable {X : Cx} {pins : List (Addr × Obj)} {σ : St} {H H1 : Hp} {s s1 : Shared}
theorem frs_cons {env : Env} {L : Addr} {l : List Env} (h : env.frame = some L) {b : Addr} : b ∈ frs (env :: l) ↔ b = L ∨ b ∈ frs l := by
  unfold frs
  rw [List.filterMap_cons, h]
  exact List.mem_cons
theorem Inv.old (I : Inv X pins σ H s) {b : Addr} {o : Obj} (e : X.s₀.heap.get? b = some o) : b ≠ X.env.locals := fun z => by
  have h1 : @LT.lt Nat instLTNat b X.s₀.heap.objs.size := Heap.lt_size e
  have h2 : @LE.le Nat _ X.s₀.heap.objs.size X.env.locals := I.ok.above
  have z' : @Eq Nat b X.env.locals := z
  omega
theorem hid_ok {fs : List Addr} (I : Inv X pins σ H s) (hf : ∀ b ∈ fs, H b = none) : HOk X.prog X.w H (PySem.W.hideAll s.heap fs) := fun a o e => by
  have q : ObjOk X.prog X.w H s.heap a o := I.hok a o e
  refine q.stay (fun c u hc e' => PySem.W.hideAll_get _ e' fun z => ?_) (fun c e' => e') fun c zs e' => e'
  have h0 := hf c z
  rcases hc with hc | hc
  · rw [hc, e] at h0; cases h0
  · rw [hc] at h0; cases h0
theorem thr {M : Model} {h' : Heap} {ea : Addr} {C : Value} {vs : List Value} {E : XK} {EE : Value → Shared → Prop} (hst : X.stack = X.env :: X.outer) (hfr : X.env.frame = some X.env.locals) (hex : X.ex = []) (I : Inv X pins σ H s)
    (hx : Heap.MadeExcOf s.heap h' ea C vs) (hE : E C none H) :
    wpAny M X.A (leaving X.env (.ref ea)) (fun _ s'' => CXE X.prog X.w X.outer X.H₀ X.s₀ E (.ref ea) s'') EE { s with heap := h' } := by
  have hA : X.A.frames = some (X.env :: X.outer) := by rw [← hst]; exact I.ok.frames
  have fstk : ∀ b ∈ frs (X.env :: X.outer), H b = none := by rw [← hst]; exact I.stkFree
  have hfun : s.heap.FunFrames X.base (X.env :: X.outer) := by rw [← hst]; exact I.stack
  have hin : ∀ env ∈ (X.env :: X.outer), ∀ b, env.frame = some b → b ∈ frs (X.env :: X.outer) := fun env he b hb => List.mem_filterMap.mpr ⟨env, he, hb⟩
  refine wpAny_leaves_madeW (base := PySem.W.hideAll s.heap (frs (X.env :: X.outer))) hA hfr (fun b o q => PySem.W.of_hideAll _ q) (PySem.W.funFrames_hide hfun hin) hx fun h2 t fly tup tn up => ?_
  have u := I.base
  rw [hex] at u
  have keepB : ∀ b o, X.s₀.heap.get? b = some o → X.H₀ b = none → b ∉ frs X.outer → (PySem.W.hideAll s.heap (frs (X.env :: X.outer))).get? b = some o := fun b o e n nf => by
    refine PySem.W.hideAll_get _ (u.keep b o e n nf (by simp)) fun z => ?_
    rcases (frs_cons hfr).mp z with z | z
    · exact I.old e z
    · exact nf z
  have slots : ∀ b o, s.heap.get? b = some o → b ∈ frs (X.env :: X.outer) → ∃ sl, h2.get? b = some { o with slots := sl } := fun b o e hb => by
    obtain ⟨_, o', ho', hd⟩ := hfun.mem hb
    rw [e] at ho'
    cases ho'
    exact up b o (hx.keeps _ _ e) hd
  have thereB : ∀ b o, X.s₀.heap.get? b = some o → b ∉ frs X.outer → ∃ o', (PySem.W.hideAll s.heap (frs (X.env :: X.outer))).get? b = some o' := fun b o e nf => by
    obtain ⟨o', e1⟩ := u.there b o e (by simp)
    refine ⟨o', PySem.W.hideAll_get _ e1 fun z => ?_⟩
    rcases (frs_cons hfr).mp z with z | z
    · exact I.old e z
    · exact nf z
  refine ⟨ea, t, C, vs, _, H, rfl, I.os, I.bare, fly, tup, tn, hid_ok I fstk, keepB, thereB, ?_, hE⟩
  refine ⟨fun b o e n nf _ => fly.1 _ _ (keepB b o e n nf), fun b o e n hb _ => ?_, fun b o e n _ => u.free b o e n (by simp), fun b o e _ => ?_, u.tups, u.frzs, u.tbls⟩
  · obtain ⟨sl, e1⟩ := u.slot b o e n hb (by simp)
    obtain ⟨sl', e2⟩ := slots b _ e1 ((frs_cons hfr).mpr (.inr hb))
    exact ⟨sl', e2⟩
  · obtain ⟨o', e1⟩ := u.there b o e (by simp)
    by_cases hb : b ∈ frs (X.env :: X.outer)
    · obtain ⟨sl, e2⟩ := slots b _ e1 hb
      exact ⟨_, e2⟩
    · exact ⟨o', fly.1 _ _ (PySem.W.hideAll_get _ e1 hb)⟩
theorem pas {M : Model} {e : Value} {s' : Shared} {E : XK} {EE : Value → Shared → Prop} (hst : X.stack = X.env :: X.outer) (hfr : X.env.frame = some X.env.locals) (hex : X.ex = []) (I : Inv X pins σ H s)
    (hc : CXE X.prog X.w X.stack H s E e s') : wpAny M X.A (leaving X.env e) (fun _ s'' => CXE X.prog X.w X.outer X.H₀ X.s₀ E e s'') EE s' := by
  have hA : X.A.frames = some (X.env :: X.outer) := by rw [← hst]; exact I.ok.frames
  rw [hst] at hc
  obtain ⟨ea, t, C, vs, B, H', rfl, os, bare, fly, tup, tn, hok, kB, tB, un, hE⟩ := hc
  refine wpAny_leaves_onW hA hfr fly fun h2 fly2 up => ?_
  have u := I.base
  rw [hex] at u
  have n2 : ∀ b o, X.s₀.heap.get? b = some o → b ∉ frs X.outer → b ∉ frs (X.env :: X.outer) := fun b o e nf z => by
    rcases (frs_cons hfr).mp z with z | z
    · exact I.old e z
    · exact nf z
  have keepB : ∀ b o, X.s₀.heap.get? b = some o → X.H₀ b = none → b ∉ frs X.outer → B.get? b = some o := fun b o e n nf =>
    kB b o (u.keep b o e n nf (by simp)) (u.free b o e n (by simp)) (n2 b o e nf)
  have thereB : ∀ b o, X.s₀.heap.get? b = some o → b ∉ frs X.outer → ∃ o', B.get? b = some o' := fun b o e nf => by
    obtain ⟨o', e1⟩ := u.there b o e (by simp)
    exact tB b o' e1 (n2 b o e nf)
  have slots : ∀ b o, s'.heap.get? b = some o → b ∈ frs X.outer → ∃ sl, h2.get? b = some { o with slots := sl } := fun b o e hb => by
    obtain ⟨_, o', ho', hd⟩ := fly.2.2.1.mem (show b ∈ (X.env :: X.outer).filterMap (·.frame) from (frs_cons hfr).mpr (.inr hb))
    rw [e] at ho'
    cases ho'
    exact up b o e hd
  refine ⟨ea, t, C, vs, B, H', rfl, by rw [os]; exact I.os, bare, fly2, tup.of_slots up, tn, hok, keepB, thereB, ?_, hE⟩
  refine ⟨fun b o e n nf _ => fly2.1 _ _ (keepB b o e n nf), fun b o e n hb _ => ?_, fun b o e n _ => ?_, fun b o e _ => ?_, fun b zs e => un.tups b zs (u.tups b zs e), fun b o v e => un.frzs b o v (u.frzs b o v e), fun b ps e => ?_⟩
  · obtain ⟨sl, e1⟩ := u.slot b o e n hb (by simp)
    have n1 := u.free b o e n (by simp)
    obtain ⟨sl2, e2⟩ := un.slot b _ e1 n1 ((frs_cons hfr).mpr (.inr hb)) (by simp)
    obtain ⟨sl3, e3⟩ := slots b _ e2 hb
    exact ⟨sl3, e3⟩
  · have n1 := u.free b o e n (by simp)
    obtain ⟨o', e1⟩ := u.there b o e (by simp)
    exact un.free b o' e1 n1 (by simp)
  · obtain ⟨o', e1⟩ := u.there b o e (by simp)
    obtain ⟨o2, e2⟩ := un.there b o' e1 (by simp)
    by_cases hb : b ∈ frs X.outer
    · obtain ⟨sl, e3⟩ := slots b _ e2 hb
      exact ⟨_, e3⟩
    · obtain ⟨o3, e3⟩ := thereB b o e hb
      exact ⟨o3, fly2.1 _ _ e3⟩
  · obtain ⟨m1, e1⟩ := u.tbls b ps e
    obtain ⟨m2, e2⟩ := un.tbls b _ e1
    exact ⟨m1 ++ m2, by rw [e2, Array.append_assoc]⟩
end
abbrev bmV : List Value := [.type "ValueError", .type "Exception", .type "BaseException", .type "object"]
abbrev ExcK (K : PySem.W.Frag) (C : Addr) : Prop := PySem.W.excIn K C bmV "ValueError.__new__" = true
theorem own_at {K : PySem.W.Frag} {h : Heap} {mg : Str → Option Value} {x : Str} {C : Addr} (X : K.In h) (e : mg x = some (.ref C)) (q : ExcK K C) : OwnCls x C bmV "ValueError.__new__" mg h := by
  refine ⟨e, ?_⟩
  unfold ExcK PySem.W.excIn at q
  split at q
  · rename_i dd cd sl ho
    split at q
    · rename_i C' bm k0 k1 k2 k3 n k5 hm hs
      simp only [Bool.and_eq_true, beq_iff_eq, Bool.not_eq_true'] at q
      obtain ⟨⟨⟨⟨⟨rfl, rfl⟩, hdel⟩, ht⟩, hok⟩, hni⟩ := q
      obtain ⟨nm, bs, mro, ns, qn, hd, sn, sub, ab, col, del⟩ := cd
      dsimp only at hm hdel hok hni
      subst hm hdel
      have hsl : sl = #[k0, k1, k2, k3, some (.builtin "ValueError.__new__"), k5] := by
        obtain ⟨l⟩ := sl
        simp only at hs
        rw [hs]
      subst hsl
      exact ⟨bm, ns, nm, qn, bs, hd, sn, sub, ab, col, dd, k0, k1, k2, k3, k5, _, X _ _ ho, .of_isNs (PySem.W.isNs_of_in X hok), PySem.W.nsMap_none_of_in X hok hni, PySem.W.tail_of_in X ht⟩
    · cases q
  · cases q
def Thr (X : Cx) (E : XK) : Prop := ∀ (pins : List (Addr × Obj)) (σ : St) (H : Hp) (s : Shared) (h' : Heap) (ea : Addr) (C : Value) (vs : List Value), Inv X pins σ H s → Heap.MadeExcOf s.heap h' ea C vs → E C none H → X.xe (.ref ea) { s with heap := h' }
def tRaise (C : Addr) (E : XK) (ta : TA) : TS := fun _ σ H => ta σ H fun vs H1 => vs.length ≤ sizeLine ∧ E (.ref C) none H1
section
variable {X : Cx} {x : Str} {C : Addr} {np cpos pos : Pos} {e : Expr} {es : List Expr} {ta : TA} {E : XK}
theorem ps_raise (hT : Thr X E) (hc : X.calm = true) (hg : Gl X x) (hm : X.mg x = some (.ref C)) (q : ExcK X.K C) (ha : PA X (e :: es) ta)
    (he : starEach (e :: es) X.env = (false, eval e X.env) :: starEach es X.env := by rfl) (hpl : (backTo cpos (starEach es X.env)).any (·.1) = false := by rfl) (hdb : (x == ("__debug__" : Str)) = false := by decide) :
    PS X (.Raise (some (.Call (.Name x np) (e :: es) [] cpos)) none pos) (tRaise C E ta) := by
  intro pins s σ H D I h
  have O := own_at I.ok.mod.kin hm q
  obtain ⟨tl, N, nm, qq, bs, hdct, sn, sub, ab, col, dd, k0, k1, k2, k3, k5, mN, hC, hN, hni, T⟩ := O.obj
  refine wpAny_Raise_call_subT (C := C) (nm := nm) (q := qq) (N := N) (bs := bs) (bm := tl) (hdct := hdct) (sn := sn) (sub := sub) (ab := ab) (col := col) (dd := dd) (k0 := k0) (k1 := k1) (k2 := k2) (k3 := k3) (k5 := k5)
    PySem.F.excBase_ValueError (mN := mN) (T.hasType PySem.F.excBase_ValueError.hasBase) (I.ok.hd hc) (by rw [he]; show (false || (backTo cpos (starEach es X.env)).any (·.1)) = false; rw [hpl]; rfl) hni (ld_glob I hg hm ⟨rfl, ?_⟩ hdb)
  have ha' := ha cpos pins s σ H _ I h
  rw [he] at ha' ⊢
  exact Calls.evalArgs_plain (thn ha' fun us s2 ⟨vs, H1, I1, r, z, hE⟩ => ⟨rfl, by rw [← r.length]; exact z, I1.bk _ _ hC, hN.keeps I1.bk, T.keeps I1.bk, fun h' ea hx => hT pins σ H1 s2 h' ea _ us I1 hx hE⟩)
end
section
variable {P : Program} {w : World} {K : PySem.W.Frag} {mg : Str → Option Value} {base : Heap}
theorem Fun.okE {x qual : Str} {st : Stmt} {f : Addr} {fd : FuncData} {N ps : List Str} {k : Nat} {sp : Sp} (F : Fun K x qual st f fd) (S : FnScope N ps (defScope st)) (len : ∀ vs H Q E, sp vs H Q E → vs.length = ps.length)
    (hbody : ∀ (cdv : Value) (A : Around) (outer : List Env) (s : Shared) (H : Hp) (vs : List V) (Q : VK) (E : XK), Room k (A.deeper (envOfC qual (defScope st) s.heap.objs.size f cdv)) → sp vs H Q E →
      ∃ t, PSs (cxOf (CXE P w) P w K mg base N qual (defScope st) f cdv A outer s H E) (defBody st) t ∧ t { nx := fun _ H' => Q .non H', rt := Q } (start N vs) H) : FnOk P w K mg base (CXE P w) (k + 1) f fd ps sp := by
  obtain ⟨oc, od, kV, doc, pm, an, cdv, ct, osl, rfl, lk, hcd⟩ := F.ex
  refine fn_of lk hcd S len fun A outer s H vs Q E hr hsp => ?_
  obtain ⟨t, h, q⟩ := hbody cdv A outer s H vs Q E hr hsp
  exact ⟨t, h, q⟩
variable {N : List Str} {qual : Str} {scope : Scope} {f : Addr} {cd : Value} {A : Around} {outer : List Env} {s : Shared} {H : Hp} {E : XK}
theorem passE : Passes (CXE P w) (cxOf (CXE P w) P w K mg base N qual scope f cd A outer s H E) E := fun _ _ _ _ _ _ I hc => pas rfl rfl rfl I hc
theorem thrE : Thr (cxOf (CXE P w) P w K mg base N qual scope f cd A outer s H E) E := fun _ _ _ _ _ _ _ _ I hx hE => thr rfl rfl rfl I hx hE
end
theorem pass00 {P : Program} {w : World} {X : Cx} : Passes (CXE P w) X E0 := fun _ _ _ _ _ _ _ hc => by
  obtain ⟨_, _, _, _, _, _, _, _, _, _, _, _, _, _, _, _, hE⟩ := hc
  exact hE.elim
structure DefE (P : Program) (w : World) (K : PySem.W.Frag) (mg : Str → Option Value) (base : Heap) (x : Str) (k : Nat) (ps : List Str) (sp : Sp) : Prop where
  ex : ∃ (f : Addr) (fd : FuncData), FnOk P w K mg base (CXE P w) k f fd ps sp ∧ Binds K fd ps [] ∧ PySem.W.keepIn K (.ref f) = true ∧ mg x = some (.ref f)
theorem defE_mk {P : Program} {w : World} {K : PySem.W.Frag} {mg : Str → Option Value} {base : Heap} {x qual : Str} {st : Stmt} {f : Addr} {fd : FuncData} {k : Nat} {ps : List Str} {sp : Sp} (F : Fun K x qual st f fd)
    (ok : FnOk P w K mg base (CXE P w) k f fd ps sp) (b : Binds K fd ps []) (m : mg x = some (.ref f)) : DefE P w K mg base x k ps sp := ⟨⟨f, fd, ok, b, F.kp, m⟩⟩
section
variable {X : Cx} {x : Str} {j k : Nat} {ps : List Str} {sp : Sp} {p pos : Pos} {e : Expr} {es : List Expr} {t : TA} {E : XK}
theorem pe_defE (hx : Passes (CXE X.prog X.w) X E) (D : DefE X.prog X.w X.K X.mg X.base x j ps sp) (hr : Room k X.A) (hg : Gl X x) (ha : PA X (e :: es) t) (hjk : j ≤ k := by decide) (hdb : (x == ("__debug__" : Str)) = false := by decide)
    (he : starEach (e :: es) X.env = (false, eval e X.env) :: starEach es X.env := by rfl) (hpl : (backTo pos (starEach es X.env)).any (·.1) = false := by rfl) :
    PE X (.Call (.Name x p) (e :: es) [] pos) (tCall sp [] E t) := by
  obtain ⟨f, fd, ok, b, kp, m⟩ := D.ex
  exact pe_call ok (hr.mono hjk) hg m kp b .nil hx ha hdb he hpl
theorem ps_nox {st : Stmt} {t : TS} (h : PS X.nox st t) : PS X st t := fun pins s σ H D I hw =>
  wpAny_mono (h pins s σ H D (I.wish _) hw) (fun _ _ q => SP.unwish q) fun _ _ z => z.elim
end
end L2
namespace L2
open PySem PySem.Spec PyProof.Rows
section
variable {X : Cx} {pins pins' : List (Addr × Obj)} {σ : St} {H H1 H' : Hp} {s s1 s' : Shared} {E : Value → Shared → Prop}
def tCallX (sp : Sp) (EE : St → XK) (t : TA) : TE := fun σ H Q => t σ H fun vs H1 => sp vs H1 Q (EE σ)
end
section
variable {X : Cx} {x : Str} {j k : Nat} {ps : List Str} {sp : Sp} {p pos : Pos} {e : Expr} {es : List Expr} {t : TA} {EE : St → XK}
end
section
variable {X : Cx} {body suite : List Stmt} {b₀ : Stmt} {D : Addr} {cx : Str} {np hpos pos : Pos} {tb : (St → XK) → TS} {ts : TS}
def tTry (K : PySem.W.Frag) (D : Addr) (tb : (St → XK) → TS) (ts : TS) : TS := fun En σ H => tb (fun σ1 C _ H1 => PySem.W.exmOne K C (.ref D) = some true ∧ ts En σ1 H1) En σ H
end
def clK (K : PySem.W.Frag) (x : Str) : Addr := match PySem.W.nsIn K mainGlobals x with
  | some (some (.ref C)) => C
  | _ => 0
theorem clK_of {K : PySem.W.Frag} {x : Str} {C : Addr} (h : PySem.W.nsIn K mainGlobals x = some (some (.ref C))) : clK K x = C := by
  unfold clK
  rw [h]
end L2
namespace Xc
open PySem PySem.W PySem.Spec PySem.Calls PyProof.Rows Builtin.ObjectAttr
section
variable {prog : Program} {w : World} {A : Around} {E : Value → Shared → Prop} {s : Shared} {K : Frag} {x C : Addr} {ox : Obj} {odo : Option Obj}
theorem typ {M : Model} {h : Heap} (hx : h.get? x = some ox) (hc : ox.cls = .ref C) : Looks M h (typeOf (.ref x)) (.ref C) := hc ▸ (Looks.ld hx).andThen .now
open Builtin Builtin.Getset_descriptor in
theorem exc_get {tp : Value} {R : Result → Shared → Prop} (X : K.In s.heap) (hx : s.heap.get? x = some ox) (hc : ox.cls = .ref C) (hm : mroIn K C (.type "object") = some true)
    (h : R (.ok (.ret (.ref C))) s) : codeAny (model prog w) A (.call (.builtin "getset_descriptor.__get__") ⟨[.builtin "object.__class__", .ref x, tp], []⟩) R s := by
  obtain ⟨hh, g, dr, t, os⟩ := s
  have L0 := typ (M := model prog w) hx hc
  have L1 := looks_mroIn (M := model prog w) X hm
  refine codeAny_call_builtin KF.slot_gs.plain KF.entry_gs (KF.slot_gs.check _ _ _ _ _ _ _ _ KF.type_class (KF.args_gs _ _ _) ?_)
  unfold Builtin.«getset_descriptor.__get__» descrGet
  rw [dga_obj]
  refine wpAny_bind (wpAny_pure ?_)
  unfold descrGetter descrCheckInstance descrNameAndClass isInstance
  simp only [KF.owner_class]
  repeat lk
  refine ⟨Code.quiet_builtin _ (by decide +kernel), codeAny_builtin KF.entry_class ?_⟩
  unfold Builtin.«object.__class__» shownTypeOf
  repeat lk
  exact h
end
end Xc
namespace L2
open PySem PySem.Spec PyProof.Rows
def ExcO (a C : Addr) : HO := .ext fun h => ∃ ox : Obj, h.get? a = some ox ∧ ox.cls = .ref C
section
variable {X : Cx} {pins : List (Addr × Obj)} {σ : St} {H H1 H' : Hp} {s s1 s' : Shared}
end
section
variable {X : Cx} {body suite : List Stmt} {b₀ : Stmt} {D : Addr} {cx n : Str} {i : Nat} {np hpos pos : Pos} {tb : (St → XK) → TS} {ts : TS}
def Ends.gone (En : Ends) (i : Nat) : Ends := ⟨fun σ H => En.nx (σ.set i none) H, En.rt, fun σ H => En.bk (σ.set i none) H, fun σ H => En.ct (σ.set i none) H⟩
def tTryAs (K : PySem.W.Frag) (D : Addr) (i : Nat) (tb : (St → XK) → TS) (ts : TS) : TS := fun En σ H =>
  tb (fun σ1 C _ H1 => PySem.W.exmOne K C (.ref D) = some true ∧ ∃ Ca, C = .ref Ca ∧ ∀ ea, H1 ea = none → ts (En.gone i) (σ1.set i (some (.ref ea))) (upd H1 ea (ExcO ea Ca))) En σ H
end
end L2
namespace L2
open PySem PySem.Spec PyProof.Rows
section
variable {X : Cx}
end
end L2
namespace L2
open PySem PySem.Spec PyProof.Rows
section
variable {X : Cx} {pins : List (Addr × Obj)} {σ : St} {H : Hp} {s : Shared} {h' : Heap}
theorem Inv.turned2 {t' : Nat} {a e it : Addr} {o : HO} (I : Inv X pins σ H s) (k : ∀ b u, b ≠ e → b ≠ it → s.heap.get? b = some u → h'.get? b = some u) (ha : a = s.heap.objs.size) (new : ObjOk X.prog X.w (upd H a o) h' a o) (fe : FpOk X pins H e) (fi : FpOk X pins H it) :
    Inv X pins σ (upd H a o) { s with heap := h', toks := t' } := by
  have hnone : H a = none := I.hok.fresh (by rw [ha]; exact Nat.le_refl _)
  have lts : ∀ b u, s.heap.get? b = some u → b ≠ a := fun b u q => by rw [ha]; exact Nat.ne_of_lt (Heap.lt_size q)
  have nin : ∀ b, b ∉ [e, it] → b ≠ e ∧ b ≠ it := fun b hb => ⟨fun z => hb (by simp [z]), fun z => hb (by simp [z])⟩
  have ntr : ∀ b u, H b = some u → b ≠ e ∧ b ≠ it := fun b u q => ⟨ne_of_none q fe.1, ne_of_none q fi.1⟩
  refine I.step (g' := s.gens) (d' := s.drawn) (ch := [e, it]) (fun b hb => ?_) (fun b u _ _ hc q _ => k b u (nin b hc).1 (nin b hc).2 q) (fun b u _ _ hc q _ => ⟨u.slots, k b u (nin b hc).1 (nin b hc).2 q⟩) (fun b u _ q n => by rw [upd_ne (lts b u q)]; exact n)
    (fun b u hc q => ⟨u, k b u (nin b hc).1 (nin b hc).2 q⟩) (fun b zs q => by rw [upd_ne (ne_of_none q hnone)]; exact q) (fun b u v q => by rw [upd_ne (ne_of_none q hnone)]; exact q) (fun b ps q => ⟨#[], by rw [upd_ne (ne_of_none q hnone), q]; simp⟩) (fun m hm => ?_) (fun b u q => ?_) I.bare
  · have fb : FpOk X pins H b := by
      rcases List.mem_cons.mp hb with z | z
      · rw [z]; exact fe
      · rw [List.mem_singleton.mp z]; exact fi
    obtain ⟨f0, f1, f2, f3, f4, f5⟩ := fb
    exact ⟨f3, f1, f4, f5⟩
  · obtain ⟨u, es, ep, ho, r⟩ := hm
    exact ⟨u, es, ep, k _ u (Ne.symm fe.2.1) (Ne.symm fi.2.1) ho, r⟩
  · by_cases hb : b = a
    · subst hb
      rw [upd_same] at q
      cases q
      exact new
    · rw [upd_ne hb] at q
      have w : ObjOk X.prog X.w H s.heap b u := I.hok b u q
      have ntr' : ∀ c, (c = b ∨ ∃ u, H c = some u) → c ≠ e ∧ c ≠ it := fun c hc => by
        rcases hc with z | ⟨_, z⟩
        · rw [z]; exact ntr b u q
        · exact ntr c _ z
      refine w.stay (fun c v hc q' => k c v (ntr' c ?_).1 (ntr' c ?_).2 q') (fun c q' => ?_) fun c zs q' => ?_
      · rcases hc with z | z
        · exact .inl z
        · exact .inr ⟨_, z⟩
      · rcases hc with z | z
        · exact .inl z
        · exact .inr ⟨_, z⟩
      · rw [upd_ne (ne_of_none q' hnone)]; exact q'
      · rw [upd_ne (ne_of_none q' hnone)]; exact q'
end
def Ite (K : PySem.W.Frag) (a : Addr) : It :=
  ⟨fun i H => ∃ xs x, SqL K H a xs ∧ xs[i]? = some x, fun i H x H' => ∃ y t, (∀ xs, SqL K H a xs → xs[i]? = some y) ∧ H t = none ∧ x = .ref t ∧ H' = upd H t (.tup [.int (i : Int), y]), fun i H => ∃ xs, SqL K H a xs ∧ xs.length ≤ i⟩
theorem turn_enum {P : Program} {w : World} {K : PySem.W.Frag} {elts : List Expr} {x1} {tp : Pos} (a e it : Addr) (hne : e ≠ it) : Turn P w K (.Tuple elts x1 tp) (Ite K a) [e, it] e (fun i h => (∃ old, IsEnum h e it ((i : Nat) : Int) old) ∧ h.IsListIter it a i) where
  mem := by simp
  obj := fun i h st b hb => by
    obtain ⟨⟨old, he⟩, o, ho, c, d⟩ := st
    rcases List.mem_cons.mp hb with z | z
    · subst z
      exact ⟨_, he, fun v z => by
        have z' : Data.fields _ = Data.cell v := z
        cases z'⟩
    · rw [List.mem_singleton.mp z]
      exact ⟨o, ho, fun v z => by rw [d] at z; cases z⟩
  keep := fun i h h' st k => by
    obtain ⟨⟨old, he⟩, hi⟩ := st
    exact ⟨⟨old, k e (by simp) _ he⟩, hi.at fun o q => k it (by simp) o q⟩
  item := by
    intro X hP hw hK hc i pins s σ H E I hf st hg
    subst hP hw hK
    obtain ⟨xs, x, hq, hx⟩ := hg
    obtain ⟨its, rv, p, hz⟩ := I.list hq
    obtain ⟨u, hu, ru⟩ := rv.get hx
    obtain ⟨⟨old, he⟩, hit⟩ := st
    have fe := hf e (by simp)
    have fi := hf it (by simp)
    have hel : e < s.heap.objs.size := Heap.lt_size he
    refine wpAny_pyNext_enum_item he hit p.isList (x := u) (by simpa using hu) hne fun h1 he1 hit1 ht1 hz1 hk1 => ⟨_, rfl, ?_⟩
    refine wpAny_letOwnedTupleGo_enum he1 fun h2 he2 hs2 => ?_
    have hs2' : Heap.SameBut e h1 h2 := hs2
    have hnone : H s.heap.objs.size = none := I.hok.fresh (Nat.le_refl _)
    refine ⟨.ref s.heap.objs.size, upd H s.heap.objs.size (.tup [.int (i : Int), x]), I.turned2 (t' := s.toks + 1) (e := e) (it := it) (fun b o hb1 hb2 q => (hs2'.2 b hb1).trans (hk1 b o hb1 hb2 q)) rfl ?_ fe fi, rfl, ⟨x, _, fun ys hy => by rw [I.list_inj hy hq]; exact hx, hnone, rfl, rfl⟩, ⟨⟨_, by rw [Int.natCast_add]; exact he2⟩, hit1.extBut hs2'.extBut (Ne.symm hne)⟩, fun b hb => ?_⟩
    · exact ⟨by show 2 ≤ sizeLine; decide, [.int i s.toks, u], .cons ⟨_, rfl⟩ (.cons ru .nil), ⟨_, (hs2'.2 _ (Nat.ne_of_gt hel)).trans ht1, rfl, _, rfl⟩⟩
    · have hb0 : H b = none := (hf b hb).1
      have hbl : b < s.heap.objs.size := by
        rcases List.mem_cons.mp hb with z | z
        · rw [z]; exact hel
        · rw [List.mem_singleton.mp z]
          obtain ⟨o, ho, _⟩ := id hit
          exact Heap.lt_size ho
      rw [upd_ne (Nat.ne_of_lt hbl)]
      exact hb0
  done := by
    intro X hP hw hK hc i pins s σ H E I hf st hg
    subst hP hw hK
    obtain ⟨xs, hq, hx⟩ := hg
    obtain ⟨its, rv, p, hz⟩ := I.list hq
    obtain ⟨⟨old, he⟩, hit⟩ := st
    obtain ⟨f0, f1, f2, f3, f4, f5⟩ := hf it (by simp)
    have hl := rv.length
    exact wpAny_pyNext_enum_end (I.ok.hd hc) he hit p.isList (by simp; omega) fun h' eb => ⟨rfl, I.turned (t' := s.toks) (fun b o hb q => eb b o hb q) f0 f1 f3 f4 f5⟩
  self := fun _ _ _ _ _ ⟨⟨_, he⟩, _⟩ h => wpAny_pyIter_enum he h
section
variable {X : Cx} {e : Expr} {te : TE} {p p2 pos pos2 : Pos}
def iEnum (K : PySem.W.Frag) (tl : TE) : TI := fun σ H R => tl σ H fun x H1 => ∃ a, x = .ref a ∧ (∃ xs, SqL K H1 a xs) ∧ R (Ite K a) H1
theorem pi_enum {elts : List Expr} {x1} {tp : Pos} (hg : Gl X "enumerate") (hm : X.mg "enumerate" = none) (he : PE X e te) (hs : starEach [e] X.env = (false, eval e X.env) :: starEach [] X.env := by rfl) : PI X (.Tuple elts x1 tp) (.Call (.Name "enumerate" p) [e] [] pos) (iEnum X.K te) := by
  intro pins s σ H R I h
  refine wpAny_Call_Name_kw (ld_blt I hg hm PyProof.Rows.boot_enumerate ?_ (by decide) (by decide))
  refine PyProof.Rows.callWith_type1 (thn (pa_cons he pa_nil hs pos pins s σ H (fun vs H1 => ∃ a, vs = [.ref a] ∧ (∃ xs, SqL X.K H1 a xs) ∧ R (Ite X.K a) H1) I ?_) fun us s1 ⟨vs, H1, I1, r1, q1⟩ => ?_) hs rfl
  · show te σ H _
    have e2 : (fun x H1 => tNil σ H1 fun xs H2 => (fun vs H1 => ∃ a, vs = [V.ref a] ∧ (∃ xs, SqL X.K H1 a xs) ∧ R (Ite X.K a) H1) (x :: xs) H2) = fun x H1 => ∃ a, x = V.ref a ∧ (∃ xs, SqL X.K H1 a xs) ∧ R (Ite X.K a) H1 := by
      funext x H1
      simp only [tNil, List.cons.injEq, and_true]
    have := h
    unfold iEnum at this
    rw [← e2] at this
    exact this
  · obtain ⟨a, rfl, ⟨xs, hq⟩, hR⟩ := q1
    obtain ⟨u, rfl, ru⟩ := vals1 r1
    cases ru
    obtain ⟨its, rv, pl, hz⟩ := I1.list hq
    refine call_enumerate_list pl.isList fun h' he' hit hz' hk => ?_
    refine wpAny_pyIter_enum he' ?_
    refine ⟨s1.heap.objs.size + 1, [s1.heap.objs.size + 1, s1.heap.objs.size], _, _, H1, rfl, I1.kept (t' := s1.toks) hk, turn_enum a _ _ (Nat.succ_ne_self _), ⟨⟨_, he'⟩, hit⟩, fun b hb => ?_, hR⟩
    rcases List.mem_cons.mp hb with z | z
    · rw [z]; exact I1.fpOk (Nat.le_succ _) (I1.hok.fresh (Nat.le_succ _))
    · rw [List.mem_singleton.mp z]; exact I1.fpOk (Nat.le_refl _) (I1.hok.fresh (Nat.le_refl _))
end
theorem forE {K : PySem.W.Frag} {a : Addr} {g : TG} {tb : TS} {D : Ends} {σ : St} {H : Hp} (ns : List Int) (Pv : Nat → St → Hp → Prop) (h0 : Pv 0 σ H) (hl : ∀ i σ H, Pv i σ H → SqL K H a (ns.map V.int))
    (hs : ∀ i (x : Int) σ H t H', ns[i]? = some x → Pv i σ H → Same H H' → H' t = some (.tup [.int (i : Int), .int x]) → g (.ref t) σ H' fun σ2 H2 => tb { D with nx := Pv (i + 1), ct := Pv (i + 1), bk := D.nx } σ2 H2) (hd : ∀ σ H, Pv ns.length σ H → D.nx σ H) :
    ForIt (Ite K a) g tb D σ H := by
  refine ⟨fun i m σ H => m = ns.length - i ∧ i ≤ ns.length ∧ Pv i σ H, ⟨ns.length, by simp, Nat.zero_le _, h0⟩, ?_⟩
  rintro i m σ H ⟨rfl, hi, p⟩
  have q := hl i σ H p
  by_cases hlt : i < ns.length
  · have hx : ns[i]? = some ns[i] := List.getElem?_eq_getElem hlt
    have hx' : (ns.map V.int)[i]? = some (.int ns[i]) := by rw [List.getElem?_map, hx]; rfl
    refine .inr ⟨⟨_, _, q, hx'⟩, Pv (i + 1), fun σ' H' p' => ⟨ns.length - (i + 1), by omega, rfl, hlt, p'⟩, fun x H' y => ?_⟩
    obtain ⟨y, t, hy, ht, rfl, rfl⟩ := y
    have hy := hy _ q
    rw [hx'] at hy
    cases hy
    exact hs i _ σ H t _ hx p (same_new ht _) upd_same
  · have e : i = ns.length := by omega
    subst e
    exact .inl ⟨⟨_, q, by simp⟩, hd σ H p⟩
section
variable {X : Cx} {e lo hi st : Expr} {te : TE} {tl th tk : TO} {pos p2 : Pos}
def tSlK (K : PySem.W.Frag) (te : TE) (tl th tk : TO) : TE := fun σ H Q => te σ H fun x H1 => tl σ H1 fun l H2 => th σ H2 fun u H3 => tk σ H3 fun k H4 =>
  ∃ (a : Addr) (ns : List Int), x = .ref a ∧ k ≠ some 0 ∧ SqL K H4 a (ns.map V.int) ∧ ∀ ms : List Int, ms.length ≤ ns.length → (∀ m, m ∈ ms → m ∈ ns) → ∀ p, H4 p = none → Q (.ref p) (upd H4 p (.lst (ms.map V.int)))
theorem vals_of_ints : ∀ {vs : List Value} {ns : List Int}, IntsAre vs ns → Vals (ns.map V.int) vs
  | _, _, .nil => .nil
  | _, _, .cons n t r => .cons ⟨t, rfl⟩ (vals_of_ints r)
end
section
variable {X : Cx}
def rGetL (K : PySem.W.Frag) : R2 := fun x y H Q => ∃ p xs i v, x = .ref p ∧ y = .int i ∧ 0 ≤ i ∧ SqL K H p xs ∧ xs[i.toNat]? = some v ∧ Q v H
theorem get_list : PGet X (rGetL X.K) := by
  intro pins s σ H o i ov iv Q I ro ri h
  obtain ⟨p, xs, k, v, rfl, rfl, h0, hq, hv, q⟩ := h
  cases ro
  obtain ⟨t, rfl⟩ := ri
  obtain ⟨its, r, pl, hz⟩ := I.list hq
  obtain ⟨u, eu, ru⟩ := r.get hv
  have hn := line63
  have hl := (List.getElem?_eq_some_iff.mp hv).1
  exact wpAny_getItem_list pl.isList h0 (by omega) (x := u) (by simpa using eu) ⟨v, H, I, ru, q⟩
theorem ix_listK {K : PySem.W.Frag} (hK : X.K = K) : IxR X (rIxL K) := by subst hK; exact ix_list
theorem vals_bls : ∀ {bs : List Bool} {us : List Value}, Vals (bs.map V.bl) us → us = bs.map Value.bool
  | [], _, .nil => rfl
  | b :: bs, _, .cons r t => by
    have r' : _ = Value.bool b := r
    rw [r', vals_bls t]
    rfl
theorem bt_all : bootBuiltins "all" = some (.builtin "all") := by decide +kernel
theorem bt_abs : bootBuiltins "abs" = some (.builtin "abs") := by decide +kernel
theorem call_allB (hc : X.calm = true) : CallR X (.builtin "all") (fun xs H Q => ∃ (p : Addr) (bs : List Bool), xs = [.ref p] ∧ SqL X.K H p (bs.map V.bl) ∧ Q (.bl (bs.all id)) H) := by
  intro pins s σ H xs us Q I r h
  obtain ⟨p, bs, rfl, hq, q⟩ := h
  obtain ⟨u, rfl, rx⟩ := vals1 r
  cases rx
  obtain ⟨its, rv, pl, hz⟩ := I.list hq
  have ei : its = bs.map Value.bool := vals_bls rv
  obtain ⟨o, ho, _⟩ := id pl.isList
  have hne : p ≠ s.heap.objs.size := Nat.ne_of_lt (Heap.lt_size ho)
  refine call_all_walk (wpAny_pyIter_list pl.isList ?_)
  refine ⟨s.heap.objs.size, _, _, _, _, _, fun i => bs.getD i false, rfl, Walks.list (A := X.A.in1) (I.ok.hd hc) s.heap.objs.size p hne its.toArray, ⟨⟨_, Heap.get?_push_size _ rfl, rfl, rfl⟩, pl.isList.at fun o e => Heap.get?_push_of_some _ e⟩, ?_, ?_⟩
  · intro i v s' Q' E' hP hQ
    have hv : its[i]? = some v := by simpa using hP
    rw [ei, List.getElem?_map] at hv
    cases z : bs[i]? with
    | none => rw [z] at hv; cases hv
    | some b =>
      rw [z] at hv
      cases hv
      refine wpAny_truthy_bool ?_
      have : bs.getD i false = b := by rw [List.getD_eq_getElem?_getD, z]; rfl
      rw [← this]
      exact hQ
  · intro h' tk hk
    have f := I.fpOk (H' := H) (Nat.le_refl _) (I.hok.fresh (Nat.le_refl _))
    obtain ⟨f0, f1, f2, f3, f4, f5⟩ := f
    have I2 : Inv X pins σ H { s with heap := h', toks := tk } := I.turned (t' := tk) (it := s.heap.objs.size) (fun b o hb e => hk b o (by simpa using hb) (Heap.get?_push_of_some _ e)) f0 f1 f3 f4 f5
    have ea : (List.range its.toArray.size).all (fun i => bs.getD i false) = bs.all id := by
      rw [ei, List.size_toArray, List.length_map]
      have e1 : bs = (List.range bs.length).map (fun i => bs.getD i false) := by
        refine List.ext_getElem (by simp) fun j h1 h2 => ?_
        rw [List.getElem_map, List.getElem_range, List.getD_eq_getElem?_getD, List.getElem?_eq_getElem h1]
        rfl
      conv => rhs; rw [e1]
      rw [List.all_map]
      rfl
    exact ⟨.bl (bs.all id), H, I2, by rw [ea]; rfl, q⟩
theorem cut_init {α : Type} (f : α → V) (xs : List α) : cutV (xs.map f) none (some (-1)) = xs.dropLast.map f := by
  have e : HT.sIx (xs.map f).length (xs.map f).length (some (-1)) = xs.length - 1 := by
    rw [List.length_map]
    simp only [HT.sIx]
    split <;> omega
  unfold cutV
  rw [HT.sIx_none, e, List.drop_zero, Nat.sub_zero, List.dropLast_eq_take, List.map_take]
end
section
variable {X : Cx} {a b : Expr} {ta : TA} {p p2 pos pos2 : Pos}
def nums (i : Int) (n : Nat) : List Int := (List.range n).map fun k : Nat => i + (k : Int)
def tListRng (ta : TA) : TE := fun σ H Q => ta σ H fun vs H1 => ∃ i j : Int, vs = [.int i, .int j] ∧ (-1000000 ≤ i ∧ i < 1000000 ∧ -1000000 ≤ j ∧ j < 1000000) ∧ ∀ l, H1 l = none → Q (.ref l) (upd H1 l (.lst ((nums i (j - i).toNat).map V.int)))
end
end L2
namespace L2
open PySem PySem.Spec PyProof.Rows
namespace So
open PySem.W
section
variable {n : Nat} {key : Nat → Int} {cmp : Nat → Nat → (Bool → Shared → Prop) → Shared → Prop} {s : Shared}
end
end So
end L2
namespace L2
open PySem PySem.Spec PyProof.Rows
def prevSp (sp : Nat → Sp) : Nat → Sp
  | 0 => fun _ _ _ _ => False
  | n + 1 => sp n
section
variable {P : Program} {w : World} {K : PySem.W.Frag} {mg : Str → Option Value} {base : Heap} {x qual : Str} {st : Stmt} {f : Addr} {fd : FuncData} {ps : List Str} {sp : Nat → Sp}
theorem rec_go {CX : CXT} (L : Nat) (step : ∀ n, FnOk P w K mg base CX (L + n) f fd ps (prevSp sp n) → FnOk P w K mg base CX (L + n + 1) f fd ps (sp n)) : ∀ n, FnOk P w K mg base CX (L + n + 1) f fd ps (sp n)
  | 0 => step 0 ⟨fun _ _ _ _ h => h.elim, fun _ _ _ _ _ _ _ _ _ _ _ _ _ h => h.elim⟩
  | n + 1 => step (n + 1) (rec_go L step n)
theorem recE_mk (F : Fun K x qual st f fd) (b : Binds K fd ps []) (m : mg x = some (.ref f)) (L : Nat) (step : ∀ n, DefE P w K mg base x (L + n) ps (prevSp sp n) → FnOk P w K mg base (CXE P w) (L + n + 1) f fd ps (sp n)) (n : Nat) : DefE P w K mg base x (L + n + 1) ps (sp n) :=
  defE_mk F (rec_go L (fun n ok => step n (defE_mk F ok b m)) n) b m
end
theorem compL {K : PySem.W.Frag} {a : Addr} {caps : List Nat} {tt : TT} {te : TE} {σ : St} {H : Hp} {Q : VK} (xs : List V) (Pv : Nat → List V → Hp → Prop) (hn : xs.length ≤ sizeLine) (h0 : Pv 0 [] H) (hl : ∀ i ys H, Pv i ys H → SqL K H a xs)
    (hs : ∀ i (x : V) ys H, xs[i]? = some x → Pv i ys H → tt (some x :: capV caps σ) H fun b H4 => if b = true then te (some x :: capV caps σ) H4 fun v H5 => Pv (i + 1) (ys ++ [v]) H5 else Pv (i + 1) ys H4)
    (hd : ∀ ys H, Pv xs.length ys H → ∀ p, H p = none → Q (.ref p) (upd H p (.lst ys))) : CompIt (Itl K a) caps tt te σ H Q := by
  refine ⟨xs.length, fun i ys H => i ≤ xs.length ∧ Pv i ys H, hn, ⟨Nat.zero_le _, h0⟩, ?_⟩
  rintro i ys H2 ⟨hi, p⟩
  have hS := hl i ys H2 p
  by_cases hlt : i < xs.length
  · have hv : xs[i]? = some xs[i] := List.getElem?_eq_getElem hlt
    refine .inr ⟨⟨_, _, hS, hv⟩, hlt, ?_⟩
    rintro y H3 ⟨rfl, hy⟩
    have hxy : y = xs[i] := (Option.some.inj (hv.symm.trans (hy _ hS))).symm
    subst hxy
    have key := hs i _ ys H3 hv p
    have e2 : (fun (b : Bool) (H4 : Hp) => if b = true then te (some xs[i] :: capV caps σ) H4 fun v H5 => Pv (i + 1) (ys ++ [v]) H5 else Pv (i + 1) ys H4) = fun b H4 => if b = true then te (some xs[i] :: capV caps σ) H4 fun v H5 => i + 1 ≤ xs.length ∧ Pv (i + 1) (ys ++ [v]) H5 else i + 1 ≤ xs.length ∧ Pv (i + 1) ys H4 := by
      funext b H4
      have z : i + 1 ≤ xs.length := hlt
      simp only [z, true_and]
    rw [e2] at key
    exact key
  · have e : i = xs.length := by omega
    subst e
    exact .inl ⟨⟨_, hS, Nat.le_refl _⟩, hd ys H2 p⟩
section
variable {X : Cx}
theorem bt_sorted : bootBuiltins "sorted" = some (.builtin "sorted") := by decide +kernel
theorem call_sortedI (_ : X.calm = true) : CallR X (.builtin "sorted") (fun xs H Q => ∃ (p : Addr) (ns : List Int), xs = [.ref p] ∧ SqL X.K H p (ns.map V.int) ∧ ns.length < 64 ∧ ∀ ms : List Int, ms.Perm ns → ms.Pairwise (· ≤ ·) → ∀ l, H l = none → Q (.ref l) (upd H l (.lst (ms.map V.int)))) := by
  intro pins s σ H xs us Q I r h
  obtain ⟨p, ns, rfl, hq, h64, q⟩ := h
  obtain ⟨u, rfl, rx⟩ := vals1 r
  cases rx
  obtain ⟨its, rv, pl, hz⟩ := I.list hq
  have hi := intsAre_of rv
  have hl := hi.length
  refine sorted_ints pl.isList hi (by omega) fun out ms h1 h2 h3 => ?_
  obtain ⟨e, he⟩ := sortedAll_at s.heap its out
  refine ⟨.ref (s.heap.objs.size + 1), _, I.laid (t' := s.toks) (o := .lst (ms.map V.int)) (fun b u e => sortedAll_old e) (Nat.le_succ _) ?_, rfl, q ms h2 h3 _ (I.hok.fresh (Nat.le_succ _))⟩
  have hz' : ms.length ≤ sizeLine := by
    rw [h2.length_eq]
    rw [List.length_map] at hz
    exact hz
  exact ⟨by rw [List.length_map]; exact hz', out.toList, e, vals_of_ints h1, by rw [he]⟩
end
namespace So
open PySem.W
section
variable {pr : Program} {wo : World} {Ar : Around} {Er : Value → Shared → Prop} {st : Shared}
end
end So
section
variable {X : Cx}
end
end L2
namespace L2
open PySem PySem.Spec PyProof.Rows
def tComp2 (caps : List Nat) (wi : TI) (g : TG) (tt : TT) (te : TE) : TE := fun σ H Q => wi σ H fun J H1 => ∃ (n : Nat) (W : Nat → List V → Hp → Prop), n ≤ sizeLine ∧ W 0 [] H1 ∧ ∀ i ys H2, W i ys H2 →
  (J.stop i H2 ∧ ∀ p, H2 p = none → Q (.ref p) (upd H2 p (.lst ys))) ∨
  (J.go i H2 ∧ i < n ∧ ∀ x H3, J.yld i H2 x H3 → ∀ o1 o2 : Option V, g x (o1 :: o2 :: capV caps σ) H3 fun σ4 H4 => (∃ v1 v2 : V, σ4 = some v1 :: some v2 :: capV caps σ) ∧ tt σ4 H4 fun b H5 => if b = true then te σ4 H5 fun v H6 => W (i + 1) (ys ++ [v]) H6 else W (i + 1) ys H5)
section
variable {X : Cx} {scope : Scope} {cl : List (Str × Addr)} {caps : List Nat} {xs : List Str} {C : Addr} {s : Shared} {H : Hp} {fp : List Addr} {pins : List (Addr × Obj)} {σ : St}
theorem comp_start2 (I : Inv X pins σ H s) (hcl : ClOk X.env.cells cl) (hk : scope.kind = .function) (hfp : ∀ b ∈ fp, FpOk X pins H b) (hlt : ∀ b ∈ fp, b < s.heap.objs.size)
    (hhas : ((relabel scope X.env).names.all fun y => !(y.2 == .cell || y.2 == .free) || (cl.lookup y.1).isSome) = true) (hC : s.heap.objs.size ≤ C)
    (hcap : CapsOk X (relabel scope X.env) cl caps xs) (hlen : caps.length = xs.length) {x y : Str} {h₁ : Heap} {t : Nat} {m : Str → Option Value} (hn : h₁.Ns C m) (kp : ∀ b o, s.heap.get? b = some o → h₁.get? b = some o) :
    Inv (compCx X (x :: y :: xs) scope cl C s H fp) [] (none :: none :: capV caps σ) H { s with heap := h₁, toks := t } where
  ok := comp_ok I hcl hk hfp hlt hhas hC
  os := rfl
  bare := I.bare
  base := Un.kept kp
  loc := by
    refine ⟨m, hn, fun i z v h1 h2 _ => ?_⟩
    cases i with
    | zero => simp at h2
    | succ i =>
    cases i with
    | zero => simp at h2
    | succ i =>
      obtain ⟨j, e1, e2, e3, e4, c, e5⟩ := cap_get (X := X) (scope := scope) hcap (i := i) (by simpa [compCx] using h1) (by simpa using h2)
      obtain ⟨m₀, _, hl⟩ := I.loc
      obtain ⟨u, r, lk⟩ := hl j z v e1 e2 (.inr (.inl e3))
      refine ⟨u, r, .inr ⟨.inl e4, c, e5, ?_⟩⟩
      rcases lk with ⟨z1, _⟩ | ⟨_, c', q1, q2⟩
      · have z' : X.env.scope.names.lookup z = some .local := z1
        rw [e3] at z'
        cases z'
      · rw [hcl.get e5] at q1
        cases q1
        obtain ⟨o, ho, hd⟩ := q2
        exact ⟨o, kp _ _ ho, hd⟩
  cell := fun z c e => by
    obtain ⟨v, o, ho, hd⟩ := I.cell z c (hcl.get e)
    exact ⟨v, o, kp _ _ ho, hd⟩
  free := I.hok.fresh hC
  freeC := fun z c e => I.freeC z c (hcl.get e)
  pin := fun p hp => by
    have hp' : p ∈ ([] : List (Addr × Obj)) := hp
    cases hp'
  hok := I.hok.kept kp
  len := by simp [compCx, capV, hlen]
end
section
variable {X : Cx}
theorem comp_block2 {elt iter tgt : Expr} {x y : Str} {pos : Pos} {g : TG} {ifs : List Expr} {scope : Scope} {cl : List (Str × Addr)} {caps : List Nat} {xs : List Str} {tt : TT} {te : TE}
    (hc : X.calm = true) (hcl : ClOk X.env.cells cl) (hcap : CapsOk X (relabel scope X.env) cl caps xs) (hlen : caps.length = xs.length)
    (hkind : scope.kind = .function) (hcell : ∀ y ∈ scope.names, y.2 ≠ .cell)
    (hhas : ((relabel scope X.env).names.all fun y => !(y.2 == .cell || y.2 == .free) || (cl.lookup y.1).isSome) = true)
    (hg : ∀ C s H fp, PG (compCx X (x :: y :: xs) scope cl C s H fp) tgt g)
    (ht : ∀ C s H fp, PTs (compCx X (x :: y :: xs) scope cl C s H fp) ifs tt) (he : ∀ C s H fp, PE (compCx X (x :: y :: xs) scope cl C s H fp) elt te)
    {pins : List (Addr × Obj)} {σ : St} {H1 : Hp} {s2 : Shared} {it : Addr} {fp : List Addr} {tn : Nat → Heap → Prop} {J : It} {Q : VK}
    (I2 : Inv X pins σ H1 s2) (T : Turn X.prog X.w X.K tgt J fp it tn) (st0 : tn 0 s2.heap) (hfp : ∀ b ∈ fp, FpOk X pins H1 b)
    (hq : ∃ (n : Nat) (W : Nat → List V → Hp → Prop), n ≤ sizeLine ∧ W 0 [] H1 ∧ ∀ i ys H2, W i ys H2 →
      (J.stop i H2 ∧ ∀ p, H2 p = none → Q (.ref p) (upd H2 p (.lst ys))) ∨
      (J.go i H2 ∧ i < n ∧ ∀ x H3, J.yld i H2 x H3 → ∀ o1 o2 : Option V, g x (o1 :: o2 :: capV caps σ) H3 fun σ4 H4 => (∃ v1 v2 : V, σ4 = some v1 :: some v2 :: capV caps σ) ∧ tt σ4 H4 fun b H5 => if b = true then te σ4 H5 fun v H6 => W (i + 1) (ys ++ [v]) H6 else W (i + 1) ys H5))
    {RR : Value → Addr → Result → Shared → Prop}
    (hRR : ∀ s1 D C m H', Inv X pins σ H' s1 → s1.heap.Ns C m → Loose X pins H' C → Q (.ref D) H' → RR (.ref D) C (.ok .next) s1) :
    wpAny (model X.prog X.w) X.A (newList []) (fun acc s₃ => wpAny (model X.prog X.w) X.A (newFunctionEnv scope X.env.globals cl [] X.env.qual none .none (some X.env)) (fun cenv s₄ =>
      codeAny (model X.prog X.w) X.A (.compStart (.ListComp elt [⟨tgt, iter, ifs, 0⟩] scope pos) 0 (.ref it) acc { cenv with scope := relabel scope X.env }) (RR acc cenv.locals) s₄) X.xe s₃) X.xe s2 := by
  obtain ⟨n, W, hn, w0, hW⟩ := hq
  have hlt : ∀ b ∈ fp, b < s2.heap.objs.size := fun b hb => by
    obtain ⟨o, ho, _⟩ := T.obj 0 s2.heap st0 b hb
    exact Heap.lt_size ho
  refine wpAny_newObj_type (wpAny_newFunctionEnv hcell (by intro y hy; simp at hy) (fun h₁ hns₁ hsb₁ => ?_) hkind)
  dsimp only at hns₁ hsb₁ ⊢
  generalize hH2 : s2.heap.push { cls := .type "list", dict := none, data := .seq ([] : List Value).toArray } = G at hns₁ hsb₁ ⊢
  have hC : G.objs.size = s2.heap.objs.size + 1 := by rw [← hH2, Heap.size_push]
  have hDC : s2.heap.objs.size ≠ G.objs.size := by omega
  have old : ∀ b o, s2.heap.get? b = some o → h₁.get? b = some o := fun b o e => hsb₁.extBut b o (adr (by have h1 : @LT.lt Nat _ b s2.heap.objs.size := Heap.lt_size e; omega)) (Heap.get?_push_of_some _ (hH2 ▸ Heap.get?_push_of_some _ e))
  have hacc : h₁.get? s2.heap.objs.size = some { cls := .type "list", dict := none, data := .seq ([] : List Value).toArray } :=
    hsb₁.extBut _ _ hDC (Heap.get?_push_of_some _ (hH2 ▸ Heap.get?_push_size _ rfl))
  have I3 : Inv (compCx X (x :: y :: xs) scope cl G.objs.size s2 H1 fp) [] (none :: none :: capV caps σ) H1 { s2 with heap := h₁, toks := s2.toks + ([] : List (Str × Value)).length } :=
    comp_start2 I2 hcl hkind hfp hlt hhas (by omega) hcap hlen hns₁ old
  have st1 : tn 0 h₁ := T.keep 0 _ _ st0 fun b hb o e => old b o e
  have fpX : ∀ {pins' : List (Addr × Obj)} {H' : Hp} (b : Addr), b ∈ fp → H' b = none → (∀ p ∈ pins', p.1 ≠ b) → FpOk (compCx X (x :: y :: xs) scope cl G.objs.size s2 H1 fp) pins' H' b := fun b hb hh hp =>
    ⟨hh, fun z => by have h1 : @LT.lt Nat _ b s2.heap.objs.size := hlt b hb; have z' : @Eq Nat b G.objs.size := z; omega, fun z => by
      rcases List.mem_cons.mp (I2.stkSub b z) with q | q
      · exact (hfp b hb).2.1 q
      · exact (hfp b hb).2.2.1 q, .inl hb, fun y c e => (hfp b hb).2.2.2.2.1 y c (hcl.get e), fun p hp' => hp p hp'⟩
  let XC := compCx X (x :: y :: xs) scope cl G.objs.size s2 H1 fp
  have loop : ∀ s3 : Shared, s3 = { s2 with heap := h₁, toks := s2.toks + ([] : List (Str × Value)).length } →
      codeAny (model X.prog X.w) X.A (.compLoop (.ListComp elt [⟨tgt, iter, ifs, 0⟩] scope pos) 0 (.ref it) (.ref s2.heap.objs.size) (compEnvC scope cl G.objs.size X.env))
        (RR (.ref s2.heap.objs.size) G.objs.size) s3 := by
    rintro s3 rfl
    refine comp_loop (fun m s' => ∃ (i : Nat) (ys : List V) (Hn : Hp) (its : List Value) (k : Nat) (v0 v1 : Option V), m = n + 1 - i ∧ i ≤ n ∧ ys.length ≤ i ∧ W i ys Hn ∧ Vals ys its ∧ tn i s'.heap ∧ (∀ b ∈ fp, Hn b = none) ∧
      Inv XC [(s2.heap.objs.size, { cls := .type "list", data := .seq its.toArray k })] (v0 :: v1 :: capV caps σ) Hn s') ?_ (n + 1) ?_
    · rintro m s' ⟨i, ys, Hn, its, k, v0, v1, rfl, hin, hyl, w, rv, st, hfn, J'⟩
      have pD := J'.pin _ (List.mem_append_right _ (List.mem_singleton.mpr rfl))
      have neD : ∀ b ∈ fp, ∀ p ∈ [((s2.heap.objs.size, ({ cls := .type "list", data := .seq its.toArray k } : Obj)))], p.1 ≠ b := fun b hb p hp z => by
        have h1 : @LT.lt Nat instLTNat b s2.heap.objs.size := hlt b hb
        rw [List.mem_singleton.mp hp] at z
        have z' : @Eq Nat s2.heap.objs.size b := z
        omega
      rcases hW i ys Hn w with ⟨hstop, fin⟩ | ⟨hgo, hi', hgo'⟩
      · -- it stops
        refine wpAny_mono (T.done XC rfl rfl rfl hc i _ s' _ Hn (fun _ _ => False) J' (fun b hb => fpX b hb (hfn b hb) (neD b hb)) st hstop) (fun r s1 hr => ?_) fun _ _ z => z
        obtain ⟨rfl, J1⟩ := hr
        obtain ⟨mC, hnC, _⟩ := J1.loc
        have pD1 := J1.pin _ (List.mem_append_right _ (List.mem_singleton.mpr rfl))
        have hD' : s1.heap.get? s2.heap.objs.size = some { cls := .type "list", data := .seq its.toArray k } := pD1.1
        have hHD : Hn s2.heap.objs.size = none := pD1.2.1
        have hHC : Hn G.objs.size = none := J1.free
        have un : Un (frs X.stack) fp H1 (upd Hn s2.heap.objs.size (.lst ys)) s2.heap s1.heap := by
          have u := J1.base
          have lt2 : ∀ b o, s2.heap.get? b = some o → b ≠ G.objs.size ∧ b ≠ s2.heap.objs.size := fun b o e => by
            have h1 := ltN e
            exact ⟨adr (by omega), adr (by omega)⟩
          refine ⟨u.keep, u.slot, fun b o e n1 n2 => ?_, u.there, fun b zs e => ?_, fun b o u' e => ?_, fun b ps e => ?_⟩
          · rw [upd_ne (lt2 b o e).2]
            exact u.free b o e n1 n2
          · have q := u.tups b zs e
            rw [upd_ne (fun z => by rw [z, hHD] at q; cases q)]
            exact q
          · have q := u.frzs b o u' e
            rw [upd_ne (fun z => by rw [z, hHD] at q; cases q)]
            exact q
          · obtain ⟨more, q⟩ := u.tbls b ps e
            refine ⟨more, ?_⟩
            rw [upd_ne (fun z => by rw [z, hHD] at q; cases q)]
            exact q
        have hok : HOk X.prog X.w (upd Hn s2.heap.objs.size (.lst ys)) s1.heap := fun a o e => by
          by_cases ha : a = s2.heap.objs.size
          · subst ha
            rw [upd_same] at e
            cases e
            exact ⟨by omega, its, k, rv, hD'⟩
          · rw [upd_ne ha] at e
            have q : ObjOk X.prog X.w Hn s1.heap a o := J1.hok a o e
            refine q.stay (fun b u' hb e' => e') (fun b e' => ?_) fun b zs e' => ?_
            · rw [upd_ne (fun z => by rw [z, hHD] at e'; cases e')]; exact e'
            · rw [upd_ne (fun z => by rw [z, hHD] at e'; cases e')]; exact e'
        have I4 : Inv X pins σ (upd Hn s2.heap.objs.size (.lst ys)) s1 :=
          I2.call' (ch := fp) J1.os un hok J1.bare fun b hb => ⟨(hfp b hb).2.2.2.1, (hfp b hb).2.1, (hfp b hb).2.2.2.2.1, (hfp b hb).2.2.2.2.2⟩
        refine hRR s1 _ _ mC _ I4 hnC ⟨by rw [upd_ne (Ne.symm hDC)]; exact hHC, fun z => ?_, by have := I2.sz; omega, fun y c e z => ?_, fun p hp z => ?_⟩ (fin _ hHD)
        · have h1 : @LT.lt Nat instLTNat X.env.locals s2.heap.objs.size := I2.lt
          have z' : @Eq Nat G.objs.size X.env.locals := z
          omega
        · obtain ⟨v', o', ho', _⟩ := I2.cell y c e
          have h1 := ltN ho'
          have z' : @Eq Nat c G.objs.size := z
          omega
        · have h1 := ltN (I2.pin p hp).1
          have z' : @Eq Nat p.1 G.objs.size := z
          omega
      · -- a turn
        refine wpAny_mono (T.item XC rfl rfl rfl hc i _ s' _ Hn (fun _ _ => False) J' (fun b hb => fpX b hb (hfn b hb) (neD b hb)) st hgo) (fun r s1 hr => ?_) fun _ _ z => z
        obtain ⟨u, rfl, hr⟩ := hr
        refine wpAny_mono hr (fun _ s2' h2 => ?_) fun _ _ z => z
        obtain ⟨v, H3, J1, ru, hy, st1', hf3⟩ := h2
        have ob4 : ∀ b ∈ fp, ∃ o, s2'.heap.get? b = some o ∧ ∀ v, o.data ≠ .cell v := fun b hb => T.obj _ _ st1' b hb
        have J3 := J1.pinned (fun b hb => fpX b hb (hf3 b hb) (neD b hb)) ob4
        have tnAt : ∀ {σ' : St} {H' : Hp} {s'' : Shared}, Inv XC ([(s2.heap.objs.size, ({ cls := .type "list", data := .seq its.toArray k } : Obj))] ++ pinsAt fp s2'.heap) σ' H' s'' → tn (i + 1) s''.heap ∧ ∀ b ∈ fp, H' b = none := fun J4 =>
          ⟨T.keep _ _ _ st1' fun b hb o e => (J4.pin (b, o) (List.mem_append_right _ (List.mem_append_right _ (mem_pinsAt hb e)))).1, fun b hb => by
            obtain ⟨o, e, _⟩ := ob4 b hb
            exact (J4.pin (b, o) (List.mem_append_right _ (List.mem_append_right _ (mem_pinsAt hb e)))).2.1⟩
        refine wpAny_mono (hg _ _ _ _ _ s2' _ H3 v u _ J3 ru (hgo' v H3 hy v0 v1)) (fun _ s4 h4 => ?_) fun _ _ z => z
        obtain ⟨σ4, H3', J3', ⟨w1, w2, rfl⟩, q3⟩ := h4
        refine thn (ht _ _ _ _ _ s4 _ H3' _ J3' q3) fun ok s5 ⟨H4, J4, q4⟩ => ?_
        cases ok with
        | false =>
          rw [if_neg (by simp)]
          have q4' : W (i + 1) ys H4 := q4
          obtain ⟨a1, a2⟩ := tnAt J4
          exact ⟨n + 1 - (i + 1), by omega, i + 1, ys, H4, its, k, some w1, some w2, rfl, by omega, by omega, q4', rv, a1, a2, J4.unpinned⟩
        | true =>
          rw [if_pos rfl]
          have q4' : te (some w1 :: some w2 :: capV caps σ) H4 fun v H5 => W (i + 1) (ys ++ [v]) H5 := q4
          refine thn (he _ _ _ _ _ s5 _ H4 _ J4 q4') fun uv s6 ⟨y, H5, J5, ry, q5⟩ => ?_
          obtain ⟨a1, a2⟩ := tnAt J5
          have pD6 := J5.pin _ (List.mem_append_right _ (List.mem_append_left _ (List.mem_singleton.mpr rfl)))
          have hl6 := rv.length
          refine call_meets F.slot_list_append ⟨_, pD6.1, rfl⟩ F.entry_list_append (F.args_list_append_2 _ _) (PySem.list_append s2.heap.objs.size its.toArray k uv (by rw [List.size_toArray]; omega)) ⟨pD6.1, ?_⟩
          have J6 : Inv XC [] (some w1 :: some w2 :: capV caps σ) H5 s6 := J5.pins_of fun p hp => by cases hp
          have ne6 : s2.heap.objs.size ∉ fp := fun z => by have h1 : @LT.lt Nat instLTNat s2.heap.objs.size s2.heap.objs.size := hlt _ z; omega
          have J7 : Inv XC [] (some w1 :: some w2 :: capV caps σ) H5 { s6 with heap := s6.heap.update s2.heap.objs.size (Obj.mapSeq fun xs => xs.push uv), toks := s6.toks } :=
            J6.turned (it := s2.heap.objs.size) (fun b o hb e => by rw [Heap.get?_update_other _ _ (Ne.symm hb)]; exact e) pD6.2.1 (fun z => hDC z) (.inr (Nat.le_refl _)) (fun y c e z => by
              have e1 := I2.cell y c (hcl.get e)
              obtain ⟨v', o', ho', _⟩ := e1
              have h1 := ltN ho'
              have z' : @Eq Nat c s2.heap.objs.size := z
              omega) (fun p hp => by cases hp)
          refine ⟨n + 1 - (i + 1), by omega, i + 1, ys ++ [y], H5, its ++ [uv], k + 1, some w1, some w2, rfl, by omega, by rw [List.length_append, List.length_singleton]; omega, q5, rv.append (.cons ry .nil), ?_, a2, ?_⟩
          · refine T.keep _ _ _ a1 fun b hb o e => ?_
            show (s6.heap.update s2.heap.objs.size _).get? b = some o
            rw [Heap.get?_update_other _ _ (fun z => ne6 (by rw [z]; exact hb))]
            exact e
          · refine J7.pins_of fun p hp => ?_
            rw [List.mem_singleton.mp hp]
            refine ⟨?_, pD6.2.1, fun z => hDC z, pD6.2.2.2.1, fun v' z => ?_⟩
            · show (s6.heap.update s2.heap.objs.size _).get? s2.heap.objs.size = _
              rw [Heap.get?_update_self _ pD6.1 rfl]
              simp only [Obj.mapSeq, List.push_toArray]
              rw [if_neg (by simp)]
            · have z' : Data.seq _ _ = Data.cell v' := z
              cases z'
    · exact ⟨0, [], H1, [], 0, none, none, by omega, by omega, by simp, w0, .nil, st1, fun b hb => (hfp b hb).1, I3.pins_of fun p hp => by
        rw [List.mem_singleton.mp hp]
        refine ⟨hacc, I2.hok.fresh (Nat.le_refl _), fun z => hDC z, fun z => ?_, fun v' z => ?_⟩
        · have := I2.stkFree _ z
          rcases List.mem_cons.mp (I2.stkSub _ z) with q | q
          · have h1 : @LT.lt Nat instLTNat X.env.locals s2.heap.objs.size := I2.lt
            have z' : @Eq Nat s2.heap.objs.size X.env.locals := q
            omega
          · exact I2.nofs (Nat.le_refl _) q
        · have z' : Data.seq _ _ = Data.cell v' := z
          cases z'⟩
  exact codeAny_compStart_list (loop _ rfl) (T.self X.A 0 _ _ _ st1 (loop _ rfl))
theorem ps_comp2 {elt iter : Expr} {x y z : Str} {px py pz pt pos spos : Pos} {k1 : Nat} {ifs : List Expr} {scope : Scope} {cl : List (Str × Addr)} {k : Nat} (caps : List Nat) (xs : List Str) {wi : TI} {tt : TT} {te : TE}
    (hsw : swapsWith (.ListComp elt [⟨.Tuple [.Name x px, .Name y py] k1 pt, iter, ifs, 0⟩] scope pos) (some (.Name z pz)) spos.line X.env = pure true)
    (hNX : X.N.Nodup) (hk : X.N[k]? = some z) (hz : X.env.scope.names.lookup z = some .local)
    (hc : X.calm = true) (hclos : closureFor scope X.env = pure cl) (hcl : ClOk X.env.cells cl) (hcap : CapsOk X (relabel scope X.env) cl caps xs) (hlen : caps.length = xs.length)
    (hkind : scope.kind = .function) (hcell : ∀ y ∈ scope.names, y.2 ≠ .cell) (hnames : ∀ y ∈ scope.names, y.2 = .local → scope.names.lookup y.1 = some .local)
    (hhas : ((relabel scope X.env).names.all fun y => !(y.2 == .cell || y.2 == .free) || (cl.lookup y.1).isSome) = true)
    (hx : (relabel scope X.env).names.lookup x = some .local) (hy : (relabel scope X.env).names.lookup y = some .local) (hN : (x :: y :: xs).Nodup) (hi : PI X (.Tuple [.Name x px, .Name y py] k1 pt) iter wi) (ht : ∀ C s H fp, PTs (compCx X (x :: y :: xs) scope cl C s H fp) ifs tt) (he : ∀ C s H fp, PE (compCx X (x :: y :: xs) scope cl C s H fp) elt te)
    (hs : ∀ v, foldedSetIterable iter X.env v = pure v := by intro _; rfl) : PS X (.Assign [.Name z pz] (.ListComp elt [⟨.Tuple [.Name x px, .Name y py] k1 pt, iter, ifs, 0⟩] scope pos) spos) (tAsg (tComp2 caps wi (gTup X.K 2 (gCons (gName 0) (gCons (gName 1) gNil))) tt te) (gName k)) := by
  intro pins s σ H D I h
  rw [exec_Assign_Name_used _ _ _ _ hsw]
  refine wpAny_bind (wpAny_standAt (wpAny_bind ?_))
  show wpAny _ X.A (do let _ ← comprehension (.ListComp elt [⟨.Tuple [.Name x px, .Name y py] k1 pt, iter, ifs, 0⟩] scope pos) scope X.env _ (newList []) false (eval iter X.env) (some (assign (.Name z pz) X.env))) _ _ s
  refine wpAny_bind (wpAny_mono (wpAny_comprehension_free (use := some (assign (.Name z pz) X.env)) (Q := fun _ s' => SP X pins D .next s') rfl hs hclos hkind hnames
    (wpAny_mono (hi pins s σ H _ I h) (fun xv s₁ h₁ => wpAny_mono h₁ (fun itv s2 h2 => ?_) fun _ _ e => e) fun _ _ e => e)) (fun _ s' hq => wpAny_pure (wpAny_pure hq)) fun _ _ e => e)
  obtain ⟨it, fp, tn, J, H1, rfl, I2, T, st0, hfp, hq⟩ := h2
  refine comp_block2 (Q := fun v H1 => gName k v σ H1 D.nx) (RR := fun acc C => compPost (model X.prog X.w) X.A X.xe (some (assign (.Name z pz) X.env)) (fun _ s' => SP X pins D .next s') acc C) hc hcl hcap hlen hkind hcell hhas (fun C s H fp => pg_tup (X := compCx X (x :: y :: xs) scope cl C s H fp) hc (pgs_cons (pg_name (i := 0) hN rfl (.inl hx) (.inr hx)) (pgs_cons (pg_name (i := 1) hN rfl (.inl hy) (.inr hy)) pgs_nil))) ht he I2 T st0 hfp hq ?_
  intro s1 Da C m H' I4 hn l q
  show wpAny _ X.A (assign (.Name z pz) X.env (.ref Da)) _ _ s1
  refine wpAny_assign_Name (store_ok2 (v := .ref Da) I4 hNX hk (.inl hz) rfl (fun s4 I5 hsb => ?_) (.inr hz))
  obtain ⟨a, hsa, ha⟩ := hsb
  have hCa : C ≠ a := by
    rcases ha with ha | ha
    · rw [ha]; exact l.2.1
    · exact Ne.symm (l.2.2.2.1 z a ha)
  refine ⟨m, hn.sameBut hsa hCa, fun h' hsb => ⟨_, H', I5.letGo l hsb, q⟩⟩
end
end L2
namespace L2
open PySem PySem.Spec PyProof.Rows
section
variable {K : PySem.W.Frag} {H : Hp} {l m : Addr} {as cs : List Addr} {fs gs : List (Int × Int)} {Q : VK}
end
def CompIt2 (J : It) (caps : List Nat) (g : TG) (tt : TT) (te : TE) (σ : St) (H : Hp) (Q : VK) : Prop := ∃ (n : Nat) (W : Nat → List V → Hp → Prop), n ≤ sizeLine ∧ W 0 [] H ∧ ∀ i ys H2, W i ys H2 →
  (J.stop i H2 ∧ ∀ p, H2 p = none → Q (.ref p) (upd H2 p (.lst ys))) ∨
  (J.go i H2 ∧ i < n ∧ ∀ x H3, J.yld i H2 x H3 → ∀ o1 o2 : Option V, g x (o1 :: o2 :: capV caps σ) H3 fun σ4 H4 => (∃ v1 v2 : V, σ4 = some v1 :: some v2 :: capV caps σ) ∧ tt σ4 H4 fun b H5 => if b = true then te σ4 H5 fun v H6 => W (i + 1) (ys ++ [v]) H6 else W (i + 1) ys H5)
theorem w_comp2 {caps : List Nat} {wi : TI} {g : TG} {tt : TT} {te : TE} {σ : St} {H : Hp} {Q : VK} : tComp2 caps wi g tt te σ H Q = wi σ H fun J H1 => CompIt2 J caps g tt te σ H1 Q := rfl
end L2
namespace L2
open PySem PySem.Spec PyProof.Rows
section
variable {X : Cx}
end
end L2
namespace L2
open PySem PySem.Spec PyProof.Rows
namespace Dx
section
variable {pr : Program} {wo : World} {Ar : Around} {Er : Value → Shared → Prop} {st : Shared} {d it : Addr} {od : Obj} {es : Array DictEntry} {ep i : Nat}
end
end Dx
def Itd (o : Obj) (a : Addr) (kvs : List (List Key × V)) : It :=
  ⟨fun i H => H a = some (.frz o (.dT kvs)) ∧ i < kvs.length, fun i H x H' => H' = H ∧ ∃ b k v, x = .ref b ∧ kvs[i]? = some (k, v) ∧ H b = some (.tup (k.map kV)), fun i H => H a = some (.frz o (.dT kvs)) ∧ kvs.length ≤ i⟩
def iDict (td : TE) : TI := fun σ H R => td σ H fun x H1 => ∃ a kvs, x = .ref a ∧ H1 a = some (.dT kvs) ∧ ∀ o, R (Itd o a kvs) (upd H1 a (.frz o (.dT kvs)))
section
variable {X : Cx} {tg : Expr}
end
namespace Dx
end Dx
section
variable {X : Cx}
end
end L2
namespace L2
open PySem PySem.Spec PyProof.Rows
section
variable {X : Cx} {pins : List (Addr × Obj)} {σ : St} {H : Hp} {s : Shared} {h' : Heap}
theorem Inv.turnedS {t' : Nat} {ch : List Addr} (I : Inv X pins σ H s) (k : ∀ b u, b ∉ ch → s.heap.get? b = some u → h'.get? b = some u) (f : ∀ b, b ∈ ch → FpOk X pins H b) : Inv X pins σ H { s with heap := h', toks := t' } := by
  have nit : ∀ b u, H b = some u → b ∉ ch := fun b u e z => ne_of_none e (f b z).1 rfl
  refine I.step (g' := s.gens) (d' := s.drawn) (ch := ch) (fun b hb => ?_) (fun b o _ _ hc e _ => k b o hc e) (fun b o _ _ hc e _ => ⟨o.slots, k b o hc e⟩) (fun _ _ _ _ n => n)
    (fun b o hc e => ⟨o, k b o hc e⟩) (fun _ _ e => e) (fun _ _ _ e => e) (fun b ps e => ⟨#[], by rw [e]; simp⟩) (fun m hm => ?_) (fun b u e => ?_) I.bare
  · obtain ⟨f0, f1, f2, f3, f4, f5⟩ := f b hb
    exact ⟨f3, f1, f4, f5⟩
  · obtain ⟨o, es, ep, ho, r⟩ := hm
    exact ⟨o, es, ep, k _ o (fun z => (f _ z).2.1 rfl) ho, r⟩
  · refine (I.hok b u e).stay (fun c v hc q => k c v ?_ q) (fun _ q => q) fun _ _ q => q
    rcases hc with z | z
    · rw [z]; exact nit b u e
    · exact nit c _ z
theorem Inv.turnedN {t' : Nat} {a : Addr} {o : HO} {ch : List Addr} (I : Inv X pins σ H s) (k : ∀ b u, b ∉ ch → s.heap.get? b = some u → h'.get? b = some u) (ha : a = s.heap.objs.size) (new : ObjOk X.prog X.w (upd H a o) h' a o) (f : ∀ b, b ∈ ch → FpOk X pins H b) :
    Inv X pins σ (upd H a o) { s with heap := h', toks := t' } := by
  have hnone : H a = none := I.hok.fresh (by rw [ha]; exact Nat.le_refl _)
  have lts : ∀ b u, s.heap.get? b = some u → b ≠ a := fun b u q => by rw [ha]; exact Nat.ne_of_lt (Heap.lt_size q)
  have ntr : ∀ b u, H b = some u → b ∉ ch := fun b u q z => ne_of_none q (f b z).1 rfl
  refine I.step (g' := s.gens) (d' := s.drawn) (ch := ch) (fun b hb => ?_) (fun b u _ _ hc q _ => k b u hc q) (fun b u _ _ hc q _ => ⟨u.slots, k b u hc q⟩) (fun b u _ q n => by rw [upd_ne (lts b u q)]; exact n)
    (fun b u hc q => ⟨u, k b u hc q⟩) (fun b zs q => by rw [upd_ne (ne_of_none q hnone)]; exact q) (fun b u v q => by rw [upd_ne (ne_of_none q hnone)]; exact q) (fun b ps q => ⟨#[], by rw [upd_ne (ne_of_none q hnone), q]; simp⟩) (fun m hm => ?_) (fun b u q => ?_) I.bare
  · obtain ⟨f0, f1, f2, f3, f4, f5⟩ := f b hb
    exact ⟨f3, f1, f4, f5⟩
  · obtain ⟨u, es, ep, ho, r⟩ := hm
    exact ⟨u, es, ep, k _ u (fun z => (f _ z).2.1 rfl) ho, r⟩
  · by_cases hb : b = a
    · subst hb
      rw [upd_same] at q
      cases q
      exact new
    · rw [upd_ne hb] at q
      have w : ObjOk X.prog X.w H s.heap b u := I.hok b u q
      have ntr' : ∀ c, (c = b ∨ ∃ u, H c = some u) → c ∉ ch := fun c hc => by
        rcases hc with z | ⟨_, z⟩
        · rw [z]; exact ntr b u q
        · exact ntr c _ z
      refine w.stay (fun c v hc q' => k c v (ntr' c ?_) q') (fun c q' => ?_) fun c zs q' => ?_
      · rcases hc with z | z
        · exact .inl z
        · exact .inr ⟨_, z⟩
      · rw [upd_ne (ne_of_none q' hnone)]; exact q'
      · rw [upd_ne (ne_of_none q' hnone)]; exact q'
end
def Itz (K : PySem.W.Frag) (a b : Addr) : It :=
  ⟨fun i H => ∃ xs ys x y, SqL K H a xs ∧ SqL K H b ys ∧ xs[i]? = some x ∧ ys[i]? = some y, fun i H x H' => ∃ y z t, (∀ xs, SqL K H a xs → xs[i]? = some y) ∧ (∀ xs, SqL K H b xs → xs[i]? = some z) ∧ H t = none ∧ x = .ref t ∧ H' = upd H t (.tup [y, z]), fun i H => ∃ xs ys, SqL K H a xs ∧ SqL K H b ys ∧ (xs.length ≤ i ∨ ys.length ≤ i)⟩
theorem ane {x y : Nat} (h : x ≠ y) : ¬ (x : Addr) = (y : Addr) := h
theorem ne_list {h : Heap} {l c : Addr} {xs : Array Value} (hl : h.IsList l xs) (hc : ∃ o, h.get? c = some o ∧ o.cls ≠ .type "list") : l ≠ c := by
  obtain ⟨o, ho, n⟩ := hc
  obtain ⟨u, hu, cu, _⟩ := hl
  intro z
  rw [z, ho] at hu
  cases hu
  exact n cu
section
variable {X : Cx} {e e2 : Expr} {te te2 : TE} {p pos : Pos}
def iZip (K : PySem.W.Frag) (tl tl2 : TE) : TI := fun σ H R => tl σ H fun x H1 => tl2 σ H1 fun y H2 => ∃ a b, x = .ref a ∧ y = .ref b ∧ (∃ xs, SqL K H2 a xs) ∧ (∃ ys, SqL K H2 b ys) ∧ R (Itz K a b) H2
end
end L2
namespace L2
open PySem PySem.Spec PyProof.Rows
section
variable {X : Cx} {e : Expr} {te : TE} {p p2 pos pos2 : Pos}
end
end L2
namespace L2
open PySem PySem.Spec PyProof.Rows
section
variable {X : Cx} {body suite suite2 : List Stmt} {b₀ b₁ : Stmt} {D D2 : Addr} {cx cx2 : Str} {np np2 hpos hpos2 pos : Pos} {tb : (St → XK) → TS} {ts ts2 : TS}
end
section
variable {X : Cx}
end
end L2
namespace L2
open PySem PySem.Spec PyProof.Rows
def Its (z : Str) : It := ⟨fun i _ => i < z.cps.size, fun i H x H' => H' = H ∧ ∃ c, z.cps[i]? = some c ∧ x = .str ⟨#[c]⟩, fun i _ => z.cps.size ≤ i⟩
theorem turn_str {P : Program} {w : World} {K : PySem.W.Frag} {tg : Expr} (z : Str) (t : Tok) (it : Addr) (T : String) (hT : T = "str_ascii_iterator" ∨ T = "str_iterator") : Turn P w K tg (Its z) [it] it (fun i h => h.IsStrIter it T z t i) where
  mem := by simp
  obj := fun i h st b hb => by
    have e : b = it := by simpa using hb
    subst e
    obtain ⟨o, e, c, d⟩ := st
    exact ⟨o, e, fun v z => by rw [d] at z; cases z⟩
  keep := fun i h h' st k => by
    obtain ⟨o, e, r⟩ := st
    exact ⟨o, k it (by simp) o e, r⟩
  item := by
    intro X hP hw hK hc i pins s σ H E I hf st hg
    subst hP hw hK
    obtain ⟨f0, f1, f2, f3, f4, f5⟩ := hf it (by simp)
    have hg' : i < z.cps.size := hg
    have hi : z.cps[i]? = some z.cps[i] := by simp [hg']
    have fin : ∀ h' : Heap, h'.IsStrIter it T z t (i + 1) → Heap.SameBut it s.heap h' → ∃ u, some (Value.str ⟨#[z.cps[i]]⟩ s.toks) = some u ∧
        wpAny (model X.prog X.w) X.A (letOwnedTupleGo tg (.ref it) u) (fun _ s2 => ∃ x H', Inv X pins σ H' s2 ∧ RelV x u ∧ (Its z).yld i H x H' ∧ s2.heap.IsStrIter it T z t (i + 1) ∧ ∀ b ∈ [it], H' b = none) E { s with heap := h', toks := s.toks + 1 } := fun h' st' sb => by
      have I1 : Inv X pins σ H { s with heap := h', toks := s.toks + 1 } := I.turned (t' := s.toks + 1) (fun b o hb e => (sb.2 b hb).trans e) f0 f1 f3 f4 f5
      obtain ⟨o, e, c, d⟩ := id st'
      exact ⟨_, rfl, go_of (s := { s with heap := h', toks := s.toks + 1 }) e c d (by rcases hT with rfl | rfl <;> decide) ⟨.str ⟨#[z.cps[i]]⟩, H, I1, ⟨_, rfl⟩, ⟨rfl, _, hi, rfl⟩, st', fun b hb => (hf b hb).1⟩⟩
    rcases hT with rfl | rfl
    · exact wpAny_pyNext_ascii_item st hi fun h' st' sb => fin h' st' sb
    · exact wpAny_pyNext_wide_item st hi fun h' st' sb => fin h' st' sb
  done := by
    intro X hP hw hK hc i pins s σ H E I hf st hg
    subst hP hw hK
    obtain ⟨f0, f1, f2, f3, f4, f5⟩ := hf it (by simp)
    have hg' : z.cps.size ≤ i := hg
    have hx : z.cps[i]? = none := by simp [hg']
    rcases hT with rfl | rfl
    · exact wpAny_pyNext_ascii_end (I.ok.hd hc) st hx fun h' eb => ⟨rfl, I.turned (t' := s.toks) (fun b o hb e => eb b o hb e) f0 f1 f3 f4 f5⟩
    · exact wpAny_pyNext_wide_end (I.ok.hd hc) st hx fun h' eb => ⟨rfl, I.turned (t' := s.toks) (fun b o hb e => eb b o hb e) f0 f1 f3 f4 f5⟩
  self := fun _ _ _ _ _ st h => by
    rcases hT with rfl | rfl
    · exact wpAny_pyIter_striter_ascii st h
    · exact wpAny_pyIter_striter_wide st h
def iStr (tl : TE) : TI := fun σ H R => tl σ H fun x H1 => ∃ z, x = .str z ∧ R (Its z) H1
theorem pi_str {X : Cx} {tg l : Expr} {tl : TE} (hl : PE X l tl) : PI X tg l (iStr tl) := by
  intro pins s σ H R I h
  refine thn (hl pins s σ H _ I h) fun v s1 ⟨x, H1, I1, r1, q1⟩ => ?_
  obtain ⟨z, e, q⟩ := q1
  subst e
  obtain ⟨t, rfl⟩ := r1
  have fp : ∀ b ∈ [s1.heap.objs.size], FpOk X pins H1 b := fun b hb => by
    have e : b = s1.heap.objs.size := by simpa using hb
    subst e
    exact I1.fpOk (Nat.le_refl _) (I1.hok.fresh (Nat.le_refl _))
  cases ha : z.cps.all (· < 128)
  · refine wpAny_pyIter_wide ha ?_
    exact ⟨s1.heap.objs.size, [s1.heap.objs.size], _, _, H1, rfl, I1.kept (t' := s1.toks) fun b o e => Heap.get?_push_of_some _ e, turn_str z t _ "str_iterator" (.inr rfl), ⟨_, Heap.get?_push_size _ rfl, rfl, rfl⟩, fp, q⟩
  · refine wpAny_pyIter_ascii ha ?_
    exact ⟨s1.heap.objs.size, [s1.heap.objs.size], _, _, H1, rfl, I1.kept (t' := s1.toks) fun b o e => Heap.get?_push_of_some _ e, turn_str z t _ "str_ascii_iterator" (.inl rfl), ⟨_, Heap.get?_push_size _ rfl, rfl, rfl⟩, fp, q⟩
section
variable {g : TG} {tb : TS} {D : Ends} {σ : St} {H : Hp} {caps : List Nat} {tt : TT} {te : TE} {Q : VK}
theorem compS (z : Str) (Pv : Nat → List V → Hp → Prop) (hn : z.cps.toList.length ≤ sizeLine) (h0 : Pv 0 [] H)
    (hs : ∀ i c ys H, z.cps.toList[i]? = some c → Pv i ys H → tt (some (.str ⟨#[c]⟩) :: capV caps σ) H fun b H4 => if b = true then te (some (.str ⟨#[c]⟩) :: capV caps σ) H4 fun v H5 => Pv (i + 1) (ys ++ [v]) H5 else Pv (i + 1) ys H4)
    (hd : ∀ ys H, Pv z.cps.toList.length ys H → ∀ p, H p = none → Q (.ref p) (upd H p (.lst ys))) : CompIt (Its z) caps tt te σ H Q := by
  have hsz : z.cps.toList.length = z.cps.size := by simp
  refine ⟨z.cps.size, fun i ys H => i ≤ z.cps.size ∧ Pv i ys H, by omega, ⟨Nat.zero_le _, h0⟩, ?_⟩
  rintro i ys H2 ⟨hi, p⟩
  by_cases hlt : i < z.cps.size
  · refine .inr ⟨hlt, hlt, ?_⟩
    rintro x H3 ⟨rfl, c, hc, rfl⟩
    have key := hs i c ys H3 (by simpa using hc) p
    have e2 : (fun (b : Bool) (H4 : Hp) => if b = true then te (some (.str ⟨#[c]⟩) :: capV caps σ) H4 fun v H5 => Pv (i + 1) (ys ++ [v]) H5 else Pv (i + 1) ys H4) = fun b H4 => if b = true then te (some (.str ⟨#[c]⟩) :: capV caps σ) H4 fun v H5 => i + 1 ≤ z.cps.size ∧ Pv (i + 1) (ys ++ [v]) H5 else i + 1 ≤ z.cps.size ∧ Pv (i + 1) ys H4 := by
      funext b H4
      have w : i + 1 ≤ z.cps.size := hlt
      simp only [w, true_and]
    rw [e2] at key
    exact key
  · have e : i = z.cps.size := by omega
    subst e
    exact .inl ⟨Nat.le_refl _, hd ys H2 (by rw [hsz]; exact p)⟩
end
section
variable {X : Cx}
def rStarts : V → List V → Hp → VK → Prop := fun x vs H Q => ∃ z y, x = .str z ∧ vs = [.str y] ∧ Q (.bl (Txt.startswith z y)) H
theorem mt_starts : MtM X "str.startswith" rStarts := by
  intro pins s σ H x xs v us Q I rx rs h
  obtain ⟨z, y, rfl, rfl, q⟩ := h
  obtain ⟨t, rfl⟩ := rx
  obtain ⟨u, rfl, t', rfl⟩ := Vals.one rs
  exact SC.startswith ⟨.bl _, H, I, rfl, q⟩
theorem vals_strs : ∀ (n : Nat) (l : List Str), Vals (l.map V.str) (strsFrom n l)
  | _, [] => .nil
  | n, x :: r => .cons ⟨_, rfl⟩ (vals_strs (n + 1) r)
def rSplit : V → List V → Hp → VK → Prop := fun x vs H Q => ∃ z y, x = .str z ∧ vs = [.str y] ∧ 0 < y.length ∧ z.length + 2 ≤ sizeLine ∧ ∀ l, H l = none → Q (.ref l) (upd H l (.lst ((Txt.split z y).map V.str)))
theorem mt_split : MtM X "str.split" rSplit := by
  intro pins s σ H x xs v us Q I rx rs h
  obtain ⟨z, y, rfl, rfl, hy, hz, q⟩ := h
  obtain ⟨t, rfl⟩ := rx
  obtain ⟨u, rfl, t', rfl⟩ := Vals.one rs
  have hy' : (y.length == 0) = false := by simpa using Nat.ne_of_gt hy
  have fin : ∀ (its : List Value) (tk : Nat), Vals ((Txt.split z y).map V.str) its → ((Txt.split z y).map V.str).length ≤ sizeLine → EP X pins σ Q (.ref s.heap.objs.size) { s with toks := tk, heap := s.heap.push { cls := .type "list", data := .seq its.toArray } } := fun its tk r hl =>
    ⟨.ref s.heap.objs.size, _, I.laid (t' := tk) (fun b o e => Heap.get?_push_of_some _ e) (Nat.le_refl _) (show ObjOk X.prog X.w _ _ _ (.lst _) from ⟨hl, its, 0, r, Heap.get?_push_size _ rfl⟩), rfl, q _ (I.hok.fresh (Nat.le_refl _))⟩
  have hpn : (Builtin.Str.partsBetween z (Builtin.Str.occurrences z y 0 z.length (z.length + 1)) y.length).length ≤ sizeLine := by
    have hh : (Builtin.Str.occurrences z y 0 z.length (z.length + 1)).length ≤ z.length + 1 := StrLaws.occ_length_le_len z y 0 z.length (z.length + 1)
    generalize (Builtin.Str.occurrences z y 0 z.length (z.length + 1)) = oc at hh
    generalize z.length = n at hh hz
    unfold Builtin.Str.partsBetween
    simp only [List.length_map, List.length_zip, List.length_cons, List.length_append, List.length_nil]
    refine Nat.le_trans (Nat.min_le_left _ _) ?_
    omega
  cases h1 : (decide (z.length < y.length) || decide (Builtin.Str.strKind z < Builtin.Str.strKind y))
  · cases hf : (Builtin.Str.occurrences z y 0 z.length (z.length + 1)).isEmpty
    · have e : Txt.split z y = Builtin.Str.partsBetween z (Builtin.Str.occurrences z y 0 z.length (z.length + 1)) y.length := (if_neg (ne_true_of_eq_false h1)).trans (if_neg (ne_true_of_eq_false hf))
      rw [e] at fin
      exact call_meets F.slot_str_split (typeIs_str _ _ _) F.entry_str_split (F.args_str_split_2 _ _) (meets_str_split_sep z y t t' h1 hy' hf (by omega) hpn) (fin _ _ (vals_strs _ _) (by rw [List.length_map]; exact hpn))
    · have e : Txt.split z y = [z] := (if_neg (ne_true_of_eq_false h1)).trans (if_pos hf)
      rw [e] at fin
      exact call_meets F.slot_str_split (typeIs_str _ _ _) F.entry_str_split (F.args_str_split_2 _ _) (meets_str_split_not_found z y t t' h1 hy' hf) (fin _ _ (.cons ⟨_, rfl⟩ .nil) (by show 1 ≤ sizeLine; decide))
  · have e : Txt.split z y = [z] := if_pos h1
    rw [e] at fin
    exact call_meets F.slot_str_split (typeIs_str _ _ _) F.entry_str_split (F.args_str_split_2 _ _) (meets_str_split_cannot_occur z y t t' h1) (fin _ _ (.cons ⟨_, rfl⟩ .nil) (by show 1 ≤ sizeLine; decide))
theorem strs_of : ∀ {zs : List Str} {us : List Value}, Vals (zs.map V.str) us → ∃ l : List (Str × Tok), us = strValues l ∧ l.map (·.1) = zs
  | [], _, .nil => ⟨[], rfl, rfl⟩
  | z :: zs, _, .cons ⟨t, e⟩ r => by
    obtain ⟨l, e1, e2⟩ := strs_of r
    exact ⟨(z, t) :: l, by rw [e, e1]; rfl, by rw [List.map_cons, e2]⟩
def rJoin (K : PySem.W.Frag) : V → List V → Hp → VK → Prop := fun x vs H Q => ∃ z a zs, x = .str z ∧ vs = [.ref a] ∧ SqL K H a (zs.map V.str) ∧ JoinOk z zs = true ∧ Q (.str (Txt.join z zs)) H
theorem mt_join : MtM X "str.join" (rJoin X.K) := by
  intro pins s σ H x xs v us Q I rx rs h
  obtain ⟨z, a, zs, rfl, rfl, hq, hj, q⟩ := h
  obtain ⟨t, rfl⟩ := rx
  obtain ⟨u, rfl, ru⟩ := Vals.one rs
  cases ru
  obtain ⟨its, r, p, _⟩ := I.list hq
  obtain ⟨l, rfl, el⟩ := strs_of r
  exact SC.join p.isList el hj fun t' k => ⟨.str _, H, I.tok _, ⟨_, rfl⟩, q⟩
def rSlS : V → Option Int → Option Int → Hp → VK → Prop := fun x lo hi H Q => ∃ z, x = .str z ∧ z.length ≤ sizeLine ∧ Q (.str (Txt.slice z lo hi)) H
theorem sl_str : SlR X rSlS := by
  intro pins s σ H x v vl vu lo hi sl Q I rx hs pl pu h
  obtain ⟨z, rfl, hz, q⟩ := h
  obtain ⟨t, rfl⟩ := rx
  refine ⟨"str", _, F.slot_str_getitem.lookup, typeIs_str _ _ _, ?_⟩
  have fin : ∀ (lo hi : Option Int), (∀ {Q : VK}, Q (.str (Txt.slice z lo hi)) H → (Txt.slice z lo hi).length ≤ sizeLine ∧ ∀ t' k, EP X pins σ Q (.str (Txt.slice z lo hi) t') { s with toks := k }) := fun lo hi {Q} q =>
    ⟨Nat.le_trans (Txt.slice_le z _ _) hz, fun t' k => ⟨.str _, H, I.tok _, ⟨_, rfl⟩, q⟩⟩
  cases pl with
  | none =>
    cases pu with
    | none => exact wpAny_getItem_str_slice (l := none) (u := none) (st := none) hs rfl (post_val_or_str (fin none none q))
    | int j u => exact wpAny_getItem_str_slice (l := none) (u := some (j, u)) (st := none) hs rfl (post_val_or_str (fin none (some j) q))
  | int i u' =>
    cases pu with
    | none => exact wpAny_getItem_str_slice (l := some (i, u')) (u := none) (st := none) hs rfl (post_val_or_str (fin (some i) none q))
    | int j u => exact wpAny_getItem_str_slice (l := some (i, u')) (u := some (j, u)) (st := none) hs rfl (post_val_or_str (fin (some i) (some j) q))
def rIntS : List V → Hp → VK → Prop := fun xs H Q => ∃ z n, xs = [.str z] ∧ PySem.intText? z = some n ∧ z.length ≤ 640 ∧ Q (.int n) H
theorem call_intS : CallR X (.type "int") rIntS := by
  intro pins s σ H xs us Q I r h
  obtain ⟨z, n, rfl, hn, hl, q⟩ := h
  obtain ⟨u, rfl, t, rfl⟩ := vals1 r
  exact PySem.W.KIN.call_text hn hl ⟨.int n, H, I.tok _, ⟨_, rfl⟩, q⟩
end
end L2
namespace L2
open PySem PySem.Spec PyProof.Rows
section
variable {M : Model} {A : Around} {EX : Value → Shared → Prop} {s : Shared} {env : Env}
end
section
variable {X : Cx} {pins : List (Addr × Obj)} {σ : St} {H : Hp} {s : Shared}
end
section
variable {prog : Program} {w : World} {A : Around} {R : Result → Shared → Prop} {s : Shared}
end
section
variable {X : Cx}
end
end L2
namespace Tx
open PySem PySem.NumText
def neg (l : List Nat) : Bool := match l with
  | 45 :: _ => true
  | _ => false
def figs (l : List Nat) : List Nat := match l with
  | 45 :: r => r
  | _ => l
theorem figs_of_neg {l : List Nat} (h : neg l = true) : l = 45 :: figs l := by
  unfold neg at h
  split at h
  · rfl
  · cases h
theorem figs_of_not {l : List Nat} (h : neg l = false) : figs l = l := by
  unfold neg at h
  unfold figs
  split at h
  · cases h
  · rfl
structure Wr (l : List Nat) : Prop where
  one : 1 ≤ (figs l).length
  most : (figs l).length ≤ 60
  all : ∀ c ∈ figs l, 48 ≤ c ∧ c ≤ 57
  head : ∀ r, figs l = 48 :: r → r = [] ∧ neg l = false
noncomputable instance (l : List Nat) : Decidable (Wr l) := Classical.propDecidable _
def valOf (l : List Nat) : Int := if neg l then -((digitsVal (figs l) : Nat) : Int) else ((digitsVal (figs l) : Nat) : Int)
theorem Wr.len {z : Str} (w : Wr z.cps.toList) : z.length ≤ 61 := by
  have h1 : z.length = z.cps.toList.length := by simp [Str.length]
  have h2 := w.most
  cases h : neg z.cps.toList with
  | true => rw [h1, figs_of_neg h]; simp only [List.length_cons]; omega
  | false => rw [h1, ← figs_of_not h]; omega
theorem Wr.reads {z : Str} (w : Wr z.cps.toList) : intText? z = some (valOf z.cps.toList) := by
  have hl := w.len
  have ne : figs z.cps.toList ≠ [] := fun e => by
    have := w.one
    rw [e] at this
    simp at this
  unfold valOf
  cases h : neg z.cps.toList with
  | true => exact intText_neg (figs_of_neg h) w.all ne (by omega)
  | false =>
    have e := figs_of_not h
    have hd := w.all
    rw [e] at hd ne ⊢
    exact intText_digits hd ne (by omega)
end Tx
namespace L2
open PySem PySem.Spec PyProof.Rows
theorem w_tys {K : PySem.W.Frag} {z : Str} {H : Hp} : tyV K "str" (.str z) H = True := eq_true rfl
end L2
namespace Tx
open PySem
theorem ext {a b : Str} (e : a.cps.toList = b.cps.toList) : a = b := by
  obtain ⟨x⟩ := a
  obtain ⟨y⟩ := b
  exact congrArg Str.mk (Array.toList_inj.mp e)
theorem len_list (z : Str) : z.length = z.cps.toList.length := by simp [Str.length]
theorem sl_from {z : Str} {i : Int} (h0 : 0 ≤ i) (h : i ≤ z.length) : (Txt.slice z (some i) none).cps.toList = z.cps.toList.drop i.toNat := by
  rw [PyProof.Rows.slice_from_eq h0 h rfl]
  show List.take _ _ = _
  rw [List.take_of_length_le]
  rw [List.length_drop, ← len_list]
  omega
theorem starts_one {z : Str} {c : Nat} : Txt.startswith z ⟨#[c]⟩ = decide (z.cps.toList.head? = some c) := by
  obtain ⟨⟨l⟩⟩ := z
  cases l with
  | nil => simp [Txt.startswith, Str.length]
  | cons a r =>
    unfold Txt.startswith Builtin.Str.subAt
    simp only [Str.length, List.size_toArray, List.length_cons, List.length_nil, Nat.zero_add, List.head?_cons, Option.some.injEq]
    rw [Bool.eq_iff_iff]
    simp
theorem minus : (Str.ofString "-") = ⟨#[45]⟩ := by decide +kernel
theorem nought : (Str.ofString "0") = ⟨#[48]⟩ := by decide +kernel
theorem neg_head {l : List Nat} : neg l = decide (l.head? = some 45) := by
  cases l with
  | nil => rfl
  | cons a r =>
    by_cases h : a = 45
    · subst h
      simp [neg]
    · simp only [List.head?_cons, Option.some.injEq, h, decide_false]
      unfold neg
      split
      · rename_i z
        cases z
        exact absurd rfl h
      · rfl
theorem starts_minus {z : Str} : Txt.startswith z (Str.ofString "-") = neg z.cps.toList := by rw [minus, starts_one, neg_head]
end Tx
namespace Tx
open PySem
def words (z : Str) : List Str := Txt.split z (Str.ofString ",")
noncomputable def poly (z : Str) : Option (List Int) := if (words z).length ≤ 13 ∧ ∀ w, w ∈ words z → Wr w.cps.toList then some ((words z).map fun w => valOf w.cps.toList) else none
theorem poly_some {z : Str} {ms : List Int} (h : poly z = some ms) : (words z).length ≤ 13 ∧ (∀ w, w ∈ words z → Wr w.cps.toList) ∧ ms = (words z).map fun w => valOf w.cps.toList := by
  unfold poly at h
  split at h
  · rename_i c
    exact ⟨c.1, c.2, (Option.some.inj h).symm⟩
  · cases h
theorem poly_of {z : Str} (h1 : (words z).length ≤ 13) (h2 : ∀ w, w ∈ words z → Wr w.cps.toList) : poly z = some ((words z).map fun w => valOf w.cps.toList) := if_pos ⟨h1, h2⟩
end Tx
namespace Tx
open PySem PySem.NumText
theorem fold_lt : ∀ (l : List Nat) (a : Nat), (∀ c ∈ l, 48 ≤ c ∧ c ≤ 57) → l.foldl (fun acc c => acc * 10 + (c - 48)) a < (a + 1) * 10 ^ l.length
  | [], a, _ => by simp
  | c :: l, a, h => by
    have hc := h c (.head _)
    have ih := fold_lt l (a * 10 + (c - 48)) fun x hx => h x (.tail _ hx)
    refine Nat.lt_of_lt_of_le ih ?_
    rw [List.length_cons, Nat.pow_succ, Nat.mul_comm (10 ^ l.length) 10, ← Nat.mul_assoc]
    exact Nat.mul_le_mul_right _ (by omega)
theorem str_len {x : Int} (h : x.natAbs < 10 ^ 60) : (Str.ofString (toString x)).length ≤ 61 := by
  rw [ofString_length]
  exact int_text_length_le10 (by decide) h
theorem texts_sum : ∀ (ms : List Int), (∀ x, x ∈ ms → x.natAbs < 10 ^ 60) → ((ms.map fun x => Str.ofString (toString x)).map (·.length)).sum ≤ 61 * ms.length
  | [], _ => Nat.le_refl _
  | x :: ms, h => by
    have ih := texts_sum ms fun y hy => h y (.tail _ hy)
    have hx := str_len (h x (.head _))
    simp only [List.map_cons, List.sum_cons, List.length_cons]
    omega
theorem comma : (Str.ofString ",").length = 1 := by decide +kernel
theorem join_ok {ms : List Int} (hl : ms.length ≤ 14) (h : ∀ x, x ∈ ms → x.natAbs < 10 ^ 60) : JoinOk (Str.ofString ",") (ms.map fun x => Str.ofString (toString x)) = true := by
  have := texts_sum ms h
  refine PyProof.Rows.joinOk_of ?_
  rw [comma, List.length_map]
  omega
theorem join_len {ms : List Int} (hl : ms.length ≤ 14) (h : ∀ x, x ∈ ms → x.natAbs < 10 ^ 60) : (Txt.join (Str.ofString ",") (ms.map fun x => Str.ofString (toString x))).length ≤ 868 := by
  have h1 := texts_sum ms h
  have h2 := StrLaws.join_length_le (Str.ofString ",") (ms.map fun x => Str.ofString (toString x))
  rw [comma, List.length_map] at h2
  unfold Txt.join
  rw [StrLaws.glued_eq_join]
  omega
end Tx
namespace L2
open PySem PySem.Spec PyProof.Rows
@[irreducible] def PAj (X : Cx) (es : List Expr) (ta : TA) : Prop := PA X es ta
theorem PAj.of {X : Cx} {es : List Expr} {ta : TA} (h : PA X es ta) : PAj X es ta := by unfold PAj; exact h
end L2
namespace L2
open PySem
theorem seqX {t u : TS} {D : Ends} {σ : St} {H : Hp} (h : ∀ X : St → Hp → Prop, (∀ σ' H', u D σ' H' → X σ' H') → t { D with nx := X } σ H) : tSeq t u D σ H := h (u D) fun _ _ z => z
theorem byX {G : Prop} (h : ∀ X : Prop, (G → X) → X) : G := h G id
end L2
namespace L2
open PySem PySem.Spec PyProof.Rows
def entsOf (w : World) (l : List (Str × Tok × Value)) : Array DictEntry := (l.map fun x => ({ hash := PyData.keyHash w.params x.1, key := .str x.1 x.2.1, val := x.2.2 } : DictEntry)).toArray
structure KDict (K : PySem.W.Frag) (w : World) (a : Addr) (l : List (Str × Tok × Value)) : Prop where
  at_ : ∃ ep, K.lookup a = some { cls := .type "dict", data := .dict (entsOf w l) ep }
  no : (a == sysModules) = false
  nd : (l.map (·.1)).Nodup
def kvsOf (l : List (Str × Tok × Value)) : List (Key × Value) := l.map fun x => (Sum.inr x.1, x.2.2)
def atK (l : List (Str × Tok × Value)) (z : Str) : Option Value := (l.find? fun x => x.1 = z).map (·.2.2)
theorem kvs_at (l : List (Str × Tok × Value)) (z : Str) : valueAt (kvsOf l) (Sum.inr z : Key) = atK l z := by
  induction l with
  | nil => rfl
  | cons x l ih =>
    unfold valueAt kvsOf atK at *
    simp only [List.map_cons, List.find?_cons]
    by_cases c : x.1 = z
    · have : (Sum.inr x.1 : Key) = Sum.inr z := by rw [c]
      simp [c]
    · have : ¬ (Sum.inr x.1 : Key) = Sum.inr z := fun e => c (Sum.inr.inj e)
      simp only [decide_eq_false c, decide_eq_false this]
      exact ih
theorem kvs_pairs {P : Program} {w : World} : ∀ l : List (Str × Tok × Value), Pairs (mixKind P w) (l.map fun x => ({ hash := PyData.keyHash w.params x.1, key := .str x.1 x.2.1, val := x.2.2 } : DictEntry)) (kvsOf l)
  | [] => .nil
  | x :: l => .cons (mixKind_str P w x.1 x.2.1) rfl (kvs_pairs l)
theorem KDict.dict {P : Program} {w : World} {K : PySem.W.Frag} {a : Addr} {l : List (Str × Tok × Value)} {h : Heap} (d : KDict K w a l) (k : K.In h) : h.DictOf (mixKind P w) a (kvsOf l) := by
  obtain ⟨ep, e⟩ := d.at_
  refine ⟨_, _, ep, k _ _ e, ⟨rfl, rfl, rfl⟩, rfl, fun x hx => ?_, ?_, ?_⟩
  · unfold entsOf at hx
    rw [List.mem_toArray, List.mem_map] at hx
    obtain ⟨y, _, rfl⟩ := hx
    exact ⟨Sum.inr y.1, mixKind_str P w y.1 y.2.1, rfl⟩
  · unfold entsOf
    exact kvs_pairs l
  · have e2 : (kvsOf l).map (·.1) = (l.map (·.1)).map (Sum.inr : Str → Key) := by
      unfold kvsOf
      rw [List.map_map, List.map_map]
      rfl
    rw [e2]
    exact List.Pairwise.map _ (fun _ _ n z => n (Sum.inr.inj z)) d.nd
def tKGet (l : List (Str × Tok × Value)) (ti : TE) : TE := fun σ H Q => ti σ H fun y H1 => ∃ z b, y = .str z ∧ atK l z = some (.ref b) ∧ Q (.ref b) H1
def tKIn (l : List (Str × Tok × Value)) (ti : TE) : TE := fun σ H Q => ti σ H fun y H1 => ∃ z, y = .str z ∧ Q (.bl (atK l z).isSome) H1
def tKNot (l : List (Str × Tok × Value)) (ti : TE) : TE := fun σ H Q => ti σ H fun y H1 => ∃ z, y = .str z ∧ Q (.bl (!(atK l z).isSome)) H1
section
variable {X : Cx} {x : Str} {p pos : Pos} {i : Expr} {ti : TE} {a : Addr} {l : List (Str × Tok × Value)}
theorem pe_kget (D : KDict X.K X.w a l) (hg : Gl X x) (hm : X.mg x = some (.ref a)) (hi : PE X i ti) (hs : NoSl i) (hdb : (x == ("__debug__" : Str)) = false := by decide) : PE X (.Subscript (.Name x p) i pos) (tKGet l ti) := by
  intro pins s σ H Q I h
  refine subD_of PySem.F.slot_dict_getitem.lookup hs (ld_glob I hg hm ?_ hdb)
  refine thn (hi pins s σ H _ I h) fun iv s2 ⟨y, H2, I2, ry, z, b, ey, g, q2⟩ => ?_
  subst ey
  have dd : s2.heap.DictOf (mixKind X.prog X.w) a (kvsOf l) := D.dict I2.kIn
  exact ⟨dd.typeIs, wpAny_getItem_of (kV_is (k := Sum.inr z) ry) dd.mapOf ((kvs_at l z).trans g) ⟨.ref b, H2, I2.tok _, rfl, q2⟩⟩
theorem pc_kin (D : KDict X.K X.w a l) (hg : Gl X x) (hm : X.mg x = some (.ref a)) (hi : PE X i ti) (hdb : (x == ("__debug__" : Str)) = false := by decide) : PC X .In i (.Name x p) (tKIn l ti) := by
  intro pins s σ H Q I h
  refine thn (hi pins s σ H _ I h) fun iv s2 ⟨y, H2, I2, ry, z, ey, q2⟩ => ld_glob I2 hg hm ?_ hdb
  subst ey
  have dd : s2.heap.DictOf (mixKind X.prog X.w) a (kvsOf l) := D.dict I2.kIn
  refine wpAny_in_of (kV_is (k := Sum.inr z) ry) D.no dd.mapOf ?_
  rw [kvs_at]
  exact ⟨.bl _, H2, I2.tok _, rfl, q2⟩
theorem pc_knot (D : KDict X.K X.w a l) (hg : Gl X x) (hm : X.mg x = some (.ref a)) (hi : PE X i ti) (hdb : (x == ("__debug__" : Str)) = false := by decide) : PC X .NotIn i (.Name x p) (tKNot l ti) := by
  intro pins s σ H Q I h
  refine thn (hi pins s σ H _ I h) fun iv s2 ⟨y, H2, I2, ry, z, ey, q2⟩ => ld_glob I2 hg hm ?_ hdb
  subst ey
  have dd : s2.heap.DictOf (mixKind X.prog X.w) a (kvsOf l) := D.dict I2.kIn
  refine wpAny_notIn_of (kV_is (k := Sum.inr z) ry) D.no dd.mapOf ?_
  rw [kvs_at]
  exact ⟨.bl _, H2, I2.tok _, rfl, q2⟩
end
def tCallV (T : Addr → Sp → Prop) (E : XK) (tf : TE) (t : TA) : TE := fun σ H Q => tf σ H fun f H1 => ∃ g sp, f = .ref g ∧ T g sp ∧ t σ H1 fun vs H2 => sp vs H2 Q E
structure TabOk (P : Program) (w : World) (K : PySem.W.Frag) (mg : Str → Option Value) (base : Heap) (CX : CXT) (k : Nat) (T : Addr → Sp → Prop) : Prop where
  ok : ∀ g sp, T g sp → ∃ fd ps, FnOk P w K mg base CX k g fd ps sp ∧ Binds K fd ps [] ∧ PySem.W.keepIn K (.ref g) = true
section
variable {X : Cx} {CX : CXT} {k j : Nat} {E : XK} {T : Addr → Sp → Prop} {pos : Pos} {fe e : Expr} {es : List Expr} {tf : TE} {t : TA}
theorem pe_callV (hT : TabOk X.prog X.w X.K X.mg X.base CX j T) (hf : PE X fe tf) (hr : Room k X.A) (hx : Passes CX X E) (ha : PA X (e :: es) t) (hjk : j ≤ k := by decide)
    (hev : eval (.Call fe (e :: es) [] pos) X.env = (do callWith pos (← eval fe X.env) [] (backTo pos (starEach (e :: es) X.env)) (backToKw pos (keywordEach [] X.env))) := by rfl)
    (he : starEach (e :: es) X.env = (false, eval e X.env) :: starEach es X.env := by rfl) (hpl : (backTo pos (starEach es X.env)).any (·.1) = false := by rfl) :
    PE X (.Call fe (e :: es) [] pos) (tCallV T E tf t) := by
  intro pins s σ H Q I h
  rw [hev]
  refine wpAny_bind (thn (hf pins s σ H _ I h) fun u s1 ⟨v, H1, I1, rv, g, sp, ev, tg, q⟩ => ?_)
  subst ev
  obtain rfl : u = Value.ref g := rv
  obtain ⟨fd, ps, F, b, kp⟩ := hT.ok g sp tg
  refine PySem.W.callWith_K (h₀ := X.base) I.ok.mod.kin kp (thn (ha pos pins s1 σ H1 _ I1 q) fun us s2 ⟨vs, H2, I2, r, q2⟩ => ⟨I2.kIn, ?_⟩) he hpl
  exact run_fn F (hr.mono hjk) b .nil hx I2 r (by rw [List.append_nil]; exact q2)
end
end L2
namespace Tx
open PySem PySem.NumText
theorem cut_eq {c : Nat} : ∀ {a b X Y : List Nat}, c ∉ a → c ∉ b → a ++ c :: X = b ++ c :: Y → a = b ∧ X = Y
  | [], [], X, Y, _, _, h => ⟨rfl, (List.cons.inj h).2⟩
  | [], y :: b, X, Y, _, hb, h => absurd (by rw [← (List.cons.inj h).1]; exact .head _) hb
  | x :: a, [], X, Y, ha, _, h => absurd (by rw [(List.cons.inj h).1]; exact .head _) ha
  | x :: a, y :: b, X, Y, ha, hb, h => by
    obtain ⟨e1, e2⟩ := List.cons.inj h
    obtain ⟨e3, e4⟩ := cut_eq (fun z => ha (.tail _ z)) (fun z => hb (.tail _ z)) e2
    exact ⟨by rw [e1, e3], e4⟩
theorem app_list (a b : Str) : (a ++ b).cps.toList = a.cps.toList ++ b.cps.toList := by
  show (a.cps ++ b.cps).toList = _
  simp
theorem join_cons (c : Nat) (w v : Str) (r : List Str) : (Str.join ⟨#[c]⟩ (w :: v :: r)).cps.toList = w.cps.toList ++ c :: (Str.join ⟨#[c]⟩ (v :: r)).cps.toList := by
  show (w ++ (⟨#[c]⟩ : Str) ++ Str.join ⟨#[c]⟩ (v :: r)).cps.toList = _
  rw [app_list, app_list, List.append_assoc]
  rfl
theorem join_inj {c : Nat} : ∀ (A B : List Str), A ≠ [] → B ≠ [] → (∀ w ∈ A, c ∉ w.cps.toList) → (∀ w ∈ B, c ∉ w.cps.toList) → (Str.join ⟨#[c]⟩ A).cps.toList = (Str.join ⟨#[c]⟩ B).cps.toList → A = B
  | [], _, h, _, _, _, _ => absurd rfl h
  | _, [], _, h, _, _, _ => absurd rfl h
  | [a], [b], _, _, _, _, h => by rw [ext (a := a) (b := b) h]
  | [a], b :: v :: r, _, _, ha, _, h => by
    rw [join_cons] at h
    have h : a.cps.toList = b.cps.toList ++ c :: (Str.join ⟨#[c]⟩ (v :: r)).cps.toList := h
    exact absurd (by rw [h]; simp) (ha a (.head _))
  | a :: v :: r, [b], _, _, _, hb, h => by
    rw [join_cons] at h
    have h : a.cps.toList ++ c :: (Str.join ⟨#[c]⟩ (v :: r)).cps.toList = b.cps.toList := h
    exact absurd (by rw [← h]; simp) (hb b (.head _))
  | a :: v :: r, b :: u :: t, _, _, ha, hb, h => by
    rw [join_cons, join_cons] at h
    obtain ⟨e1, e2⟩ := cut_eq (ha a (.head _)) (hb b (.head _)) h
    rw [ext e1, join_inj (v :: r) (u :: t) (List.cons_ne_nil _ _) (List.cons_ne_nil _ _) (fun w hw => ha w (.tail _ hw)) (fun w hw => hb w (.tail _ hw)) e2]
theorem split_ne (z : Str) (y : Str) : Txt.split z y ≠ [] := by
  unfold Txt.split
  split
  · exact List.cons_ne_nil _ _
  · split
    · exact List.cons_ne_nil _ _
    · rw [StrLaws.partsBetween_eq]
      obtain ⟨p, q, e⟩ := StrLaws.partsFrom_ne z y.length 0 (Builtin.Str.occurrences z y 0 z.length (z.length + 1))
      rw [e]
      exact List.cons_ne_nil _ _
theorem split_of {c : Nat} {ws : List Str} (h0 : ws ≠ []) (h : ∀ w ∈ ws, c ∉ w.cps.toList) : Txt.split (Str.join ⟨#[c]⟩ ws) ⟨#[c]⟩ = ws := by
  refine join_inj (c := c) _ _ (split_ne _ _) h0 (StrLaws.split_free _ c) h ?_
  rw [StrLaws.join_split]
def dg (m : Nat) : List Nat := (Nat.toDigits 10 m).map Char.toNat
theorem digit_all : ∀ d : Nat, d < 10 → 48 ≤ (Nat.digitChar d).toNat ∧ (Nat.digitChar d).toNat ≤ 57 := by decide
theorem dg_all (m : Nat) : ∀ c ∈ dg m, 48 ≤ c ∧ c ≤ 57 := by
  unfold dg
  induction m using Nat.strongRecOn with
  | _ m ih =>
    by_cases h : m < 10
    · rw [Nat.toDigits_of_lt_base h]
      intro c hc
      rw [List.map_cons, List.map_nil, List.mem_singleton] at hc
      rw [hc]
      exact digit_all m h
    · have hm : m % 10 < 10 := Nat.mod_lt m (by decide)
      have t : Nat.toDigits 10 (m / 10) ++ Nat.toDigits 10 (m % 10) = Nat.toDigits 10 (10 * (m / 10) + m % 10) := Nat.toDigits_append_toDigits (by decide) (by omega) hm
      rw [Nat.div_add_mod] at t
      rw [← t, List.map_append, Nat.toDigits_of_lt_base hm]
      intro c hc
      rcases List.mem_append.mp hc with z | z
      · exact ih (m / 10) (by omega) c z
      · rw [List.map_cons, List.map_nil, List.mem_singleton] at z
        rw [z]
        exact digit_all _ hm
theorem dg_val (m : Nat) : digitsVal (dg m) = m := PySem.W.KIN.val_back m
theorem dg_len {k m : Nat} (hk : 1 ≤ k) (h : m < 10 ^ k) : (dg m).length ≤ k := by
  unfold dg
  rw [List.length_map]
  exact PyProof.Rows.digits10_le hk h
theorem dg_one (m : Nat) : 1 ≤ (dg m).length := by
  unfold dg
  rw [List.length_map]
  exact PyProof.Rows.tDigits_len_ge 10 m
theorem dg_head {m : Nat} {r : List Nat} (h : dg m = 48 :: r) : r = [] := by
  have h1 := dg_val m
  rw [h, digitsVal_zero] at h1
  have h2 : digitsVal r < 10 ^ r.length := by
    have := fold_lt r 0 fun c hc => dg_all m c (by rw [h]; exact .tail _ hc)
    rw [Nat.zero_add, Nat.one_mul] at this
    exact this
  cases r with
  | nil => rfl
  | cons c r =>
    rw [h1] at h2
    have := dg_len (k := (c :: r).length) (by simp) h2
    rw [h] at this
    simp at this
    omega
theorem not_neg {l : List Nat} (h : ∀ c ∈ l, 48 ≤ c ∧ c ≤ 57) : neg l = false := by
  unfold neg
  split
  · have := h 45 (.head _)
    omega
  · rfl
def tx (x : Int) : Str := Str.ofString (toString x)
theorem tx_nat (m : Nat) : (tx (m : Int)).cps.toList = dg m := PySem.W.KIN.signs_num m
theorem tx_neg (m : Nat) : (tx (-((m + 1 : Nat) : Int))).cps.toList = 45 :: dg (m + 1) := by
  unfold tx
  have e1 : toString (-((m + 1 : Nat) : Int)) = "-" ++ toString ((m + 1 : Nat) : Int) := rfl
  rw [e1]
  have e2 : (Str.ofString ("-" ++ toString ((m + 1 : Nat) : Int))).cps.toList = 45 :: (Str.ofString (toString ((m + 1 : Nat) : Int))).cps.toList := by
    simp [Str.ofString_eq_toList]
  rw [e2, PySem.W.KIN.signs_num]
  rfl
theorem tx_wr {x : Int} (h : x.natAbs < 10 ^ 60) : Wr (tx x).cps.toList ∧ valOf (tx x).cps.toList = x := by
  rcases (show (∃ m : Nat, x = m) ∨ ∃ m : Nat, x = -((m + 1 : Nat) : Int) from by
    rcases (show x < 0 ∨ 0 ≤ x by omega) with z | z
    · exact .inr ⟨x.natAbs - 1, by omega⟩
    · exact .inl ⟨x.toNat, by omega⟩) with ⟨m, rfl⟩ | ⟨m, rfl⟩
  · rw [tx_nat]
    have nn := not_neg (dg_all m)
    have ef := figs_of_not nn
    refine ⟨⟨by rw [ef]; exact dg_one m, by rw [ef]; exact dg_len (by decide) (by simpa using h), by rw [ef]; exact dg_all m, fun r e => ⟨dg_head (by rw [← ef]; exact e), nn⟩⟩, ?_⟩
    unfold valOf
    rw [nn, if_neg (by decide), ef, dg_val]
  · rw [tx_neg]
    have ef : figs (45 :: dg (m + 1)) = dg (m + 1) := rfl
    refine ⟨⟨by rw [ef]; exact dg_one _, by rw [ef]; exact dg_len (by decide) (by rw [Int.natAbs_neg, Int.natAbs_natCast] at h; exact h), by rw [ef]; exact dg_all _, fun r e => ?_⟩, ?_⟩
    · rw [ef] at e
      have h1 := dg_head e
      have h2 := dg_val (m + 1)
      rw [e, h1] at h2
      exact absurd h2 (by show ¬ (0 * 10 + (48 - 48) = m + 1); omega)
    · show (if true = true then -((digitsVal (figs (45 :: dg (m + 1))) : Nat) : Int) else _) = _
      rw [if_pos rfl, ef, dg_val]
theorem tx_signs (x : Int) : ∀ c ∈ (tx x).cps.toList, c = 45 ∨ (48 ≤ c ∧ c ≤ 57) := by
  rcases (show (∃ m : Nat, x = m) ∨ ∃ m : Nat, x = -((m + 1 : Nat) : Int) from by
    rcases (show x < 0 ∨ 0 ≤ x by omega) with z | z
    · exact .inr ⟨x.natAbs - 1, by omega⟩
    · exact .inl ⟨x.toNat, by omega⟩) with ⟨m, rfl⟩ | ⟨m, rfl⟩
  · rw [tx_nat]
    exact fun c hc => .inr (dg_all m c hc)
  · rw [tx_neg]
    intro c hc
    rcases List.mem_cons.mp hc with z | z
    · exact .inl z
    · exact .inr (dg_all _ c z)
def shown (f : List Int) : Str := Txt.join (Str.ofString ",") (f.map tx)
theorem comma_is : (Str.ofString ",") = ⟨#[44]⟩ := by decide +kernel
theorem space_is : (Str.ofString " ") = ⟨#[32]⟩ := by decide +kernel
theorem join_eq (y : Str) (ws : List Str) : Txt.join y ws = Str.join y ws := by
  unfold Txt.join
  exact StrLaws.glued_eq_join y ws
theorem shown_words {f : List Int} (h0 : f ≠ []) : words (shown f) = f.map tx := by
  unfold words shown
  rw [join_eq, comma_is]
  refine split_of (by simpa using h0) fun w hw z => ?_
  obtain ⟨x, _, rfl⟩ := List.mem_map.mp hw
  rcases tx_signs x 44 z with e | e <;> omega
theorem shown_poly {f : List Int} (h0 : f ≠ []) (hl : f.length ≤ 13) (h : ∀ x, x ∈ f → x.natAbs < 10 ^ 60) : poly (shown f) = some f := by
  have e := poly_of (z := shown f) (by rw [shown_words h0, List.length_map]; exact hl) (fun w hw => by
    rw [shown_words h0] at hw
    obtain ⟨x, hx, rfl⟩ := List.mem_map.mp hw
    exact (tx_wr (h x hx)).1)
  rw [e, shown_words h0, List.map_map]
  refine congrArg some ((List.map_congr_left fun x hx => ?_).trans (List.map_id f))
  exact (tx_wr (h x hx)).2
theorem join_signs {c : Nat} {P : Nat → Prop} (hc : P c) : ∀ (ws : List Str), (∀ w ∈ ws, ∀ x ∈ w.cps.toList, P x) → ∀ x ∈ (Str.join ⟨#[c]⟩ ws).cps.toList, P x
  | [], _, x, hx => by cases hx
  | [w], h, x, hx => h w (.head _) x hx
  | w :: v :: r, h, x, hx => by
    rw [join_cons] at hx
    rcases List.mem_append.mp hx with z | z
    · exact h w (.head _) x z
    · rcases List.mem_cons.mp z with z | z
      · rw [z]; exact hc
      · exact join_signs hc (v :: r) (fun u hu => h u (.tail _ hu)) x z
theorem shown_free (f : List Int) : 32 ∉ (shown f).cps.toList := fun z => by
  unfold shown at z
  rw [join_eq, comma_is] at z
  have := join_signs (c := 44) (P := fun x => x ≠ 32) (by decide) (f.map tx) (fun w hw x hx => by
    obtain ⟨y, _, rfl⟩ := List.mem_map.mp hw
    rcases tx_signs y x hx with e | e <;> omega) 32 z
  exact this rfl
theorem tx_free (x : Int) : 32 ∉ (tx x).cps.toList := fun z => by
  rcases tx_signs x 32 z with e | e <;> omega
end Tx
namespace L2
open PySem PySem.Spec PyProof.Rows
section
variable {prog : Program} {w : World} {A : Around} {E : Value → Shared → Prop} {s : Shared}
theorem nx_tup {i t : Addr} {k : Nat} {its : Array Value} {v : Value} {Q : Value → Shared → Prop} (ii : IsTupIter s.heap i t k) (tt : IsTup s.heap t its) (hv : its[k]? = some v)
    (go : ∀ g, IsTupIter g i t (k + 1) → Heap.SameBut i s.heap g → Q v { s with heap := g }) : wpAny (model prog w) A (Builtin.SmallTypes.nextOf (.ref i)) Q E s := by
  obtain ⟨u, gu, cu, du⟩ := id ii
  obtain ⟨y, gy, _, n, dy⟩ := tt
  unfold Builtin.SmallTypes.nextOf
  refine wpAny_bind (wpAny_callSpecial?_slot (name := Str.ofString "__next__") ii.typeIs slot_tupleiter_next (wpAny_call_entry slot_tupleiter_next ii.typeIs entry_tupleiter_next ?_ (args_tupleiter_next _)))
  show wpAny _ _ (field (.ref i) 0 >>= _) _ _ s
  refine wpAny_bind (wpAny_field gu du (x := .ref t) rfl ?_)
  show wpAny _ _ (if (Value.ref t == Value.none) = true then _ else _) _ _ s
  rw [if_neg (by intro z; cases z)]
  show wpAny _ _ (field (.ref i) 1 >>= _) _ _ s
  refine wpAny_bind (wpAny_field gu du (x := .int k 0) rfl (wpAny_bind (wpAny_seqItems gy dy ?_)))
  simp only [Int.toNat_natCast, hv]
  refine wpAny_bind (wpAny_setField gu du (by simp) (wpAny_pure ⟨v, rfl, wpAny_pure (go _ ⟨_, Heap.get?_update_self _ gu (Obj.isFreed_of_fields (Obj.data_mapFields du _)), (Obj.cls_mapFields ..).trans cu, ?_⟩ (Heap.SameBut.update ..))⟩))
  rw [Obj.data_mapFields du]
  simp [rawInt]
theorem nxe_tup {i t : Addr} {k : Nat} {its : Array Value} {Q : Value → Shared → Prop} (hh : A.handled = none) (ii : IsTupIter s.heap i t k) (tt : IsTup s.heap t its) (hv : its[k]? = none)
    (go : ∀ g e, Heap.ExtBut i s.heap g → (∃ o, g.get? e = some o ∧ o.cls = .type "StopIteration") → E (.ref e) { s with heap := g }) : wpAny (model prog w) A (Builtin.SmallTypes.nextOf (.ref i)) Q E s := by
  obtain ⟨u, gu, cu, du⟩ := id ii
  obtain ⟨y, gy, _, n, dy⟩ := tt
  unfold Builtin.SmallTypes.nextOf
  refine wpAny_bind (wpAny_callSpecial?_slot (name := Str.ofString "__next__") ii.typeIs slot_tupleiter_next (wpAny_call_entry slot_tupleiter_next ii.typeIs entry_tupleiter_next ?_ (args_tupleiter_next _)))
  show wpAny _ _ (field (.ref i) 0 >>= _) _ _ s
  refine wpAny_bind (wpAny_field gu du (x := .ref t) rfl ?_)
  show wpAny _ _ (if (Value.ref t == Value.none) = true then _ else _) _ _ s
  rw [if_neg (by intro z; cases z)]
  show wpAny _ _ (field (.ref i) 1 >>= _) _ _ s
  refine wpAny_bind (wpAny_field gu du (x := .int k 0) rfl (wpAny_bind (wpAny_seqItems gy dy ?_)))
  simp only [Int.toNat_natCast, hv]
  refine wpAny_bind (wpAny_rule (wpAny_bind (wpAny_setField gu du (by simp) (wpAny_bind ?_))))
  simp only [newExc, newTuple]
  refine wpAny_bind (wpAny_newObj_type (wpAny_bind (m := firstArgMember _ _) (wpAny_of_eq (a := Value.none) (by first | rfl | (simp only [firstArgMember]; rfl)) (wpAny_newObj_type ?_ (by size_fits)))) (by size_fits))
  simp only [raiseNew]
  refine wpAny_bind (wpAny_handled ?_)
  first | rw [show A.in1.handled = none from hh] | rw [hh]
  exact wpAny_bind (wpAny_pure (wpAny_throw (go _ _ (((Heap.SameBut.update ..).extBut.push _).push _) ⟨_, Heap.get?_push_size _ rfl, rfl⟩)))
theorem zipT_item {z TI TO i1 i2 l1 l2 : Addr} {k : Nat} {xs ys : Array Value} {x y a b : Value} {Q : Option Value → Shared → Prop} (D : ZipApart z TI TO i1 i2 l1 l2)
    (zz : IsZip s.heap z TI TO .none) (pI : IsPair s.heap TI (.ref i1) (.ref i2)) (pO : IsPair s.heap TO a b)
    (j1 : IsTupIter s.heap i1 l1 k) (j2 : s.heap.IsListIter i2 l2 k) (m1 : IsTup s.heap l1 xs) (m2 : s.heap.IsList l2 ys) (hx : xs[k]? = some x) (hy : ys[k]? = some y)
    (go : ∀ g, IsZip g z TI TO (rawInt s.heap.objs.size) → IsPair g TO x y → IsTupIter g i1 l1 (k + 1) → g.IsListIter i2 l2 (k + 1) → IsPair g s.heap.objs.size x y →
      (∀ c o, c ≠ z → c ≠ TO → c ≠ i1 → c ≠ i2 → s.heap.get? c = some o → g.get? c = some o) → Q (some (.ref s.heap.objs.size)) { s with heap := g }) :
    wpAny (model prog w) A (pyNext (.ref z)) Q E s := by
  have ty : s.TypeIs (.ref z) "zip" := ⟨_, zz, rfl⟩
  unfold pyNext
  refine wpAny_bind (wpAny_attempt (wpAny_callSpecial?_slot (name := Str.ofString "__next__") ty F.slot_zip_next (wpAny_call_entry F.slot_zip_next ty F.entry_zip_next ?_ (F.args_zip_next_1 _))))
  show wpAny _ _ (field (.ref z) 2 >>= _) _ _ _
  refine wpAny_bind (wpAny_field zz rfl (x := .bool false) rfl ?_)
  show wpAny _ _ (field (.ref z) 3 >>= _) _ _ _
  refine wpAny_bind (wpAny_field zz rfl (x := .ref TI) rfl (wpAny_bind (wpAny_seqItems pI rfl ?_)))
  show wpAny _ _ (Builtin.SmallTypes.ownedTupleIsFree (.ref z) >>= _) _ _ _
  refine wpAny_bind ?_
  unfold Builtin.SmallTypes.ownedTupleIsFree
  refine wpAny_bind (wpAny_field zz rfl (x := .none) rfl (wpAny_pure ?_))
  simp only [if_true]
  refine wpAny_bind (wpAny_rule (wpAny_bind (wpAny_field zz rfl (x := .ref TO) rfl (wpAny_bind (wpAny_setField_rec zz (by simp) fun g1 z1 s1 => ?_)))))
  have z1 : IsZip g1 z TI TO .ellipsis := z1
  refine wpAny_bind ?_
  simp only [List.zipIdx_cons, List.zipIdx_nil, List.forIn_cons, List.forIn_nil]
  refine wpAny_bind (wpAny_bind (wpAny_onRaise ?_))
  show wpAny _ _ (Builtin.SmallTypes.nextOf (.ref i1) >>= _) _ _ _
  refine wpAny_bind (nx_tup (j1.extBut s1.extBut D.i1z) (m1.extBut s1.extBut D.l1z) hx fun g2 n2 s2 => wpAny_pure ?_)
  have o2 : IsPair g2 TO a b := s2.extBut _ _ D.TOi1 (s1.extBut _ _ D.TOz pO)
  refine wpAny_bind (wpAny_seqItems o2 rfl (wpAny_bind (wpAny_updateSeq_pair o2 fun g3 o3 s3 => wpAny_bind (wpAny_letGo (wpAny_pure ?_)))))
  have o3 : IsPair g3 TO x b := o3
  refine wpAny_bind (wpAny_bind (wpAny_onRaise ?_))
  show wpAny _ _ (Builtin.SmallTypes.nextOf (.ref i2) >>= _) _ _ _
  refine wpAny_bind (wpAny_nextOf_list_item (((j2.extBut s1.extBut D.i2z).extBut s2.extBut D.i12.symm).extBut s3.extBut D.TOi2.symm) (((m2.extBut s1.extBut D.l2z).extBut s2.extBut D.l2i1).extBut s3.extBut D.l2TO) hy fun g4 n4 s4 => wpAny_pure ?_)
  have o4 : IsPair g4 TO x b := s4.extBut _ _ D.TOi2 o3
  refine wpAny_bind (wpAny_seqItems o4 rfl (wpAny_bind (wpAny_updateSeq_pair o4 fun g5 o5 s5 => wpAny_bind (wpAny_letGo (wpAny_pure (wpAny_pure ?_))))))
  have o5 : IsPair g5 TO x y := o5
  refine wpAny_bind (wpAny_seqItems o5 rfl (wpAny_bind (wpAny_newTuple ?_)))
  have z5 : IsZip g5 z TI TO .ellipsis := s5.extBut _ _ D.TOz.symm (s4.extBut _ _ D.i2z.symm (s3.extBut _ _ D.TOz.symm (s2.extBut _ _ D.i1z.symm z1)))
  have len5 : g5.objs.size = s.heap.objs.size := by rw [s5.1, s4.1, s3.1, s2.1, s1.1]
  have old5 : ∀ c o, c ≠ z → c ≠ TO → c ≠ i1 → c ≠ i2 → s.heap.get? c = some o → g5.get? c = some o := fun c o q1 q2 q3 q4 e => s5.extBut _ _ q2 (s4.extBut _ _ q4 (s3.extBut _ _ q2 (s2.extBut _ _ q3 (s1.extBut _ _ q1 e))))
  have a5 : IsTupIter g5 i1 l1 (k + 1) := ((n2.extBut s3.extBut D.TOi1.symm).extBut s4.extBut D.i12).extBut s5.extBut D.TOi1.symm
  have b5 : g5.IsListIter i2 l2 (k + 1) := n4.extBut s5.extBut D.TOi2.symm
  have lz : z < g5.objs.size := Heap.lt_size z5
  show wpAny _ _ (Builtin.SmallTypes.ownedTupleHandOut (.ref z) (.ref g5.objs.size) >>= _) _ _ _
  refine wpAny_bind ?_
  unfold Builtin.SmallTypes.ownedTupleHandOut
  have z6 : IsZip (g5.push { cls := .type "tuple", data := .seq #[x, y] }) z TI TO .ellipsis := Heap.get?_push_of_some _ z5
  refine wpAny_bind (wpAny_setField_rec z6 (by simp) fun g7 z7 s7 => ?_)
  have z7 : IsZip g7 z TI TO (rawInt g5.objs.size) := z7
  refine wpAny_setField_rec z7 (by simp) fun g8 z8 s8 => ?_
  have z8 : IsZip g8 z TI TO (rawInt g5.objs.size) := z8
  have up : ∀ c o, c ≠ z → g5.get? c = some o → g8.get? c = some o := fun c o q e => s8.extBut _ _ q (s7.extBut _ _ q (Heap.get?_push_of_some _ e))
  have t8 : IsPair g8 g5.objs.size x y := s8.extBut _ _ (Nat.ne_of_gt lz) (s7.extBut _ _ (Nat.ne_of_gt lz) (Heap.get?_push_size _ rfl))
  rw [len5] at z8 t8
  refine wpAny_pure ⟨_, rfl, wpAny_pure ?_⟩
  rw [len5]
  refine go g8 z8 (up _ _ D.TOz o5) ?_ (b5.at fun o e => up _ o D.i2z e) t8 fun c o q1 q2 q3 q4 e => up c o q1 (old5 c o q1 q2 q3 q4 e)
  obtain ⟨o, e, r⟩ := a5
  exact ⟨o, up _ o D.i1z e, r⟩
theorem zipT_end {z TI TO i1 i2 l1 l2 : Addr} {k : Nat} {xs ys : Array Value} {a b : Value} {Q : Option Value → Shared → Prop} (hh : A.handled = none) (D : ZipApart z TI TO i1 i2 l1 l2)
    (zz : IsZip s.heap z TI TO .none) (pI : IsPair s.heap TI (.ref i1) (.ref i2)) (pO : IsPair s.heap TO a b)
    (j1 : IsTupIter s.heap i1 l1 k) (j2 : s.heap.IsListIter i2 l2 k) (m1 : IsTup s.heap l1 xs) (m2 : s.heap.IsList l2 ys) (hx : xs[k]? = none ∨ ys[k]? = none)
    (go : ∀ g, (∀ c o, c ≠ z → c ≠ TO → c ≠ i1 → c ≠ i2 → s.heap.get? c = some o → g.get? c = some o) → Q none { s with heap := g }) : wpAny (model prog w) A (pyNext (.ref z)) Q E s := by
  have ty : s.TypeIs (.ref z) "zip" := ⟨_, zz, rfl⟩
  have stop : ∀ g e, (∀ c o, c ≠ z → c ≠ TO → c ≠ i1 → c ≠ i2 → s.heap.get? c = some o → g.get? c = some o) → (∃ o, g.get? e = some o ∧ o.cls = .type "StopIteration") →
      wpAny (model prog w) A (do if ← isInstance (.ref e) (.type "StopIteration") then pure none else throw (.ref e)) Q E { s with heap := g } := fun g e kk ⟨o, ho, hc⟩ =>
    wpAny_bind (wpAny_isInstance (T := "StopIteration") (b := true) ⟨o, ho, hc⟩ isSubtype_stop (wpAny_pure (go g kk)))
  unfold pyNext
  refine wpAny_bind (wpAny_attempt (wpAny_callSpecial?_slot (name := Str.ofString "__next__") ty F.slot_zip_next (wpAny_call_entry F.slot_zip_next ty F.entry_zip_next ?_ (F.args_zip_next_1 _))))
  show wpAny _ _ (field (.ref z) 2 >>= _) _ _ _
  refine wpAny_bind (wpAny_field zz rfl (x := .bool false) rfl ?_)
  show wpAny _ _ (field (.ref z) 3 >>= _) _ _ _
  refine wpAny_bind (wpAny_field zz rfl (x := .ref TI) rfl (wpAny_bind (wpAny_seqItems pI rfl ?_)))
  show wpAny _ _ (Builtin.SmallTypes.ownedTupleIsFree (.ref z) >>= _) _ _ _
  refine wpAny_bind ?_
  unfold Builtin.SmallTypes.ownedTupleIsFree
  refine wpAny_bind (wpAny_field zz rfl (x := .none) rfl (wpAny_pure ?_))
  simp only [if_true]
  refine wpAny_bind (wpAny_rule (wpAny_bind (wpAny_field zz rfl (x := .ref TO) rfl (wpAny_bind (wpAny_setField_rec zz (by simp) fun g1 z1 s1 => ?_)))))
  have z1 : IsZip g1 z TI TO .ellipsis := z1
  refine wpAny_bind ?_
  simp only [List.zipIdx_cons, List.zipIdx_nil, List.forIn_cons, List.forIn_nil]
  refine wpAny_bind (wpAny_bind (wpAny_onRaise ?_))
  show wpAny _ _ (Builtin.SmallTypes.nextOf (.ref i1) >>= _) _ _ _
  cases e1 : xs[k]? with
  | none =>
    refine wpAny_bind (nxe_tup hh (j1.extBut s1.extBut D.i1z) (m1.extBut s1.extBut D.l1z) e1 fun g2 e s2 he => ?_)
    obtain ⟨oe, hoe, hce⟩ := he
    have z2 : IsZip g2 z TI TO .ellipsis := s2 _ _ D.i1z.symm z1
    have ne : e ≠ z := fun q => by subst q; rw [z2] at hoe; cases hoe; simp at hce
    exact wpAny_setField_rec z2 (by simp) fun g3 _ s3 => stop g3 e (fun c o q1 _ q3 _ q => s3.extBut _ _ q1 (s2 _ _ q3 (s1.extBut _ _ q1 q))) ⟨oe, s3.extBut _ _ ne hoe, hce⟩
  | some x =>
    have e2 : ys[k]? = none := by
      rcases hx with q | q
      · rw [e1] at q; cases q
      · exact q
    refine wpAny_bind (nx_tup (j1.extBut s1.extBut D.i1z) (m1.extBut s1.extBut D.l1z) e1 fun g2 n2 s2 => wpAny_pure ?_)
    have o2 : IsPair g2 TO a b := s2.extBut _ _ D.TOi1 (s1.extBut _ _ D.TOz pO)
    refine wpAny_bind (wpAny_seqItems o2 rfl (wpAny_bind (wpAny_updateSeq_pair o2 fun g3 o3 s3 => wpAny_bind (wpAny_letGo (wpAny_pure ?_)))))
    refine wpAny_bind (wpAny_bind (wpAny_onRaise ?_))
    show wpAny _ _ (Builtin.SmallTypes.nextOf (.ref i2) >>= _) _ _ _
    refine wpAny_bind (wpAny_nextOf_list_end hh (((j2.extBut s1.extBut D.i2z).extBut s2.extBut D.i12.symm).extBut s3.extBut D.TOi2.symm) (((m2.extBut s1.extBut D.l2z).extBut s2.extBut D.l2i1).extBut s3.extBut D.l2TO) e2 fun g4 e s4 he => ?_)
    obtain ⟨oe, hoe, hce⟩ := he
    have z4 : IsZip g4 z TI TO .ellipsis := s4 _ _ D.i2z.symm (s3.extBut _ _ D.TOz.symm (s2.extBut _ _ D.i1z.symm z1))
    have ne : e ≠ z := fun q => by subst q; rw [z4] at hoe; cases hoe; simp at hce
    exact wpAny_setField_rec z4 (by simp) fun g5 _ s5 => stop g5 e (fun c o q1 q2 q3 q4 q => s5.extBut _ _ q1 (s4 _ _ q4 (s3.extBut _ _ q2 (s2.extBut _ _ q3 (s1.extBut _ _ q1 q))))) ⟨oe, s5.extBut _ _ ne hoe, hce⟩
end
end L2
namespace L2
open PySem PySem.Spec PyProof.Rows
abbrev zT1 (h : Heap) (a : Addr) : Heap := h.push { cls := .type "tuple_iterator", data := .fields #[.ref a, .int 0 0] }
abbrev zT2 (h : Heap) (a b : Addr) : Heap := (zT1 h a).push { cls := .type "list_iterator", data := .fields #[.ref b, .int 0 0] }
abbrev zT3 (h : Heap) (a b : Addr) : Heap := (zT2 h a b).push { cls := .type "tuple", data := .seq #[.ref h.objs.size, .ref (zT1 h a).objs.size] }
abbrev zT4 (h : Heap) (a b : Addr) : Heap := (zT3 h a b).push { cls := .type "tuple", data := .seq #[.none, .none] }
abbrev zT5 (h : Heap) (a b : Addr) : Heap := (zT4 h a b).push { cls := .type "zip", data := .fields #[.none, .bool false, .bool false, .ref (zT2 h a b).objs.size, .ref (zT3 h a b).objs.size] }
theorem zT_meets (a b : Addr) (xs ys : Array Value) : Meets (Builtin.«zip.__new__» ⟨[.type "zip", .ref a, .ref b], []⟩) (fun _ R s => IsTup s.heap a xs ∧ s.heap.IsList b ys ∧ R (.ok (.ret (.ref (zT4 s.heap a b).objs.size))) { s with heap := zT5 s.heap a b }) :=
  .of_wp fun prog w A R s q => by
    obtain ⟨hp, g, d, tk, os⟩ := s
    obtain ⟨q1, q2, q⟩ := q
    have hsub := sub_zip
    have M1 : IsTup (Shared.heap ⟨hp, g, d, tk, os⟩) a xs := q1
    have M2 : Heap.IsList (Shared.heap ⟨hp.push { cls := .type "tuple_iterator", data := .fields #[.ref a, .int 0 0] }, g, d, tk, os⟩) b ys := Heap.IsList.push q2 _
    wp_walk using iter_tuple M1, wpAny_pyIter_list M2
    exact ⟨_, rfl, q⟩
section
variable {prog : Program} {w : World} {A : Around} {E : Value → Shared → Prop} {s : Shared}
theorem zT_call {a b : Addr} {xs ys : Array Value} {Q : Value → Shared → Prop} (q1 : IsTup s.heap a xs) (q2 : s.heap.IsList b ys)
    (go : ∀ g, IsZip g (s.heap.objs.size + 4) (s.heap.objs.size + 2) (s.heap.objs.size + 3) .none → IsPair g (s.heap.objs.size + 2) (.ref s.heap.objs.size) (.ref (s.heap.objs.size + 1)) → IsPair g (s.heap.objs.size + 3) .none .none →
      IsTupIter g s.heap.objs.size a 0 → g.IsListIter (s.heap.objs.size + 1) b 0 → (∀ c o, s.heap.get? c = some o → g.get? c = some o) → Q (.ref (s.heap.objs.size + 4)) { s with heap := g }) :
    wpAny (model prog w) A (call (.type "zip") [.ref a, .ref b]) Q E s := by
  refine callType_new F.called_zip (by decide) (F.typeCall_zip_2 _ _) (F.newCall_zip_2 _ _) (fun obj => F.args_object_init_3 obj _ _) F.entry_zip_new (zT_meets a b xs ys) ⟨q1, q2, ?_⟩
  have n1 : (zT1 s.heap a).objs.size = s.heap.objs.size + 1 := Heap.size_push ..
  have n2 : (zT2 s.heap a b).objs.size = s.heap.objs.size + 2 := by rw [Heap.size_push, n1]
  have n3 : (zT3 s.heap a b).objs.size = s.heap.objs.size + 3 := by rw [Heap.size_push, n2]
  have n4 : (zT4 s.heap a b).objs.size = s.heap.objs.size + 4 := by rw [Heap.size_push, n3]
  have e5 : (zT5 s.heap a b).get? (zT4 s.heap a b).objs.size = some _ := Heap.get?_push_size _ rfl
  have e4 : (zT5 s.heap a b).get? (zT3 s.heap a b).objs.size = some _ := Heap.get?_push_of_some _ (Heap.get?_push_size _ rfl)
  have e3 : (zT5 s.heap a b).get? (zT2 s.heap a b).objs.size = some _ := Heap.get?_push_of_some _ (Heap.get?_push_of_some _ (Heap.get?_push_size _ rfl))
  have e2 : (zT5 s.heap a b).get? (zT1 s.heap a).objs.size = some _ := Heap.get?_push_of_some _ (Heap.get?_push_of_some _ (Heap.get?_push_of_some _ (Heap.get?_push_size _ rfl)))
  have e1 : (zT5 s.heap a b).get? s.heap.objs.size = some _ := Heap.get?_push_of_some _ (Heap.get?_push_of_some _ (Heap.get?_push_of_some _ (Heap.get?_push_of_some _ (Heap.get?_push_size _ rfl))))
  show _ ∧ _
  rw [n2, n3, n4] at e5
  rw [n1, n2] at e3
  rw [n3] at e4
  rw [n1] at e2
  rw [n4]
  exact ⟨⟨_, e5, rfl⟩, go _ e5 e3 e4 ⟨_, e1, rfl, rfl⟩ ⟨_, e2, rfl, rfl⟩ fun c o q => Heap.get?_push_of_some _ (Heap.get?_push_of_some _ (Heap.get?_push_of_some _ (Heap.get?_push_of_some _ (Heap.get?_push_of_some _ q))))⟩
end
def Itzt (K : PySem.W.Frag) (a b : Addr) : It :=
  ⟨fun i H => ∃ xs ys x y, SqT K H a xs ∧ SqL K H b ys ∧ xs[i]? = some x ∧ ys[i]? = some y, fun i H x H' => ∃ y z t, (∀ xs, SqT K H a xs → xs[i]? = some y) ∧ (∀ xs, SqL K H b xs → xs[i]? = some z) ∧ H t = none ∧ x = .ref t ∧ H' = upd H t (.tup [y, z]), fun i H => ∃ xs ys, SqT K H a xs ∧ SqL K H b ys ∧ (xs.length ≤ i ∨ ys.length ≤ i)⟩
theorem ne_tupI {h : Heap} {l c : Addr} {xs : Array Value} (hl : IsTup h l xs) (hc : ∃ o, h.get? c = some o ∧ o.cls ≠ .type "tuple") : l ≠ c := by
  obtain ⟨o, ho, n⟩ := hc
  obtain ⟨u, hu, cu, _⟩ := hl
  intro z
  rw [z, ho] at hu
  cases hu
  exact n cu
theorem turn_zipT {P : Program} {w : World} {K : PySem.W.Frag} {elts : List Expr} {x1} {tp : Pos} (a b : Addr) (n : Nat) : Turn P w K (.Tuple elts x1 tp) (Itzt K a b) [n + 4, n + 2, n + 3, n, n + 1] (n + 4) (fun i h => IsZip h (n + 4) (n + 2) (n + 3) .none ∧ IsPair h (n + 2) (.ref n) (.ref (n + 1)) ∧ (∃ u v, IsPair h (n + 3) u v) ∧ IsTupIter h n a i ∧ h.IsListIter (n + 1) b i ∧ a ≠ n + 3) where
  mem := by simp
  obj := fun i h st c hc => by
    obtain ⟨h1, h2, ⟨u, v, h3⟩, ⟨o4, q4, c4, d4⟩, ⟨o5, q5, c5, d5⟩, _⟩ := st
    simp only [List.mem_cons, List.not_mem_nil, or_false] at hc
    rcases hc with z | z | z | z | z
    · subst z
      exact ⟨_, h1, fun v z => by
        have z' : Data.fields _ = Data.cell v := z
        cases z'⟩
    · subst z
      exact ⟨_, h2, fun v z => by
        have z' : Data.seq _ = Data.cell v := z
        cases z'⟩
    · subst z
      exact ⟨_, h3, fun v z => by
        have z' : Data.seq _ = Data.cell v := z
        cases z'⟩
    · subst z
      exact ⟨o4, q4, fun v z => by rw [d4] at z; cases z⟩
    · subst z
      exact ⟨o5, q5, fun v z => by rw [d5] at z; cases z⟩
  keep := fun i h h' st k => by
    obtain ⟨h1, h2, ⟨u, v, h3⟩, ⟨o4, q4, r4⟩, h5, nn⟩ := st
    exact ⟨k _ (by simp) _ h1, k _ (by simp) _ h2, ⟨u, v, k _ (by simp) _ h3⟩, ⟨o4, k n (by simp) o4 q4, r4⟩, h5.at fun o q => k (n + 1) (by simp) o q, nn⟩
  item := by
    intro X hP hw hK hc i pins s σ H E I hf st hg
    subst hP hw hK
    obtain ⟨xs, ys, x, y, hq1, hq2, hx, hy⟩ := hg
    obtain ⟨its, rv, pl, hz⟩ := I.tuple hq1
    obtain ⟨u, hu, ru⟩ := rv.get hx
    obtain ⟨its2, rv2, pl2, hz2⟩ := I.list hq2
    obtain ⟨u2, hu2, ru2⟩ := rv2.get hy
    obtain ⟨h1, h2, ⟨v1, v2, h3⟩, h4, h5, nn⟩ := st
    have c1 : ∃ o, s.heap.get? (n + 4) = some o ∧ o.cls ≠ .type "list" := ⟨_, h1, by show Value.type "zip" ≠ Value.type "list"; decide⟩
    have c3 : ∃ o, s.heap.get? (n + 3) = some o ∧ o.cls ≠ .type "list" := ⟨_, h3, by show Value.type "tuple" ≠ Value.type "list"; decide⟩
    have c4 : ∃ o, s.heap.get? n = some o ∧ o.cls ≠ .type "list" := by obtain ⟨o, q, c, _⟩ := h4; exact ⟨o, q, by rw [c]; decide⟩
    have c5 : ∃ o, s.heap.get? (n + 1) = some o ∧ o.cls ≠ .type "list" := by obtain ⟨o, q, c, _⟩ := h5; exact ⟨o, q, by rw [c]; decide⟩
    have d1 : ∃ o, s.heap.get? (n + 4) = some o ∧ o.cls ≠ .type "tuple" := ⟨_, h1, by show Value.type "zip" ≠ Value.type "tuple"; decide⟩
    have d4 : ∃ o, s.heap.get? n = some o ∧ o.cls ≠ .type "tuple" := by obtain ⟨o, q, c, _⟩ := h4; exact ⟨o, q, by rw [c]; decide⟩
    have d5 : ∃ o, s.heap.get? (n + 1) = some o ∧ o.cls ≠ .type "tuple" := by obtain ⟨o, q, c, _⟩ := h5; exact ⟨o, q, by rw [c]; decide⟩
    have D : ZipApart (n + 4) (n + 2) (n + 3) n (n + 1) a b := ⟨ane (by omega), ane (by omega), ane (by omega), ane (by omega), ane (by omega), ane (by omega), ane (by omega), ane (by omega), ane (by omega), ane (by omega), ne_tupI pl d1, nn, ne_tupI pl d4, ne_tupI pl d5, ne_list pl2.isList c1, ne_list pl2.isList c3, ne_list pl2.isList c4, ne_list pl2.isList c5⟩
    have hel : n + 4 < s.heap.objs.size := Heap.lt_size h1
    refine zipT_item D h1 h2 h3 h4 h5 pl pl2.isList (x := u) (y := u2) (by simpa using hu) (by simpa using hu2) fun g1 a1 a2 a3 a4 a5 a7 => ⟨_, rfl, ?_⟩
    refine wpAny_letOwnedTupleGo_zip a1 fun g2 b1 hs2 => ?_
    have hs2' : Heap.SameBut (n + 4) g1 g2 := hs2
    have hnone : H s.heap.objs.size = none := I.hok.fresh (Nat.le_refl _)
    have kk : ∀ c o, c ∉ [n + 4, n + 2, n + 3, n, n + 1] → s.heap.get? c = some o → g2.get? c = some o := fun c o hc q => by
      simp only [List.mem_cons, List.not_mem_nil, or_false, not_or] at hc
      exact (hs2'.2 c hc.1).trans (a7 c o hc.1 hc.2.2.1 hc.2.2.2.1 hc.2.2.2.2 q)
    refine ⟨.ref s.heap.objs.size, upd H s.heap.objs.size (.tup [x, y]), I.turnedN (t' := s.toks) kk rfl ?_ hf, rfl, ⟨x, y, _, fun zs hz => by rw [I.tuple_inj hz hq1]; exact hx, fun zs hz => by rw [I.list_inj hz hq2]; exact hy, hnone, rfl, rfl⟩, ⟨b1, ?_, ⟨_, _, (hs2'.2 _ (ane (by omega))).trans a2⟩, a3.extBut hs2'.extBut (ane (by omega)), a4.extBut hs2'.extBut (ane (by omega)), nn⟩, fun c hc => ?_⟩
    · exact ⟨by show 2 ≤ sizeLine; decide, [u, u2], .cons ru (.cons ru2 .nil), ⟨_, (hs2'.2 _ (ane (by omega))).trans a5, rfl, _, rfl⟩⟩
    · exact (hs2'.2 _ (ane (by omega))).trans (a7 _ _ (ane (by omega)) (ane (by omega)) (ane (by omega)) (ane (by omega)) h2)
    · have hb0 : H c = none := (hf c hc).1
      have hbl : c < s.heap.objs.size := by
        simp only [List.mem_cons, List.not_mem_nil, or_false] at hc
        have hel' : (n : Nat) + 4 < s.heap.objs.size := hel
        rcases hc with z | z | z | z | z <;> rw [z] <;> show (_ : Nat) < s.heap.objs.size <;> omega
      rw [upd_ne (Nat.ne_of_lt hbl)]
      exact hb0
  done := by
    intro X hP hw hK hc i pins s σ H E I hf st hg
    subst hP hw hK
    obtain ⟨xs, ys, hq1, hq2, hx⟩ := hg
    obtain ⟨its, rv, pl, hz⟩ := I.tuple hq1
    obtain ⟨its2, rv2, pl2, hz2⟩ := I.list hq2
    obtain ⟨h1, h2, ⟨v1, v2, h3⟩, h4, h5, nn⟩ := st
    have l1 := rv.length
    have l2 := rv2.length
    have c1 : ∃ o, s.heap.get? (n + 4) = some o ∧ o.cls ≠ .type "list" := ⟨_, h1, by show Value.type "zip" ≠ Value.type "list"; decide⟩
    have c3 : ∃ o, s.heap.get? (n + 3) = some o ∧ o.cls ≠ .type "list" := ⟨_, h3, by show Value.type "tuple" ≠ Value.type "list"; decide⟩
    have c4 : ∃ o, s.heap.get? n = some o ∧ o.cls ≠ .type "list" := by obtain ⟨o, q, c, _⟩ := h4; exact ⟨o, q, by rw [c]; decide⟩
    have c5 : ∃ o, s.heap.get? (n + 1) = some o ∧ o.cls ≠ .type "list" := by obtain ⟨o, q, c, _⟩ := h5; exact ⟨o, q, by rw [c]; decide⟩
    have d1 : ∃ o, s.heap.get? (n + 4) = some o ∧ o.cls ≠ .type "tuple" := ⟨_, h1, by show Value.type "zip" ≠ Value.type "tuple"; decide⟩
    have d4 : ∃ o, s.heap.get? n = some o ∧ o.cls ≠ .type "tuple" := by obtain ⟨o, q, c, _⟩ := h4; exact ⟨o, q, by rw [c]; decide⟩
    have d5 : ∃ o, s.heap.get? (n + 1) = some o ∧ o.cls ≠ .type "tuple" := by obtain ⟨o, q, c, _⟩ := h5; exact ⟨o, q, by rw [c]; decide⟩
    have D : ZipApart (n + 4) (n + 2) (n + 3) n (n + 1) a b := ⟨ane (by omega), ane (by omega), ane (by omega), ane (by omega), ane (by omega), ane (by omega), ane (by omega), ane (by omega), ane (by omega), ane (by omega), ne_tupI pl d1, nn, ne_tupI pl d4, ne_tupI pl d5, ne_list pl2.isList c1, ne_list pl2.isList c3, ne_list pl2.isList c4, ne_list pl2.isList c5⟩
    refine zipT_end (I.ok.hd hc) D h1 h2 h3 h4 h5 pl pl2.isList ?_ fun g1 a7 => ⟨rfl, I.turnedS (t' := s.toks) (ch := [n + 4, n + 2, n + 3, n, n + 1]) (fun c o hc q => ?_) hf⟩
    · rcases hx with z | z
      · exact .inl (by simp; omega)
      · exact .inr (by simp; omega)
    · simp only [List.mem_cons, List.not_mem_nil, or_false, not_or] at hc
      exact a7 c o hc.1 hc.2.2.1 hc.2.2.2.1 hc.2.2.2.2 q
  self := fun _ _ _ _ _ ⟨hz, _⟩ h => wpAny_pyIter_zip hz h
section
variable {X : Cx} {e e2 : Expr} {te te2 : TE} {p pos : Pos}
def iZipT (K : PySem.W.Frag) (tl tl2 : TE) : TI := fun σ H R => tl σ H fun x H1 => tl2 σ H1 fun y H2 => ∃ a b, x = .ref a ∧ y = .ref b ∧ (∃ xs, SqT K H2 a xs) ∧ (∃ ys, SqL K H2 b ys) ∧ R (Itzt K a b) H2
theorem pi_zipT {elts : List Expr} {x1} {tp : Pos} (hg : Gl X "zip") (hm : X.mg "zip" = none) (he : PE X e te) (he2 : PE X e2 te2) (hs : starEach [e, e2] X.env = (false, eval e X.env) :: starEach [e2] X.env := by rfl) (hs2 : starEach [e2] X.env = (false, eval e2 X.env) :: starEach [] X.env := by rfl) : PI X (.Tuple elts x1 tp) (.Call (.Name "zip" p) [e, e2] [] pos) (iZipT X.K te te2) := by
  intro pins s σ H R I h
  refine wpAny_Call_Name_kw (ld_blt I hg hm PyProof.Rows.boot_zip ?_ (by decide) (by decide))
  refine PyProof.Rows.callWith_type1 (thn (pa_cons he (pa_cons he2 pa_nil hs2) hs pos pins s σ H (fun vs H2 => ∃ a b, vs = [.ref a, .ref b] ∧ (∃ xs, SqT X.K H2 a xs) ∧ (∃ ys, SqL X.K H2 b ys) ∧ R (Itzt X.K a b) H2) I ?_) fun us s1 ⟨vs, H1, I1, r1, q1⟩ => ?_) hs (by rw [hs2]; rfl)
  · show te σ H fun x H1 => te2 σ H1 fun y H2 => _
    have e3 : (fun x H1 => te2 σ H1 fun y H2 => tNil σ H2 fun xs H3 => (fun vs H2 => ∃ a b, vs = [V.ref a, V.ref b] ∧ (∃ xs, SqT X.K H2 a xs) ∧ (∃ ys, SqL X.K H2 b ys) ∧ R (Itzt X.K a b) H2) (x :: y :: xs) H3) = fun x H1 => te2 σ H1 fun y H2 => ∃ a b, x = V.ref a ∧ y = V.ref b ∧ (∃ xs, SqT X.K H2 a xs) ∧ (∃ ys, SqL X.K H2 b ys) ∧ R (Itzt X.K a b) H2 := by
      funext x H1
      congr 1
      funext y H2
      simp only [tNil, List.cons.injEq, and_true, and_assoc]
    have := h
    unfold iZipT at this
    rw [← e3] at this
    exact this
  · obtain ⟨a, b, rfl, ⟨xs, hq⟩, ⟨ys, hq2⟩, hR⟩ := q1
    obtain ⟨u, u2, rfl, ru, ru2⟩ := vals2 r1
    cases ru
    cases ru2
    obtain ⟨its, rv, pl, hz⟩ := I1.tuple hq
    obtain ⟨its2, rv2, pl2, hz2⟩ := I1.list hq2
    refine zT_call pl pl2.isList fun h' a1 a2 a3 a4 a5 hk => ?_
    refine wpAny_pyIter_zip a1 ?_
    have la : a < s1.heap.objs.size := pl.lt
    refine ⟨s1.heap.objs.size + 4, [s1.heap.objs.size + 4, s1.heap.objs.size + 2, s1.heap.objs.size + 3, s1.heap.objs.size, s1.heap.objs.size + 1], _, _, H1, rfl, I1.kept (t' := s1.toks) hk, turn_zipT a b _, ⟨a1, a2, ⟨_, _, a3⟩, a4, a5, fun z => by
      have la' : @LT.lt Nat instLTNat a s1.heap.objs.size := la
      have z' : @Eq Nat a (s1.heap.objs.size + 3) := z
      omega⟩, fun c hc => ?_, hR⟩
    have : s1.heap.objs.size ≤ c := by
      simp only [List.mem_cons, List.not_mem_nil, or_false] at hc
      rcases hc with z | z | z | z | z <;> rw [z] <;> show s1.heap.objs.size ≤ (_ : Nat) <;> omega
    exact I1.fpOk this (I1.hok.fresh this)
end
end L2
namespace L2
open PySem PySem.Spec PyProof.Rows
def KTup (K : PySem.W.Frag) (a : Addr) (xs : List V) : Prop := ∃ (o : Obj) (its : Array Value) (n : Nat), K.lookup a = some o ∧ o.cls = .type "tuple" ∧ o.data = .seq its n ∧ its.size ≤ sizeLine ∧ Vals xs its.toList
theorem KTup.sq {K : PySem.W.Frag} {a : Addr} {xs : List V} (h : KTup K a xs) (H : Hp) : SqT K H a xs := .inr h
structure Met (P : Program) (w : World) (K : PySem.W.Frag) (mg : Str → Option Value) (base : Heap) (CX : CXT) (C : Addr) (m : Str) (k : Nat) (ps : List Str) (sp : Sp) : Prop where
  ex : ∃ (f : Addr) (fd : FuncData), FnOk P w K mg base CX k f fd ps sp ∧ Binds K fd ps [] ∧ Meth K C m f
structure MkD (P : Program) (w : World) (K : PySem.W.Frag) (mg : Str → Option Value) (base : Heap) (C : Addr) (k : Nat) (ps : List Str) (sp : Sp) : Prop where
  ex : ∃ (f : Addr) (fd : FuncData), FnOk P w K mg base CX0 k f fd ps sp ∧ Binds K fd ps [] ∧ Mk K C f
def tMethX (C : Addr) (m : Str) (sp : Sp) (EE : St → XK) (ta : TE) (t : TA) : TE := fun σ H Q => ta σ H fun x H1 => ∃ a dx fs, x = .ref a ∧ H1 a = some (.ins C dx fs) ∧ fs.lookup m = none ∧ t σ H1 fun vs H2 => sp (x :: vs) H2 Q (EE σ)
section
variable {X : Cx} {CX : CXT} {C : Addr} {x m : Str} {j k : Nat} {ps : List Str} {sp : Sp} {p pos apos : Pos} {o e : Expr} {es : List Expr} {ta : TE} {t : TA} {E : XK} {EE : St → XK}
theorem pe_met {pl : Sem Bool} (hx : Passes CX X E) (c : Cls X.K C) (M : Met X.prog X.w X.K X.mg X.base CX C m j ps sp) (hr : Room k X.A) (ho : PE X o ta) (ha : PA X (e :: es) t) (hjk : j ≤ k := by decide)
    (hst : starEach (e :: es) X.env = (false, eval e X.env) :: starEach es X.env := by rfl) (hpl : (backTo pos (starEach es X.env)).any (·.1) = false := by rfl)
    (ht : eval (.Call (.Attribute o m apos) (e :: es) [] pos) X.env = (do
      let ov ← eval o X.env
      standAt apos.atName
      let (f, first) ← holding [ov] (getMethod ov m pl)
      callWith pos f first (backTo pos (starEach (e :: es) X.env)) (backToKw pos (keywordEach [] X.env))) := by rfl) :
    PE X (.Call (.Attribute o m apos) (e :: es) [] pos) (tMeth C m sp [] E ta t) := by
  obtain ⟨f, fd, F, b, hm⟩ := M.ex
  exact pe_meth ho c hm F (hr.mono hjk) b .nil hx ha hst hpl ht
theorem pe_mk (D : MkD X.prog X.w X.K X.mg X.base C j ps sp) (hr : Room k X.A) (hg : Gl X x) (hm : X.mg x = some (.ref C)) (ha : PA X (e :: es) t) (hjk : j + 1 ≤ k := by decide) (hdb : (x == ("__debug__" : Str)) = false := by decide)
    (he : starEach (e :: es) X.env = (false, eval e X.env) :: starEach es X.env := by rfl) (hpl : (backTo pos (starEach es X.env)).any (·.1) = false := by rfl) : PE X (.Call (.Name x p) (e :: es) [] pos) (tMake C sp [] E0 t) := by
  obtain ⟨f, fd, F, b, M⟩ := D.ex
  exact pe_make M F (hr.mono hjk) hg hm b .nil pass0 ha hdb he hpl
theorem tab_one {P : Program} {w : World} {K : PySem.W.Frag} {mg : Str → Option Value} {base : Heap} {CX : CXT} {y : Str} {g : Addr} {n : Nat} (hm : mg y = some (.ref g))
    (D : ∃ (f : Addr) (fd : FuncData), FnOk P w K mg base CX n f fd ps sp ∧ Binds K fd ps [] ∧ PySem.W.keepIn K (.ref f) = true ∧ mg y = some (.ref f)) : TabOk P w K mg base CX n (fun h s => h = g ∧ s = sp) := ⟨fun h s ⟨e1, e2⟩ => by
  subst e1 e2
  obtain ⟨f, fd, F, b, kp, m⟩ := D
  rw [hm] at m
  cases m
  exact ⟨fd, ps, F, b, kp⟩⟩
end
end L2
namespace L2
open PySem PySem.Spec PyProof.Rows
theorem comp2ZT {K : PySem.W.Frag} {a b : Addr} {caps : List Nat} {tt : TT} {te : TE} {σ : St} {H : Hp} {Q : VK} (xs zs : List V) (Pv : Nat → List V → Hp → Prop) (hn : xs.length ≤ sizeLine) (hnm : xs.length = zs.length) (h0 : Pv 0 [] H) (hl : ∀ i ys H, Pv i ys H → SqT K H a xs ∧ SqL K H b zs)
    (hs : ∀ i (x y : V) ys H H', xs[i]? = some x → zs[i]? = some y → Pv i ys H → Same H H' → tt (some x :: some y :: capV caps σ) H' fun t H4 => if t = true then te (some x :: some y :: capV caps σ) H4 fun v H5 => Pv (i + 1) (ys ++ [v]) H5 else Pv (i + 1) ys H4)
    (hd : ∀ ys H, Pv xs.length ys H → ∀ p, H p = none → Q (.ref p) (upd H p (.lst ys))) : CompIt2 (Itzt K a b) caps (gTup K 2 (gCons (gName 0) (gCons (gName 1) gNil))) tt te σ H Q := by
  refine ⟨xs.length, fun i ys H => i ≤ xs.length ∧ Pv i ys H, hn, ⟨Nat.zero_le _, h0⟩, ?_⟩
  rintro i ys H2 ⟨hi, p⟩
  obtain ⟨hS, hS2⟩ := hl i ys H2 p
  by_cases hlt : i < xs.length
  · have hv : xs[i]? = some xs[i] := List.getElem?_eq_getElem hlt
    have hlt2 : i < zs.length := by omega
    have hv2 : zs[i]? = some zs[i] := List.getElem?_eq_getElem hlt2
    refine .inr ⟨⟨_, _, _, _, hS, hS2, hv, hv2⟩, hlt, ?_⟩
    rintro y H3 ⟨y, z, t, hy, hz, ht, rfl, rfl⟩ o1 o2
    have hy := hy _ hS
    rw [hv] at hy
    cases hy
    have hz := hz _ hS2
    rw [hv2] at hz
    cases hz
    refine ⟨t, _, rfl, SqT.of upd_same, rfl, _, _, rfl, _, _, rfl, rfl, ⟨_, _, rfl⟩, ?_⟩
    have key := hs i _ _ ys H2 _ hv hv2 p (same_new ht (.tup [xs[i], zs[i]]))
    have e2 : (fun (t : Bool) (H4 : Hp) => if t = true then te (some xs[i] :: some zs[i] :: capV caps σ) H4 fun v H5 => Pv (i + 1) (ys ++ [v]) H5 else Pv (i + 1) ys H4) = fun t H4 => if t = true then te (some xs[i] :: some zs[i] :: capV caps σ) H4 fun v H5 => i + 1 ≤ xs.length ∧ Pv (i + 1) (ys ++ [v]) H5 else i + 1 ≤ xs.length ∧ Pv (i + 1) ys H4 := by
      funext t H4
      have z : i + 1 ≤ xs.length := hlt
      simp only [z, true_and]
    rw [e2] at key
    exact key
  · have e : i = xs.length := by omega
    subst e
    exact .inl ⟨⟨_, _, hS, hS2, .inl (Nat.le_refl _)⟩, hd ys H2 p⟩
end L2
namespace L2
open PySem PySem.Spec PyProof.Rows
section
variable {X : Cx} {tg : Expr}
theorem rangeSize_down {a b : Int} : Builtin.Range.rangeSize a b (-1) = (((a - b).toNat : Nat) : Int) := by
  unfold Builtin.Range.rangeSize
  simp only [show ¬ ((-1 : Int) > 0) by decide, if_false]
  split
  · simp
    omega
  · omega
theorem small_down {a b : Int} (ha : -(2 ^ 60) ≤ a) (ha' : a < 2 ^ 60) (hb : -(2 ^ 60) ≤ b) (hb' : b < 2 ^ 60) : Builtin.Range.small a b (-1) = true := by
  have h1 : (a - b).toNat < 2 ^ 62 := by omega
  unfold Builtin.Range.small
  rw [rangeSize_down]
  simp only [Builtin.Range.rangeFitsLong, Bool.and_eq_true, Bool.or_eq_true, decide_eq_true_eq, beq_iff_eq, show ¬ ((-1 : Int) > 0) by decide, if_false]
  omega
theorem range_itD {pins : List (Addr × Obj)} {σ : St} {H : Hp} {s : Shared} {R : It → Hp → Prop} {E : Value → Shared → Prop} {lo hi : Int} {t u v : Tok} {tk : Nat} (I : Inv X pins σ H s) (h1 : -(2 ^ 60) ≤ lo) (h2 : lo < 2 ^ 60) (h3 : -(2 ^ 60) ≤ hi) (h4 : hi < 2 ^ 60)
    (q : R (Itc lo (-1) (lo - hi).toNat) H) : wpAny (model X.prog X.w) X.A (pyIter (.ref s.heap.objs.size)) (PIE X pins σ tg R) E { s with heap := s.heap.push { cls := .type "range", data := .fields #[.int lo t, .int hi u, .int (-1) v] }, toks := tk } := by
  refine wpAny_pyIter_range (IsRange.new ..) (small_down h1 h2 h3 h4) ?_
  have I1 : Inv X pins σ H { s with heap := s.heap.push { cls := .type "range", data := .fields #[.int lo t, .int hi u, .int (-1) v] }, toks := tk } := I.kept fun b o e => Heap.get?_push_of_some _ e
  refine ⟨(s.heap.push { cls := .type "range", data := .fields #[.int lo t, .int hi u, .int (-1) v] }).objs.size, [(s.heap.push { cls := .type "range", data := .fields #[.int lo t, .int hi u, .int (-1) v] }).objs.size], _, _, H, rfl,
    I1.kept (t' := tk) fun b o e => Heap.get?_push_of_some _ e, turn_rangeC _ lo (-1) (lo - hi).toNat, ?_, fun b hb => ?_, q⟩
  · have e1 : lo + ((0 : Nat) : Int) * (-1) = lo := by simp
    have e2 : (((lo - hi).toNat : Nat) : Int) - ((0 : Nat) : Int) = Builtin.Range.rangeSize lo hi (-1) := by rw [rangeSize_down]; simp
    show IsRangeIter _ _ (lo + ((0 : Nat) : Int) * (-1)) ((((lo - hi).toNat : Nat) : Int) - ((0 : Nat) : Int)) (-1)
    rw [e1, e2]
    exact Heap.get?_push_size _ rfl
  · have e : b = (s.heap.push { cls := .type "range", data := .fields #[.int lo t, .int hi u, .int (-1) v] }).objs.size := by simpa using hb
    subst e
    exact I1.fpOk (Nat.le_refl _) (I1.hok.fresh (Nat.le_refl _))
def iRngD (ta : TA) : TI := fun σ H R => ta σ H fun vs H1 => ∃ i j : Int, vs = [.int i, .int j, .int (-1)] ∧ (-(2 ^ 60) ≤ i ∧ i < 2 ^ 60 ∧ -(2 ^ 60) ≤ j ∧ j < 2 ^ 60) ∧ R (Itc i (-1) (i - j).toNat) H1
theorem pi_rangeD {a : Expr} {es : List Expr} {ta : TA} {p pos : Pos} (hg : Gl X "range") (hm : X.mg "range" = none) (ha : PA X (a :: es) ta) (he : starEach (a :: es) X.env = (false, eval a X.env) :: starEach es X.env := by rfl) (hpl : (backTo pos (starEach es X.env)).any (·.1) = false := by rfl) :
    PI X tg (.Call (.Name "range" p) (a :: es) [] pos) (iRngD ta) := by
  intro pins s σ H R I h
  refine Call_ (ld_blt I hg hm boot_range (PyProof.Rows.callWith_type1 (thn (ha pos pins s σ H _ I h) fun us s1 ⟨vs, H1, I1, r1, q1⟩ => ?_) he hpl))
  obtain ⟨i, j, e, ⟨q1, q2, q3, q4⟩, q⟩ := q1
  subst e
  cases r1 with
  | cons r rr =>
    cases rr with
    | cons r' rr =>
      cases rr with
      | cons r'' rr =>
        cases rr
        obtain ⟨t, rfl⟩ := r
        obtain ⟨t', rfl⟩ := r'
        obtain ⟨t'', rfl⟩ := r''
        exact call_range_3 (by omega) (range_itD I1 q1 q2 q3 q4 q) (.inl (PyProof.noPylong_small (by omega)))
end
theorem tab_or {P : Program} {w : World} {K : PySem.W.Frag} {mg : Str → Option Value} {base : Heap} {CX : CXT} {n m : Nat} {S T : Addr → Sp → Prop} (h : TabOk P w K mg base CX n S) (h' : TabOk P w K mg base CX m T) : TabOk P w K mg base CX (max n m) (fun g s => S g s ∨ T g s) := ⟨fun g s z => by
  rcases z with z | z
  · obtain ⟨fd, ps, F, b, kp⟩ := h.ok g s z
    exact ⟨fd, ps, F.mono (Nat.le_max_left ..), b, kp⟩
  · obtain ⟨fd, ps, F, b, kp⟩ := h'.ok g s z
    exact ⟨fd, ps, F.mono (Nat.le_max_right ..), b, kp⟩⟩
end L2
namespace K92
open PySem L2
set_option maxHeartbeats 1000000
section
def top (i : Nat) : Stmt := PySem.Challenge.pw_deeprests_k92_whole_roots_by_text.main.body.getD i (.Pass ⟨0, 0, 0, 0⟩)
def inner (s : Stmt) (j : Nat) : Stmt := match s with | .ClassDef _ _ _ body _ _ _ _ _ _ _ => body.getD j (.Pass ⟨0, 0, 0, 0⟩) | _ => .Pass ⟨0, 0, 0, 0⟩
def l_WANTED : List (Str × Tok × Value) := [("poly", 803, .ref 420), ("times", 806, .ref 421), ("seen", 810, .ref 422), ("slope", 815, .ref 423), ("drop", 818, .ref 424), ("names", 820, .ref 425), ("show", 821, .ref 426), ("solve", 823, .ref 427), ("count", 826, .ref 428), ("single", 829, .ref 429), ("root", 832, .ref 430), ("roots", 836, .ref 431), ("border", 839, .ref 432), ("small", 841, .ref 433), ("parts", 845, .ref 434)]
theorem w_WANTED_poly : atK l_WANTED "poly" = some (.ref 420) := by decide +kernel
theorem w_WANTED_seen : atK l_WANTED "seen" = some (.ref 422) := by decide +kernel
theorem w_WANTED_single : atK l_WANTED "single" = some (.ref 429) := by decide +kernel
theorem w_WANTED_root : atK l_WANTED "root" = some (.ref 430) := by decide +kernel
theorem w_WANTED_roots : atK l_WANTED "roots" = some (.ref 431) := by decide +kernel
def l_MADE : List (Str × Tok × Value) := [("poly", 997, .ref 469), ("times", 998, .ref 476), ("seen", 999, .ref 483), ("slope", 1000, .ref 490)]
theorem w_MADE_poly : atK l_MADE "poly" = some (.ref 469) := by decide +kernel
theorem w_MADE_seen : atK l_MADE "seen" = some (.ref 483) := by decide +kernel
theorem w_MADE_single : atK l_MADE "single" = none := by decide +kernel
theorem w_MADE_root : atK l_MADE "root" = none := by decide +kernel
theorem w_MADE_roots : atK l_MADE "roots" = none := by decide +kernel
def l_TOLD : List (Str × Tok × Value) := [("show", 1006, .ref 497), ("solve", 1007, .ref 502), ("count", 1008, .ref 509), ("single", 1009, .ref 516), ("root", 1010, .ref 523), ("roots", 1011, .ref 528), ("border", 1012, .ref 533), ("small", 1013, .ref 540), ("parts", 1014, .ref 545)]
theorem w_TOLD_single : atK l_TOLD "single" = some (.ref 516) := by decide +kernel
theorem w_TOLD_root : atK l_TOLD "root" = some (.ref 523) := by decide +kernel
theorem w_TOLD_roots : atK l_TOLD "roots" = some (.ref 528) := by decide +kernel
abbrev s_is_prime : Stmt := top 14
theorem S_is_prime : FnScope ["thing", "divisor"] ["thing"] (defScope s_is_prime) := ⟨rfl, rfl, rfl, by decide +kernel, rfl, by decide +kernel, by decide +kernel⟩
abbrev s_depth_of : Stmt := top 15
theorem S_depth_of : FnScope ["p", "x", "depth", "left"] ["p", "x"] (defScope s_depth_of) := ⟨rfl, rfl, rfl, by decide +kernel, rfl, by decide +kernel, by decide +kernel⟩
abbrev s_power_of : Stmt := top 16
theorem S_power_of : FnScope ["p", "e", "power", "turn"] ["p", "e"] (defScope s_power_of) := ⟨rfl, rfl, rfl, by decide +kernel, rfl, by decide +kernel, by decide +kernel⟩
abbrev s_inverse_by_prime : Stmt := top 17
theorem S_inverse_by_prime : FnScope ["p", "x", "fitting"] ["p", "x"] (defScope s_inverse_by_prime) := ⟨rfl, rfl, rfl, by decide +kernel, rfl, by decide +kernel, by decide +kernel⟩
abbrev s_inverse_of : Stmt := top 18
theorem S_inverse_of : FnScope ["p", "e", "x", "power", "y", "reached"] ["p", "e", "x"] (defScope s_inverse_of) := ⟨rfl, rfl, rfl, by decide +kernel, rfl, by decide +kernel, by decide +kernel⟩
abbrev s_worth_at : Stmt := top 30
theorem S_worth_at : FnScope ["f", "x", "worth", "number"] ["f", "x"] (defScope s_worth_at) := ⟨rfl, rfl, rfl, by decide +kernel, rfl, by decide +kernel, by decide +kernel⟩
abbrev s_degree_of : Stmt := top 31
theorem S_degree_of : FnScope ["f", "degree", "place", "number"] ["f"] (defScope s_degree_of) := ⟨rfl, rfl, rfl, by decide +kernel, rfl, by decide +kernel, by decide +kernel⟩
abbrev s_poly_product : Stmt := top 32
theorem S_poly_product : FnScope ["f", "g", "product", "place", "number", "other_place", "other_number"] ["f", "g"] (defScope s_poly_product) := ⟨rfl, rfl, rfl, by decide +kernel, rfl, by decide +kernel, by decide +kernel⟩
abbrev s_slope_of : Stmt := top 33
theorem S_slope_of : FnScope ["f"] ["f"] (defScope s_slope_of) := ⟨rfl, rfl, rfl, by decide +kernel, rfl, by decide +kernel, by decide +kernel⟩
abbrev s_seen_from : Stmt := top 34
theorem S_seen_from : FnScope ["p", "f", "a", "e", "place_seen", "seen", "number"] ["p", "f", "a", "e"] (defScope s_seen_from) := ⟨rfl, rfl, rfl, by decide +kernel, rfl, by decide +kernel, by decide +kernel⟩
abbrev s_content_of : Stmt := top 35
theorem S_content_of : FnScope ["p", "f", "content", "left"] ["p", "f"] (defScope s_content_of) := ⟨rfl, rfl, rfl, by decide +kernel, rfl, by decide +kernel, by decide +kernel⟩
abbrev s_without_content : Stmt := top 36
theorem S_without_content : FnScope ["p", "f", "power"] ["p", "f"] (defScope s_without_content) := ⟨rfl, rfl, rfl, by decide +kernel, rfl, by decide +kernel, by decide +kernel⟩
abbrev s_rests_by_prime : Stmt := top 37
theorem S_rests_by_prime : FnScope ["p", "f", "small"] ["p", "f"] (defScope s_rests_by_prime) := ⟨rfl, rfl, rfl, by decide +kernel, rfl, by decide +kernel, by decide +kernel⟩
abbrev s_single_depth : Stmt := top 47
theorem S_single_depth : FnScope ["p", "f", "a", "rise", "d"] ["p", "f", "a"] (defScope s_single_depth) := ⟨rfl, rfl, rfl, by decide +kernel, rfl, by decide +kernel, by decide +kernel⟩
abbrev s_root_of : Stmt := top 48
theorem S_root_of : FnScope ["p", "f", "a", "N", "d"] ["p", "f", "a", "N"] (defScope s_root_of) := ⟨rfl, rfl, rfl, by decide +kernel, rfl, by decide +kernel, by decide +kernel⟩
abbrev s_deepened : Stmt := top 49
theorem S_deepened : FnScope ["p", "f", "a", "d", "N", "power", "worth_power", "root", "inverse", "turn", "t"] ["p", "f", "a", "d", "N"] (defScope s_deepened) := ⟨rfl, rfl, rfl, by decide +kernel, rfl, by decide +kernel, by decide +kernel⟩
abbrev s_roots_within : Stmt := top 50
theorem S_roots_within : FnScope ["p", "a", "e", "seen", "N", "freed", "slope", "power", "roots", "r", "root"] ["p", "a", "e", "seen", "N"] (defScope s_roots_within) := ⟨rfl, rfl, rfl, by decide +kernel, rfl, by decide +kernel, by decide +kernel⟩
abbrev s_endless_roots : Stmt := top 51
theorem S_endless_roots : FnScope ["p", "f", "N"] ["p", "f", "N"] (defScope s_endless_roots) := ⟨rfl, rfl, rfl, by decide +kernel, rfl, by decide +kernel, by decide +kernel⟩
abbrev s_is_made_of : Stmt := top 61
theorem S_is_made_of : FnScope ["text", "signs"] ["text", "signs"] (defScope s_is_made_of) := ⟨rfl, rfl, rfl, by decide +kernel, rfl, by decide +kernel, by decide +kernel⟩
abbrev s_is_written_number : Stmt := top 62
theorem S_is_written_number : FnScope ["text", "below", "figures"] ["text"] (defScope s_is_written_number) := ⟨rfl, rfl, rfl, by decide +kernel, rfl, by decide +kernel, by decide +kernel⟩
abbrev s_can_be_written : Stmt := top 63
theorem S_can_be_written : FnScope ["number"] ["number"] (defScope s_can_be_written) := ⟨rfl, rfl, rfl, by decide +kernel, rfl, by decide +kernel, by decide +kernel⟩
abbrev s_read_number : Stmt := top 64
theorem S_read_number : FnScope ["text"] ["text"] (defScope s_read_number) := ⟨rfl, rfl, rfl, by decide +kernel, rfl, by decide +kernel, by decide +kernel⟩
abbrev s_read_poly : Stmt := top 65
theorem S_read_poly : FnScope ["text", "words"] ["text"] (defScope s_read_poly) := ⟨rfl, rfl, rfl, by decide +kernel, rfl, by decide +kernel, by decide +kernel⟩
abbrev s_words_of : Stmt := top 72
theorem S_words_of : FnScope ["row", "words"] ["row"] (defScope s_words_of) := ⟨rfl, rfl, rfl, by decide +kernel, rfl, by decide +kernel, by decide +kernel⟩
abbrev s_read_name : Stmt := top 73
theorem S_read_name : FnScope ["word"] ["word"] (defScope s_read_name) := ⟨rfl, rfl, rfl, by decide +kernel, rfl, by decide +kernel, by decide +kernel⟩
abbrev s_read_depth : Stmt := top 74
theorem S_read_depth : FnScope ["word", "depth"] ["word"] (defScope s_read_depth) := ⟨rfl, rfl, rfl, by decide +kernel, rfl, by decide +kernel, by decide +kernel⟩
abbrev s_listed : Stmt := top 75
theorem S_listed : FnScope ["texts", "without"] ["texts", "without"] (defScope s_listed) := ⟨rfl, rfl, rfl, by decide +kernel, rfl, by decide +kernel, by decide +kernel⟩
abbrev s_made_poly : Stmt := top 76
theorem S_made_poly : FnScope ["p", "things"] ["p", "things"] (defScope s_made_poly) := ⟨rfl, rfl, rfl, by decide +kernel, rfl, by decide +kernel, by decide +kernel⟩
abbrev s_made_seen : Stmt := top 78
theorem S_made_seen : FnScope ["p", "things"] ["p", "things"] (defScope s_made_seen) := ⟨rfl, rfl, rfl, by decide +kernel, rfl, by decide +kernel, by decide +kernel⟩
abbrev s_told_single : Stmt := top 83
theorem S_told_single : FnScope ["p", "things", "depth"] ["p", "things"] (defScope s_told_single) := ⟨rfl, rfl, rfl, by decide +kernel, rfl, by decide +kernel, by decide +kernel⟩
abbrev s_told_root : Stmt := top 84
theorem S_told_root : FnScope ["p", "things"] ["p", "things"] (defScope s_told_root) := ⟨rfl, rfl, rfl, by decide +kernel, rfl, by decide +kernel, by decide +kernel⟩
abbrev s_told_roots : Stmt := top 85
theorem S_told_roots : FnScope ["p", "things"] ["p", "things"] (defScope s_told_roots) := ⟨rfl, rfl, rfl, by decide +kernel, rfl, by decide +kernel, by decide +kernel⟩
abbrev s___init__ : Stmt := inner (top 91) 0
theorem S___init__ : FnScope ["self", "p"] ["self", "p"] (defScope s___init__) := ⟨rfl, rfl, rfl, by decide +kernel, rfl, by decide +kernel, by decide +kernel⟩
abbrev s_say : Stmt := inner (top 91) 1
theorem S_say : FnScope ["self", "row", "words", "deed", "things"] ["self", "row"] (defScope s_say) := ⟨rfl, rfl, rfl, by decide +kernel, rfl, by decide +kernel, by decide +kernel⟩
abbrev s_thing_of : Stmt := inner (top 91) 2
theorem S_thing_of : FnScope ["self", "wanted", "word"] ["self", "wanted", "word"] (defScope s_thing_of) := ⟨rfl, rfl, rfl, by decide +kernel, rfl, by decide +kernel, by decide +kernel⟩
abbrev s_standing : Stmt := inner (top 91) 3
theorem S_standing : FnScope ["self", "name"] ["self", "name"] (defScope s_standing) := ⟨rfl, rfl, rfl, by decide +kernel, rfl, by decide +kernel, by decide +kernel⟩
abbrev s_keep : Stmt := inner (top 91) 4
theorem S_keep : FnScope ["self", "name", "polynomial"] ["self", "name", "polynomial"] (defScope s_keep) := ⟨rfl, rfl, rfl, by decide +kernel, rfl, by decide +kernel, by decide +kernel⟩
abbrev s__law_cell : Stmt := top 93
theorem S__law_cell : FnScope ["script", "k"] ["script", "k"] (defScope s__law_cell) := ⟨rfl, rfl, rfl, by decide +kernel, rfl, by decide +kernel, by decide +kernel⟩
abbrev s__law_prime : Stmt := top 94
theorem S__law_prime : FnScope ["cell", "some"] ["cell"] (defScope s__law_prime) := ⟨rfl, rfl, rfl, by decide +kernel, rfl, by decide +kernel, by decide +kernel⟩
abbrev s__law_times : Stmt := top 96
theorem S__law_times : FnScope ["f", "g", "found", "i", "j"] ["f", "g"] (defScope s__law_times) := ⟨rfl, rfl, rfl, by decide +kernel, rfl, by decide +kernel, by decide +kernel⟩
abbrev s__law_power : Stmt := top 97
theorem S__law_power : FnScope ["p", "e", "found", "k"] ["p", "e"] (defScope s__law_power) := ⟨rfl, rfl, rfl, by decide +kernel, rfl, by decide +kernel, by decide +kernel⟩
abbrev s__law_roots : Stmt := top 98
theorem S__law_roots : FnScope ["p", "script", "found", "k", "root", "other"] ["p", "script"] (defScope s__law_roots) := ⟨rfl, rfl, rfl, by decide +kernel, rfl, by decide +kernel, by decide +kernel⟩
abbrev s__law_depth : Stmt := top 99
theorem S__law_depth : FnScope ["p", "number", "e"] ["p", "number"] (defScope s__law_depth) := ⟨rfl, rfl, rfl, by decide +kernel, rfl, by decide +kernel, by decide +kernel⟩
abbrev s__law_written : Stmt := top 100
theorem S__law_written : FnScope ["rests"] ["rests"] (defScope s__law_written) := ⟨rfl, rfl, rfl, by decide +kernel, rfl, by decide +kernel, by decide +kernel⟩
abbrev s__law_slope_worth : Stmt := top 101
theorem S__law_slope_worth : FnScope ["f", "x", "total", "k"] ["f", "x"] (defScope s__law_slope_worth) := ⟨rfl, rfl, rfl, by decide +kernel, rfl, by decide +kernel, by decide +kernel⟩
abbrev s__law_single : Stmt := top 102
theorem S__law_single : FnScope ["desk", "p", "f", "root", "deep", "d", "due", "near"] ["desk", "p", "f", "root", "deep"] (defScope s__law_single) := ⟨rfl, rfl, rfl, by decide +kernel, rfl, by decide +kernel, by decide +kernel⟩
abbrev s_law : Stmt := top 103
theorem S_law : FnScope ["script", "p", "roots", "f", "root", "deep", "desk", "e", "due"] ["script"] (defScope s_law) := ⟨rfl, rfl, rfl, by decide +kernel, rfl, by decide +kernel, by decide +kernel⟩
structure Bi (mg : Str → Option Value) (K : PySem.W.Frag) (w : World) : Prop where
  kd_WANTED : KDict K w 419 l_WANTED
  gd_WANTED : mg "WANTED" = some (.ref 419)
  kd_MADE : KDict K w 546 l_MADE
  gd_MADE : mg "MADE" = some (.ref 546)
  kd_TOLD : KDict K w 547 l_TOLD
  gd_TOLD : mg "TOLD" = some (.ref 547)
  tu_420 : KTup K 420 [.str "new", .str "poly"]
  tu_422 : KTup K 422 [.str "new", .str "name", .str "number", .str "depth"]
  tu_429 : KTup K 429 [.str "name", .str "number"]
  tu_430 : KTup K 430 [.str "name", .str "number", .str "depth"]
  tu_431 : KTup K 431 [.str "name", .str "depth"]
  fa_made_poly : mg "made_poly" = some (.ref 469)
  fa_made_seen : mg "made_seen" = some (.ref 483)
  fa_told_single : mg "told_single" = some (.ref 516)
  fa_told_root : mg "told_root" = some (.ref 523)
  fa_told_roots : mg "told_roots" = some (.ref 528)
  cl_Desk : Cls K (clK K "Desk")
  na_prime : NoAttr K (clK K "Desk") "prime"
  na_kept : NoAttr K (clK K "Desk") "kept"
  b_abs : mg "abs" = none
  b_all : mg "all" = none
  b_bool : mg "bool" = none
  b_enumerate : mg "enumerate" = none
  b_int : mg "int" = none
  b_isinstance : mg "isinstance" = none
  b_len : mg "len" = none
  b_list : mg "list" = none
  b_max : mg "max" = none
  b_min : mg "min" = none
  b_range : mg "range" = none
  b_reversed : mg "reversed" = none
  b_sorted : mg "sorted" = none
  b_str : mg "str" = none
  b_sum : mg "sum" = none
  b_zip : mg "zip" = none
  g_FIGURES : ∃ t, mg "FIGURES" = some (.str "0123456789" t)
  g_GREATEST_DEPTH : ∃ t, mg "GREATEST_DEPTH" = some (.int 60 t)
  g_GREATEST_PRIME : ∃ t, mg "GREATEST_PRIME" = some (.int 97 t)
  g_LETTERS : ∃ t, mg "LETTERS" = some (.str "abcdefghijklmnopqrstuvwxyz" t)
  g_MOST_FIGURES : ∃ t, mg "MOST_FIGURES" = some (.int 60 t)
  g_MOST_LETTERS : ∃ t, mg "MOST_LETTERS" = some (.int 8 t)
  g_MOST_NUMBERS : ∃ t, mg "MOST_NUMBERS" = some (.int 13 t)
  c_Desk : mg "Desk" = some (.ref (clK K "Desk"))
  c_NoDepth : mg "NoDepth" = some (.ref (clK K "NoDepth"))
  c_NoInverse : mg "NoInverse" = some (.ref (clK K "NoInverse"))
  c_NoName : mg "NoName" = some (.ref (clK K "NoName"))
  c_NoParts : mg "NoParts" = some (.ref (clK K "NoParts"))
  c_NoPrime : mg "NoPrime" = some (.ref (clK K "NoPrime"))
  c_NoRow : mg "NoRow" = some (.ref (clK K "NoRow"))
  c_NoSingle : mg "NoSingle" = some (.ref (clK K "NoSingle"))
  c_NoSmall : mg "NoSmall" = some (.ref (clK K "NoSmall"))
  c_NoText : mg "NoText" = some (.ref (clK K "NoText"))
  c_TooDeep : mg "TooDeep" = some (.ref (clK K "TooDeep"))
  c_TooGreat : mg "TooGreat" = some (.ref (clK K "TooGreat"))
  x_NoDepth : ExcK K (clK K "NoDepth")
  x_NoSingle : ExcK K (clK K "NoSingle")
  x_TooDeep : ExcK K (clK K "TooDeep")
variable {P : Program} {w : World} {K : PySem.W.Frag} {mg : Str → Option Value} {base : Heap} {f : Addr} {fd : FuncData}
theorem log_small {p : Int} (h : 2 ≤ p ∧ p < 1000) : CDivW 0 p := ⟨by omega, by
  have h1 : p.natAbs < 1000 := by omega
  have h2 : p.natAbs.log2 < 10 := (Nat.log2_lt (by omega)).mpr (Nat.lt_trans h1 (by decide))
  omega⟩
theorem atI_ints {ns : List Int} {i : Int} (h0 : 0 ≤ i) (h1 : i < (ns.length : Int)) : atI (ns.map V.int) i = some (.int (ns.getD i.toNat 0)) := by
  have hk : i.toNat < ns.length := by omega
  have ek : i = ((i.toNat : Nat) : Int) := by omega
  have g : atI (ns.map V.int) ((i.toNat : Nat) : Int) = some (.int (ns.getD i.toNat 0)) := atI_nat (by rw [List.getElem?_map, List.getElem?_eq_getElem hk, List.getD_eq_getElem?_getD, List.getElem?_eq_getElem hk]; rfl)
  rw [← ek] at g
  exact g
theorem getD_in {ns : List Int} {i : Int} (h0 : 0 ≤ i) (h1 : i < (ns.length : Int)) : ns.getD i.toNat 0 ∈ ns := by
  rw [List.getD_eq_getElem?_getD, List.getElem?_eq_getElem (by omega)]
  exact List.getElem_mem _
theorem mod_in (x : Int) {m : Int} (h : 0 < m) : 0 ≤ x % m ∧ x % m < m := ⟨Int.emod_nonneg x (by omega), Int.emod_lt_of_pos x h⟩
def Sh (n : Int) : Prop := Builtin.Int.intBits n ≤ 2 ^ 20 + 64
theorem sh_div {n m : Int} (h : Sh n) (hm : 0 < m) : Sh (n / m) := by
  unfold Sh at *
  have : n / m = n.fdiv m := (Int.fdiv_eq_ediv_of_nonneg n (by omega)).symm
  rw [this]
  exact PyProof.Rows.bits_fdiv h
theorem pow_bits {p : Int} (hp : 2 ≤ p ∧ p < 1000) (n : Nat) : (p ^ n).natAbs < 2 ^ (10 * n + 1) := by
  have h1 : p ^ n ≤ 1024 ^ n := int_pow_le (by omega) (by omega) _
  have h2 : (1024 : Int) ^ n = ((2 ^ (10 * n) : Nat) : Int) := by
    rw [Nat.pow_mul]
    simp
  have h3 := Dr.pow_pos hp.1 n
  rw [Nat.pow_succ]
  omega
theorem us1 {us : List Value} (h : us.length = 1) : ∃ a0, us = [a0] := List.length_eq_one_iff.mp h
theorem us2 : ∀ {us : List Value}, us.length = 2 → ∃ a0 a1, us = [a0, a1]
  | [], h => (by cases h)
  | a0 :: r, h => by
    obtain ⟨a1, rfl⟩ := us1 (us := r) (by simpa using h)
    exact ⟨a0, a1, rfl⟩
theorem us3 : ∀ {us : List Value}, us.length = 3 → ∃ a0 a1 a2, us = [a0, a1, a2]
  | [], h => (by cases h)
  | a0 :: r, h => by
    obtain ⟨a1, a2, rfl⟩ := us2 (us := r) (by simpa using h)
    exact ⟨a0, a1, a2, rfl⟩
theorem us4 : ∀ {us : List Value}, us.length = 4 → ∃ a0 a1 a2 a3, us = [a0, a1, a2, a3]
  | [], h => (by cases h)
  | a0 :: r, h => by
    obtain ⟨a1, a2, a3, rfl⟩ := us3 (us := r) (by simpa using h)
    exact ⟨a0, a1, a2, a3, rfl⟩
theorem us5 : ∀ {us : List Value}, us.length = 5 → ∃ a0 a1 a2 a3 a4, us = [a0, a1, a2, a3, a4]
  | [], h => (by cases h)
  | a0 :: r, h => by
    obtain ⟨a1, a2, a3, a4, rfl⟩ := us4 (us := r) (by simpa using h)
    exact ⟨a0, a1, a2, a3, a4, rfl⟩
def sp_is_made_of (_ : PySem.W.Frag) : Sp := fun vs H Q _ => ∃ z y : Str, vs = [.str z, .str y] ∧ z.length ≤ 2000 ∧ ∀ (b : Bool) (H' : Hp), Same H H' → (b = true ↔ ∀ c, c ∈ z.cps.toList → c ∈ y.cps.toList) → Q (.bl b) H'
theorem take_next {α : Type} {l : List α} {i : Nat} {c : α} (h : l[i]? = some c) : l.take (i + 1) = l.take i ++ [c] := by
  rw [List.take_add_one, h]
  rfl
theorem strs_at {l : List Str} {i : Nat} {x : V} (h : (l.map V.str)[i]? = some x) : ∃ w, l[i]? = some w ∧ x = .str w := by
  rw [List.getElem?_map] at h
  cases e : l[i]? with
  | none => rw [e] at h; cases h
  | some w =>
    rw [e] at h
    exact ⟨w, rfl, (Option.some.inj h).symm⟩
theorem none_of {H H' : Hp} {l : Addr} (g : Same H H') (n : H' l = none) : H l = none := by
  cases e : H l with
  | none => rfl
  | some o =>
    have := g _ _ e
    rw [n] at this
    cases this
theorem newS {H : Hp} {l : Addr} {o : _} (n : H l = none) : Same H (upd H l o) := (newH rfl n).1
theorem figure_in {c : Nat} : decide (c ∈ (Str.ofString "0123456789").cps.toList) = decide (48 ≤ c ∧ c ≤ 57) := by
  rw [show (Str.ofString "0123456789").cps.toList = [48, 49, 50, 51, 52, 53, 54, 55, 56, 57] by decide +kernel]
  rw [decide_eq_decide]
  simp only [List.mem_cons, List.not_mem_nil, or_false]
  omega
local macro_rules | `(tactic| walk_at "dr1") => `(tactic| simp only [tSeq, tNext, tRet, tRetN, tDrop, tIfS, tIf, tTest, tB, tAnd, tOr, tNot, tAndV, tOrV, tNotV, tAsg, gName, gTup, gLst, gCons, gNil, tPar, tAug, tVar, tC, tOp, tUn, rI, rI0, rU, rEq, rNe, rAdd, rSub, ipI, tCons, tNil, tTup, tLst, tCall, tCB, tSl, tNoPart, tPart, gSub, tAugS, rGetL, iEnum, tSlK, tListRng, rExtend, rClear, iZip, tDNewT, tDGet, tDGet2, sDPut, iDict, rSlL, rSlT, rIxL, rIxT, rSetL, rIn, tBM, tBM0, rAppend, rCat, rRep, tNever, tRaise, tTry, tTryAs, Ends.gone, tCallX, cx_K, cc_K, w_tyl, Int.reduceLT, Int.reduceLE, Nat.reduceLT, Nat.reduceLeDiff, tChain, w_for, w_comp, w_comp2, capV, Option.getD_some, iRng1, iRng2, iRng3, iList, iTup, iRev, tListRev, L2.start, sc_ii, sc_bb, sc_in, sc_ni, sc_ss, sc_nn, sc_bn, sc_is, isv_int_int, isv_int_bool, isv_int_str, isv_int_list, isv_int_tuple, isv_int_dict, isv_bool_int, isv_bool_bool, isv_bool_str, isv_bool_list, isv_bool_tuple, isv_bool_dict, isv_NoneType_int, isv_NoneType_bool, isv_NoneType_str, isv_NoneType_list, isv_NoneType_tuple, isv_NoneType_dict, isv_str_int, isv_str_bool, isv_str_str, isv_str_list, isv_str_tuple, isv_str_dict, iso_list_int, iso_list_bool, iso_list_str, iso_list_list, iso_list_tuple, iso_list_dict, iso_tuple_int, iso_tuple_bool, iso_tuple_str, iso_tuple_list, iso_tuple_tuple, iso_tuple_dict, iso_dict_int, iso_dict_bool, iso_dict_str, iso_dict_list, iso_dict_tuple, iso_dict_dict, isCls, clsV, List.getElem?_cons_zero, List.getElem?_cons_succ, List.set_cons_zero, List.set_cons_succ, List.map_cons, List.map_nil, List.cons_append, List.nil_append, List.append_nil, List.replicate_succ, List.replicate_zero, List.length_cons, List.length_nil, Option.some.injEq, exists_eq, exists_eq', exists_eq_left, exists_eq_left', exists_and_left, exists_and_right, List.cons.injEq, V.int.injEq, V.bl.injEq, V.ref.injEq, V.str.injEq, V.ty.injEq, reduceCtorEq, and_true, true_and, and_assoc, false_and, and_false, or_false, false_or, exists_false, decide_eq_true_eq, Bool.not_eq_true', decide_eq_false_iff_not, Bool.not_eq_false', Bool.not_eq_true, Bool.false_eq_true, Bool.true_eq_false, ite_true, ite_false, if_true, if_false, Bool.not_true, Bool.not_false, Bool.true_eq, Bool.or_true, Bool.or_false, Bool.true_or, Bool.false_or, Bool.and_true, Bool.and_false, beq_self_eq_true, decide_true, decide_false, eq_self_iff_true, not_true_eq_false, not_false_eq_true, tKGet, tKIn, tKNot, tCallV, tMeth, tMethX, tMake, tFld, sFld, tDIn, tDNotIn, tDNewK, iZipT, iRngD])
theorem ok_is_made_of (B : Bi mg K w) (F : Fun K "is_made_of" "is_made_of" s_is_made_of f fd) : FnOk P w K mg base CX0 1 f fd ["text", "signs"] (sp_is_made_of K) := by
  refine F.ok S_is_made_of (fun vs H Q E h => ?_) (fun cdv A outer s H vs Q E hr h => ?_)
  · obtain ⟨z, y, rfl, _⟩ := h
    rfl
  obtain ⟨z, y, rfl, hz, q⟩ := h
  have S := S_is_made_of
  refine ⟨_, ((pss_one (ps_ret (pe_callB (call_allB rfl) rfl B.b_all bt_all (pa_cons (pe_comp [1] ["signs"] rfl rfl ⟨rfl, trivial⟩ ⟨rfl, rfl, rfl, rfl, trivial⟩ rfl rfl (by decide) (by decide) rfl rfl (by decide) (pi_str (pv 0)) (fun _ _ _ _ => pts_nil) (fun _ _ _ _ => (pe_cmpR op_in_str (pv 0) (pv 1) rfl))) pa_nil))))), ?_⟩
  (first | refine hX _ _ ?_ | skip); (try dsimp only); try walk_at "dr1"; (try simp only [iStr]); try walk_at "dr1"
  obtain ⟨Pv, hPv⟩ : ∃ Pv : Nat → List V → Hp → Prop, ∀ i ys H', Pv i ys H' ↔ (H' = H ∧ ys = (((z.cps.toList.take i).map fun c => decide (c ∈ y.cps.toList)).map V.bl)) := ⟨_, fun _ _ _ => Iff.rfl⟩
  have hz' : z.cps.toList.length ≤ 2000 := by simpa [Str.length] using hz
  refine compS z Pv (Nat.le_trans hz' (by decide)) ((hPv _ _ _).mpr ⟨rfl, by simp⟩) (fun i c ys H2 hc p => ?_) (fun ys H2 p l n_l => ?_)
  · obtain ⟨rfl, rfl⟩ := (hPv _ _ _).mp p
    (first | refine hX _ _ ?_ | skip); (try dsimp only); try walk_at "dr1"
    refine (hPv _ _ _).mpr ⟨rfl, ?_⟩
    rw [StrLaws.found_one, take_next hc, List.map_append, List.map_append]
    rfl
  · obtain ⟨rfl, rfl⟩ := (hPv _ _ _).mp p
    refine ⟨l, rfl, _, SqL.of upd_same, ?_⟩
    refine q _ _ (newS n_l) ?_
    rw [List.take_length, List.all_map, List.all_eq_true]
    simp
def sp_is_written_number (_ : PySem.W.Frag) : Sp := fun vs H Q _ => ∃ z : Str, vs = [.str z] ∧ z.length ≤ 2000 ∧ ∀ (b : Bool) (H' : Hp), Same H H' → (b = true ↔ Tx.Wr z.cps.toList) → Q (.bl b) H'
local macro_rules | `(tactic| walk_at "dr2") => `(tactic| simp only [tNext, tRet, tRetN, tDrop, tIfS, tIf, tTest, tB, tAnd, tOr, tNot, tAndV, tOrV, tNotV, tAsg, gName, gTup, gLst, gCons, gNil, tPar, tAug, tVar, tC, tOp, tUn, rI, rI0, rU, rEq, rNe, rAdd, rSub, ipI, tCons, tNil, tTup, tLst, tCall, tCB, tSl, tNoPart, tPart, gSub, tAugS, rGetL, iEnum, tSlK, tListRng, rExtend, rClear, iZip, tDNewT, tDGet, tDGet2, sDPut, iDict, rSlL, rSlT, rIxL, rIxT, rSetL, rIn, tBM, tBM0, rAppend, rCat, rRep, tNever, tRaise, tTry, tTryAs, Ends.gone, tCallX, cx_K, cc_K, w_tyl, Int.reduceLT, Int.reduceLE, Nat.reduceLT, Nat.reduceLeDiff, tChain, w_for, w_comp, w_comp2, capV, Option.getD_some, iRng1, iRng2, iRng3, iList, iTup, iRev, tListRev, L2.start, sc_ii, sc_bb, sc_in, sc_ni, sc_ss, sc_nn, sc_bn, sc_is, isv_int_int, isv_int_bool, isv_int_str, isv_int_list, isv_int_tuple, isv_int_dict, isv_bool_int, isv_bool_bool, isv_bool_str, isv_bool_list, isv_bool_tuple, isv_bool_dict, isv_NoneType_int, isv_NoneType_bool, isv_NoneType_str, isv_NoneType_list, isv_NoneType_tuple, isv_NoneType_dict, isv_str_int, isv_str_bool, isv_str_str, isv_str_list, isv_str_tuple, isv_str_dict, iso_list_int, iso_list_bool, iso_list_str, iso_list_list, iso_list_tuple, iso_list_dict, iso_tuple_int, iso_tuple_bool, iso_tuple_str, iso_tuple_list, iso_tuple_tuple, iso_tuple_dict, iso_dict_int, iso_dict_bool, iso_dict_str, iso_dict_list, iso_dict_tuple, iso_dict_dict, isCls, clsV, List.getElem?_cons_zero, List.getElem?_cons_succ, List.set_cons_zero, List.set_cons_succ, List.map_cons, List.map_nil, List.cons_append, List.nil_append, List.append_nil, List.replicate_succ, List.replicate_zero, List.length_cons, List.length_nil, Option.some.injEq, exists_eq, exists_eq', exists_eq_left, exists_eq_left', exists_and_left, exists_and_right, List.cons.injEq, V.int.injEq, V.bl.injEq, V.ref.injEq, V.str.injEq, V.ty.injEq, reduceCtorEq, and_true, true_and, and_assoc, false_and, and_false, or_false, false_or, exists_false, decide_eq_true_eq, Bool.not_eq_true', decide_eq_false_iff_not, Bool.not_eq_false', Bool.not_eq_true, Bool.false_eq_true, Bool.true_eq_false, ite_true, ite_false, if_true, if_false, Bool.not_true, Bool.not_false, Bool.true_eq, Bool.or_true, Bool.or_false, Bool.true_or, Bool.false_or, Bool.and_true, Bool.and_false, beq_self_eq_true, decide_true, decide_false, eq_self_iff_true, not_true_eq_false, not_false_eq_true, tKGet, tKIn, tKNot, tCallV, tMeth, tMethX, tMake, tFld, sFld, tDIn, tDNotIn, tDNewK, iZipT, iRngD])
theorem ok_is_written_number (B : Bi mg K w) (d_is_made_of : Def P w K mg base "is_made_of" 1 ["text", "signs"] (sp_is_made_of K)) (F : Fun K "is_written_number" "is_written_number" s_is_written_number f fd) : FnOk P w K mg base CX0 2 f fd ["text"] (sp_is_written_number K) := by
  refine F.ok S_is_written_number (fun vs H Q E h => ?_) (fun cdv A outer s H vs Q E hr h => ?_)
  · obtain ⟨z, rfl, _⟩ := h
    rfl
  obtain ⟨z, rfl, hz, q⟩ := h
  have S := S_is_written_number
  obtain ⟨t1, g_FIGURES⟩ := B.g_FIGURES
  obtain ⟨t2, g_MOST_FIGURES⟩ := B.g_MOST_FIGURES
  refine ⟨_, ((pss_cons (ps_set (i := 1) S.nd rfl (Or.inl rfl) (pe_bm PySem.F.plainAttrs_str PySem.F.slot_str_startswith PySem.F.type_str_startswith mt_starts (pv 0) (pa_cons pe_str pa_nil)))
    (pss_cons (ps_join (ps_set (i := 2) S.nd rfl (Or.inl rfl) (pe_ifExp (pt_val (pv 1)) (pe_slice sl_str (pv 0) (po_some pe_int) po_none) (pv 0))))
    (pss_cons (ps_if (PW.pt (pw_or (pt_cmpR op_lt (pe_callB call_len_str rfl B.b_len PySem.boot_len (pa_cons (pv 2) pa_nil)) pe_int (nomark _)) (pw_or (pt_cmpR op_gt (pe_callB call_len_str rfl B.b_len PySem.boot_len (pa_cons (pv 2) pa_nil)) (pe_glob (v := .int 60) rfl g_MOST_FIGURES ⟨_, rfl⟩) (nomark _)) (pw_or1 (pt_not (pt_val (pe_def d_is_made_of hr rfl (pa_cons (pv 2) (pa_cons (pe_glob (v := .str "0123456789") rfl g_FIGURES ⟨_, rfl⟩) pa_nil))))))))) (pss_one (ps_ret pe_bl)) pss_nil)
    (pss_cons (ps_if (pt_cmpR op_eq (pv 2) pe_str (nomark _)) (pss_one (ps_ret (pe_not (pv 1)))) pss_nil)
    (pss_one (ps_ret (pe_not (pe_bm PySem.F.plainAttrs_str PySem.F.slot_str_startswith PySem.F.type_str_startswith mt_starts (pv 2) (pa_cons pe_str pa_nil)))))))))), ?_⟩
  (try dsimp only); (first | refine hX _ _ ?_ | skip); (try dsimp only); (first | refine seqX (fun X hX => ?_) | skip); try walk_at "dr2"; (try simp only [sp_is_made_of]); try walk_at "dr2"
  refine ⟨rfl, z, _, rfl, rfl, ?_⟩
  rw [Tx.starts_minus]
  have hz' := Tx.len_list z
  obtain ⟨R, hR⟩ : ∃ R : St → Hp → Prop, ∀ σ' H2, R σ' H2 ↔ (∃ y : Str, y.cps.toList = Tx.figs z.cps.toList ∧ H2 = H ∧ σ' = [some (.str z), some (.bl (Tx.neg z.cps.toList)), some (.str y)]) := ⟨_, fun _ _ => Iff.rfl⟩
  dsimp only
  (first | refine hX _ _ ?_ | skip); refine seqI ?_
  (first | refine hX _ _ ?_ | skip); refine joinB R ?_ ?_
  · (first | refine hX _ _ ?_ | skip); (try dsimp only); try walk_at "dr1"; (try simp only [sp_is_made_of]); try walk_at "dr1"
    cases hn : Tx.neg z.cps.toList with
    | true =>
      rw [if_pos rfl]
      have e := Tx.figs_of_neg hn
      have l1 : 1 ≤ z.length := by rw [hz', e]; simp
      refine ⟨z, rfl, Nat.le_trans hz (by decide), (hR _ _).mpr ⟨_, ?_, rfl, by rw [hn]⟩⟩
      rw [Tx.sl_from (by decide) (by omega), e]
      rfl
    | false =>
      rw [if_neg (by decide)]
      exact (hR _ _).mpr ⟨z, (Tx.figs_of_not hn).symm, rfl, by rw [hn]⟩
  intro σ' H2 w0
  obtain ⟨y, hy, rfl, rfl⟩ := (hR _ _).mp w0
  clear hR w0
  have hyl : y.length ≤ 2000 := by
    rw [Tx.len_list, hy]
    rw [hz'] at hz
    cases hn : Tx.neg z.cps.toList with
    | true =>
      rw [Tx.figs_of_neg hn] at hz
      simp only [List.length_cons] at hz
      omega
    | false => rw [Tx.figs_of_not hn]; exact hz
  have hyn := Tx.len_list y
  rw [hy] at hyn
  (try dsimp only); (first | refine hX _ _ ?_ | skip); (try dsimp only); (first | refine seqX (fun X hX => ?_) | skip); try walk_at "dr2"; (try simp only [sp_is_made_of]); try walk_at "dr2"
  refine ⟨Nat.le_trans hyl (by decide), ite2 (fun c1 => q false _ (Same.refl _) ⟨nofun, fun w => absurd w.one (by omega)⟩) (fun c1 => ⟨Nat.le_trans hyl (by decide), ite2 (fun c2 => q false _ (Same.refl _) ⟨nofun, fun w => absurd w.most (by omega)⟩) (fun c2 => ⟨hyl, fun b H' g hb0 => ?_⟩)⟩)⟩
  rw [hy] at hb0
  have hb : b = true ↔ ∀ c, c ∈ Tx.figs z.cps.toList → 48 ≤ c ∧ c ≤ 57 := hb0.trans (forall_congr' fun c => imp_congr_right fun _ => by have := figure_in (c := c); rwa [decide_eq_decide] at this)
  cases b with
  | false => exact q false _ g ⟨nofun, fun w => absurd (hb.mpr w.all) (by decide)⟩
  | true =>
    rw [if_neg (by decide)]
    have hall := hb.mp rfl
    (first | refine hX _ _ ?_ | skip); (try dsimp only); try walk_at "dr1"; (try simp only [sp_is_made_of, rStarts, w_tys]); try walk_at "dr1"
    refine ite2 (fun c3 => q _ _ g ?_) (fun c3 => q _ _ g ?_)
    · have e : Tx.figs z.cps.toList = [48] := by rw [← hy, c3, Tx.nought]
      constructor
      · intro hn
        refine ⟨by omega, by omega, hall, fun r hr => ?_⟩
        rw [e] at hr
        cases hr
        exact ⟨rfl, by simpa using hn⟩
      · intro w
        rw [(w.head [] e).2]
        rfl
    · rw [Tx.nought, Tx.starts_one, hy]
      constructor
      · intro hn
        refine ⟨by omega, by omega, hall, fun r hr => ?_⟩
        rw [hr] at hn
        simp at hn
      · intro w
        have : (Tx.figs z.cps.toList).head? ≠ some 48 := fun hh => by
          cases hf : Tx.figs z.cps.toList with
          | nil => rw [hf] at hh; cases hh
          | cons a r =>
            rw [hf] at hh
            cases hh
            have := (w.head r hf).1
            subst this
            exact c3 (Tx.ext (by rw [hy, hf, Tx.nought]))
        simpa using this
def sp_read_number (_ : PySem.W.Frag) : Sp := fun vs H Q _ => ∃ z : Str, vs = [.str z] ∧ Tx.Wr z.cps.toList ∧ ∀ H', Same H H' → Q (.int (Tx.valOf z.cps.toList)) H'
theorem ok_read_number (B : Bi mg K w) (d_is_written_number : Def P w K mg base "is_written_number" 2 ["text"] (sp_is_written_number K)) (F : Fun K "read_number" "read_number" s_read_number f fd) : FnOk P w K mg base CX0 3 f fd ["text"] (sp_read_number K) := by
  refine F.ok S_read_number (fun vs H Q E h => ?_) (fun cdv A outer s H vs Q E hr h => ?_)
  · obtain ⟨z, rfl, _⟩ := h
    rfl
  obtain ⟨z, rfl, hw, q⟩ := h
  have S := S_read_number
  have wl := hw.len
  refine ⟨_, ((pss_cons (ps_if (PW.pt (pw_or (pt_not (pt_val (pe_callB call_isiS rfl B.b_isinstance L2.bt_isinstance (pa_cons (pv 0) (pa_cons (pe_bltn (v := .ty "str") rfl B.b_str L2.bt_str rfl) pa_nil))))) (pw_or1 (pt_not (pt_val (pe_def d_is_written_number hr rfl (pa_cons (pv 0) pa_nil))))))) (pss_one ps_never) pss_nil)
    (pss_one (ps_ret (pe_callTy call_intS rfl B.b_int L2.bt_int (pa_cons (pv 0) pa_nil)))))), ?_⟩
  (first | refine hX _ _ ?_ | skip); (try dsimp only); try walk_at "dr1"; (try simp only [sp_is_written_number, rIntS]); try walk_at "dr1"
  refine ⟨by omega, fun b H' g hb => ?_⟩
  cases b with
  | false => exact absurd (hb.mpr hw) (by decide)
  | true =>
    rw [if_neg (by decide)]
    exact ⟨_, hw.reads, by omega, q H' g⟩
def sp_read_poly (_ : PySem.W.Frag) : Sp := fun vs H Q _ => ∃ (z : Str) (ms : List Int), vs = [.str z] ∧ z.length ≤ 2000 ∧ Tx.poly z = some ms ∧ ∀ c H', Same H H' → H c = none → H' c = some (.lst (ms.map V.int)) → Q (.ref c) H'
theorem ok_read_poly (B : Bi mg K w) (d_read_number : Def P w K mg base "read_number" 3 ["text"] (sp_read_number K)) (F : Fun K "read_poly" "read_poly" s_read_poly f fd) : FnOk P w K mg base CX0 4 f fd ["text"] (sp_read_poly K) := by
  refine F.ok S_read_poly (fun vs H Q E h => ?_) (fun cdv A outer s H vs Q E hr h => ?_)
  · obtain ⟨z, ms, rfl, _⟩ := h
    rfl
  obtain ⟨z, ms, rfl, hz, hp, q⟩ := h
  have S := S_read_poly
  obtain ⟨t1, g_MOST_NUMBERS⟩ := B.g_MOST_NUMBERS
  obtain ⟨w13, wall, wms⟩ := Tx.poly_some hp
  refine ⟨_, ((pss_cons (ps_if (pt_not (pt_val (pe_callB call_isiS rfl B.b_isinstance L2.bt_isinstance (pa_cons (pv 0) (pa_cons (pe_bltn (v := .ty "str") rfl B.b_str L2.bt_str rfl) pa_nil))))) (pss_one ps_never) pss_nil)
    (pss_cons (ps_set (i := 1) S.nd rfl (Or.inl rfl) (pe_bm PySem.F.plainAttrs_str PySem.F.slot_str_split PySem.F.type_str_split mt_split (pv 0) (pa_cons pe_str pa_nil)))
    (pss_cons (ps_if (pt_cmpR op_gt (pe_callB call_len_seq rfl B.b_len PySem.boot_len (pa_cons (pv 1) pa_nil)) (pe_glob (v := .int 13) rfl g_MOST_NUMBERS ⟨_, rfl⟩) (nomark _)) (pss_one ps_never) pss_nil)
    (pss_one (ps_ret (pe_comp [] [] rfl rfl trivial trivial rfl rfl (by decide) (by decide) rfl rfl (by decide) (pi_list (pv 1)) (fun _ _ _ _ => pts_nil) (fun _ _ _ _ => (pe_def d_read_number hr rfl (pa_cons (pv 0) pa_nil)))))))))), ?_⟩
  (try dsimp only); (first | refine hX _ _ ?_ | skip); (try dsimp only); (first | refine seqX (fun X hX => ?_) | skip); try walk_at "dr2"; (try simp only [sp_read_number]); try walk_at "dr2"
  (try dsimp only); (first | refine hX _ _ ?_ | skip); (try dsimp only); (first | refine seqX (fun X hX => ?_) | skip); try walk_at "dr2"; (try simp only [sp_read_number]); try walk_at "dr2"
  refine ⟨rfl, z, _, rfl, rfl, by decide +kernel, Nat.le_trans (Nat.add_le_add_right hz 2) (by decide), ?_⟩
  intro l1 n_l1; generalize e_l1 : upd _ l1 _ = H1; obtain ⟨g1, k1⟩ := newH e_l1 n_l1; clear e_l1
  have k1 : H1 l1 = some (.lst ((Tx.words z).map V.str)) := k1
  (try dsimp only); (first | refine hX _ _ ?_ | skip); (try dsimp only); (first | refine seqX (fun X hX => ?_) | skip); try walk_at "dr2"; (try simp only [sp_read_number]); try walk_at "dr2"
  refine ⟨_, .inl (SqL.of k1), ite2 (fun c => ?_) (fun c => ?_)⟩
  · rw [List.length_map] at c
    omega
  (first | refine hX _ _ ?_ | skip); (try dsimp only); try walk_at "dr1"; (try simp only [sp_read_number]); try walk_at "dr1"
  obtain ⟨Pv, hPv⟩ : ∃ Pv : Nat → List V → Hp → Prop, ∀ i ys H', Pv i ys H' ↔ (Same H1 H' ∧ ys = ((((Tx.words z).take i).map fun w => Tx.valOf w.cps.toList).map V.int)) := ⟨_, fun _ _ _ => Iff.rfl⟩
  refine ⟨⟨_, SqL.of k1⟩, ?_⟩
  (first | refine hX _ _ ?_ | skip); refine compL ((Tx.words z).map V.str) Pv (by rw [List.length_map]; exact Nat.le_trans w13 (by decide)) ((hPv _ _ _).mpr ⟨Same.refl _, rfl⟩) (fun i ys H2 p => ?_) (fun i x ys H2 hx p => ?_) (fun ys H2 p l n_l => ?_)
  · exact SqL.of (((hPv _ _ _).mp p).1 _ _ k1)
  · obtain ⟨g2, rfl⟩ := (hPv _ _ _).mp p
    obtain ⟨w, hw', rfl⟩ := strs_at hx
    (first | refine hX _ _ ?_ | skip); (try dsimp only); try walk_at "dr1"; (try simp only [sp_read_number]); try walk_at "dr1"
    refine ⟨wall w (List.mem_of_getElem? hw'), fun H3 g3 => (hPv _ _ _).mpr ⟨g2.trans g3, ?_⟩⟩
    rw [take_next hw', List.map_append, List.map_append]
    rfl
  · rw [List.length_map] at p
    obtain ⟨g2, rfl⟩ := (hPv _ _ _).mp p
    rw [List.take_length, ← wms]
    exact q l _ (g1.trans (g2.trans (newS n_l))) (none_of (g1.trans g2) n_l) upd_same
def sp_words_of (K : PySem.W.Frag) : Sp := fun vs H Q _ => ∃ (z w0 : Str) (ws : List Str) (a : Addr) (xs : List V), vs = [.str z] ∧ z.length ≤ 2000 ∧ Txt.split z (Str.ofString " ") = w0 :: ws ∧ atK l_WANTED w0 = some (.ref a) ∧ KTup K a xs ∧ xs.length = ws.length ∧ ∀ l H', Same H H' → H l = none → H' l = some (.lst ((w0 :: ws).map V.str)) → Q (.ref l) H'
theorem ok_words_of (B : Bi mg K w) (F : Fun K "words_of" "words_of" s_words_of f fd) : FnOk P w K mg base CX0 1 f fd ["row"] (sp_words_of K) := by
  refine F.ok S_words_of (fun vs H Q E h => ?_) (fun cdv A outer s H vs Q E hr h => ?_)
  · obtain ⟨z, w0, ws, a, xs, rfl, _⟩ := h
    rfl
  obtain ⟨z, w0, ws, a, xs, rfl, hz, hsp, hat, htu, hlen, q⟩ := h
  have S := S_words_of
  refine ⟨_, ((pss_cons (ps_if (pt_not (pt_val (pe_callB call_isiS rfl B.b_isinstance L2.bt_isinstance (pa_cons (pv 0) (pa_cons (pe_bltn (v := .ty "str") rfl B.b_str L2.bt_str rfl) pa_nil))))) (pss_one ps_never) pss_nil)
    (pss_cons (ps_set (i := 1) S.nd rfl (Or.inl rfl) (pe_bm PySem.F.plainAttrs_str PySem.F.slot_str_split PySem.F.type_str_split mt_split (pv 0) (pa_cons pe_str pa_nil)))
    (pss_cons (ps_if (PW.pt (pw_or (pt_cmp (pc_knot B.kd_WANTED rfl B.gd_WANTED (pe_ix ix_list (pv 1) pe_int (fun _ _ => rfl)))) (pw_or1 (pt_cmpR op_ne (pe_callB call_len_seq rfl B.b_len PySem.boot_len (pa_cons (pv 1) pa_nil)) (pe_op op_add (pe_callB call_len_seq rfl B.b_len PySem.boot_len (pa_cons (pe_kget B.kd_WANTED rfl B.gd_WANTED (pe_ix ix_list (pv 1) pe_int (fun _ _ => rfl)) (fun _ _ => rfl)) pa_nil)) pe_int) (nomark _))))) (pss_one ps_never) pss_nil)
    (pss_one (ps_ret (pv 1))))))), ?_⟩
  (try dsimp only); (first | refine hX _ _ ?_ | skip); (try dsimp only); (first | refine seqX (fun X hX => ?_) | skip); try walk_at "dr2"
  (try dsimp only); (first | refine hX _ _ ?_ | skip); (try dsimp only); (first | refine seqX (fun X hX => ?_) | skip); try walk_at "dr2"
  refine ⟨rfl, z, _, rfl, rfl, by decide +kernel, Nat.le_trans (Nat.add_le_add_right hz 2) (by decide), ?_⟩
  intro l1 n_l1; generalize e_l1 : upd _ l1 _ = H1; obtain ⟨g1, k1⟩ := newH e_l1 n_l1; clear e_l1
  have k1 : H1 l1 = some (.lst ((w0 :: ws).map V.str)) := by rw [k1, hsp]
  (try dsimp only); (first | refine hX _ _ ?_ | skip); (try dsimp only); (first | refine seqX (fun X hX => ?_) | skip); try walk_at "dr2"
  refine ⟨_, SqL.of k1, _, atI_nat (j := 0) rfl, w0, rfl, ?_⟩
  rw [hat, if_neg (by intro z; cases z)]
  refine ⟨_, .inl (SqL.of k1), _, SqL.of k1, _, atI_nat (j := 0) rfl, w0, rfl, a, hat, _, .inr (htu.sq _), ?_⟩
  rw [if_neg (fun n => n (by rw [hlen, List.length_map, List.length_cons]; rfl))]
  (first | refine hX _ _ ?_ | skip); (try dsimp only); try walk_at "dr1"
  exact q l1 H1 g1 n_l1 k1
structure Nm (z : Str) : Prop where
  one : 1 ≤ z.length
  most : z.length ≤ 8
  all : ∀ c, c ∈ z.cps.toList → c ∈ (Str.ofString "abcdefghijklmnopqrstuvwxyz").cps.toList
def sp_read_name (_ : PySem.W.Frag) : Sp := fun vs H Q _ => ∃ z : Str, vs = [.str z] ∧ Nm z ∧ ∀ H', Same H H' → Q (.str z) H'
theorem ok_read_name (B : Bi mg K w) (d_is_made_of : Def P w K mg base "is_made_of" 1 ["text", "signs"] (sp_is_made_of K)) (F : Fun K "read_name" "read_name" s_read_name f fd) : FnOk P w K mg base CX0 2 f fd ["word"] (sp_read_name K) := by
  refine F.ok S_read_name (fun vs H Q E h => ?_) (fun cdv A outer s H vs Q E hr h => ?_)
  · obtain ⟨z, rfl, _⟩ := h
    rfl
  obtain ⟨z, rfl, hn, q⟩ := h
  have S := S_read_name
  obtain ⟨t1, g_LETTERS⟩ := B.g_LETTERS
  obtain ⟨t2, g_MOST_LETTERS⟩ := B.g_MOST_LETTERS
  have h1 := hn.one
  have h2 := hn.most
  refine ⟨_, ((pss_cons (ps_if (PW.pt (pw_or (pt_cmpR op_lt (pe_callB call_len_str rfl B.b_len PySem.boot_len (pa_cons (pv 0) pa_nil)) pe_int (nomark _)) (pw_or (pt_cmpR op_gt (pe_callB call_len_str rfl B.b_len PySem.boot_len (pa_cons (pv 0) pa_nil)) (pe_glob (v := .int 8) rfl g_MOST_LETTERS ⟨_, rfl⟩) (nomark _)) (pw_or1 (pt_not (pt_val (pe_def d_is_made_of hr rfl (pa_cons (pv 0) (pa_cons (pe_glob (v := .str "abcdefghijklmnopqrstuvwxyz") rfl g_LETTERS ⟨_, rfl⟩) pa_nil))))))))) (pss_one ps_never) pss_nil)
    (pss_one (ps_ret (pv 0))))), ?_⟩
  (try dsimp only); (first | refine hX _ _ ?_ | skip); (try dsimp only); (first | refine seqX (fun X hX => ?_) | skip); try walk_at "dr2"; (try simp only [sp_is_made_of]); try walk_at "dr2"
  refine ⟨Nat.le_trans h2 (by decide), ite2 (fun c => by omega) (fun _ => ⟨Nat.le_trans h2 (by decide), ite2 (fun c => by omega) (fun _ => ⟨by omega, fun b H' g hb => ?_⟩)⟩)⟩
  cases b with
  | false => exact absurd (hb.mpr hn.all) (by decide)
  | true =>
    rw [if_neg (by decide)]
    (first | refine hX _ _ ?_ | skip); (try dsimp only); try walk_at "dr1"; (try simp only [sp_is_made_of]); try walk_at "dr1"
    exact q H' g
def sp_read_depth (_ : PySem.W.Frag) : Sp := fun vs H Q _ => ∃ z : Str, vs = [.str z] ∧ Tx.Wr z.cps.toList ∧ (0 ≤ Tx.valOf z.cps.toList ∧ Tx.valOf z.cps.toList ≤ 60) ∧ ∀ H', Same H H' → Q (.int (Tx.valOf z.cps.toList)) H'
theorem ok_read_depth (B : Bi mg K w) (d_read_number : Def P w K mg base "read_number" 3 ["text"] (sp_read_number K)) (F : Fun K "read_depth" "read_depth" s_read_depth f fd) : FnOk P w K mg base CX0 4 f fd ["word"] (sp_read_depth K) := by
  refine F.ok S_read_depth (fun vs H Q E h => ?_) (fun cdv A outer s H vs Q E hr h => ?_)
  · obtain ⟨z, rfl, _⟩ := h
    rfl
  obtain ⟨z, rfl, hw, hd, q⟩ := h
  have S := S_read_depth
  obtain ⟨t1, g_GREATEST_DEPTH⟩ := B.g_GREATEST_DEPTH
  refine ⟨_, ((pss_cons (ps_set (i := 1) S.nd rfl (Or.inl rfl) (pe_def d_read_number hr rfl (pa_cons (pv 0) pa_nil)))
    (pss_cons (ps_if (PW.pt (pw_or (pt_cmpR op_lt (pv 1) pe_int (nomark _)) (pw_or1 (pt_cmpR op_gt (pv 1) (pe_glob (v := .int 60) rfl g_GREATEST_DEPTH ⟨_, rfl⟩) (nomark _))))) (pss_one ps_never) pss_nil)
    (pss_one (ps_ret (pv 1)))))), ?_⟩
  (try dsimp only); (first | refine hX _ _ ?_ | skip); (try dsimp only); (first | refine seqX (fun X hX => ?_) | skip); try walk_at "dr2"; (try simp only [sp_read_number]); try walk_at "dr2"
  refine ⟨hw, fun H' g => ?_⟩
  (try dsimp only); (first | refine hX _ _ ?_ | skip); (try dsimp only); (first | refine seqX (fun X hX => ?_) | skip); try walk_at "dr2"; (try simp only [sp_read_number]); try walk_at "dr2"
  refine ite2 (fun c => by omega) (fun _ => ite2 (fun c => by omega) (fun _ => ?_))
  (first | refine hX _ _ ?_ | skip); (try dsimp only); try walk_at "dr1"; (try simp only [sp_read_number]); try walk_at "dr1"
  exact q H' g
def sp_power_of (_ : PySem.W.Frag) : Sp := fun vs H Q _ => ∃ (p e : Int), vs = [.int p, .int e] ∧ (2 ≤ p ∧ p < 1000) ∧ (0 ≤ e ∧ e < 100000) ∧ Q (.int (p ^ e.toNat)) H
theorem ok_power_of (B : Bi mg K w) (F : Fun K "power_of" "power_of" s_power_of f fd) : FnOk P w K mg base CX0 1 f fd ["p", "e"] (sp_power_of K) := by
  refine F.ok S_power_of (fun vs H Q E h => ?_) (fun cdv A outer s H vs Q E hr h => ?_)
  · obtain ⟨p, e, rfl, _⟩ := h
    rfl
  obtain ⟨p, e, rfl, hp, he, q⟩ := h
  have S := S_power_of
  refine ⟨_, ((pss_cons (ps_set (i := 2) S.nd rfl (Or.inl rfl) pe_int)
    (pss_cons (ps_for PassesOwn.never rfl (pi_range1 rfl B.b_range (pa_cons (pv 1) pa_nil)) (pg_name (i := 3) S.nd rfl (Or.inl rfl)) (pss_one (ps_set (i := 2) S.nd rfl (Or.inl rfl) (pe_op op_mulW (pv 2) (pv 0)))))
    (pss_one (ps_ret (pv 2)))))), ?_⟩
  refine ⟨_, rfl, e, rfl, by omega, by omega, ?_⟩
  refine for_range (n := e.toNat) (fun i σ H' => H' = H ∧ ∃ t, σ = [some (.int p), some (.int e), some (.int (p ^ i)), t]) ⟨rfl, none, by rw [Int.pow_zero]; rfl⟩ ?_ ?_
  · rintro i σ H' hi ⟨rfl, t, rfl⟩
    refine ⟨_, rfl, _, rfl, _, _, rfl, rfl, IntMulOk.of_right (intBits_le_64 (by omega) (by omega)), rfl, some (.int (0 + (i : Int))), ?_⟩
    rw [Int.pow_succ]
    rfl
  · rintro σ H' ⟨rfl, t, rfl⟩
    exact ⟨_, rfl, q⟩
def sp_can_be_written (_ : PySem.W.Frag) : Sp := fun vs H Q _ => ∃ n : Int, vs = [.int n] ∧ n.natAbs < 10 ^ 60 ∧ Q (.bl true) H
theorem ok_can_be_written (B : Bi mg K w) (d_power_of : Def P w K mg base "power_of" 1 ["p", "e"] (sp_power_of K)) (F : Fun K "can_be_written" "can_be_written" s_can_be_written f fd) : FnOk P w K mg base CX0 2 f fd ["number"] (sp_can_be_written K) := by
  refine F.ok S_can_be_written (fun vs H Q E h => ?_) (fun cdv A outer s H vs Q E hr h => ?_)
  · obtain ⟨n, rfl, _⟩ := h
    rfl
  obtain ⟨n, rfl, hn, q⟩ := h
  have S := S_can_be_written
  obtain ⟨t1, g_MOST_FIGURES⟩ := B.g_MOST_FIGURES
  refine ⟨_, ((pss_one (ps_ret (pe_cmpR op_lt (pe_callB call_abs rfl B.b_abs bt_abs (pa_cons (pv 0) pa_nil)) (pe_def d_power_of hr rfl (pa_cons pe_int (pa_cons (pe_glob (v := .int 60) rfl g_MOST_FIGURES ⟨_, rfl⟩) pa_nil))) (nomark _))))), ?_⟩
  (first | refine hX _ _ ?_ | skip); (try dsimp only); try walk_at "dr1"; (try simp only [sp_power_of]); try walk_at "dr1"
  have hM : (10 : Int) ^ Int.toNat 60 = ((10 ^ 60 : Nat) : Int) := by decide +kernel
  rw [hM]
  generalize (10 ^ 60 : Nat) = M at hn ⊢
  rw [decide_eq_true (by split <;> omega)]
  exact q
def sp_made_poly (K : PySem.W.Frag) : Sp := fun vs H Q _ => ∃ (p : Int) (a : Addr) (x y : V) (xs : List V), vs = [.int p, .ref a] ∧ SqL K H a (x :: y :: xs) ∧ Q y H
theorem ok_made_poly (B : Bi mg K w) (F : Fun K "made_poly" "made_poly" s_made_poly f fd) : FnOk P w K mg base CX0 1 f fd ["p", "things"] (sp_made_poly K) := by
  refine F.ok S_made_poly (fun vs H Q E h => ?_) (fun cdv A outer s H vs Q E hr h => ?_)
  · obtain ⟨p, a, x, y, xs, rfl, _⟩ := h
    rfl
  obtain ⟨p, a, x, y, xs, rfl, hS, q⟩ := h
  have S := S_made_poly
  refine ⟨_, ((pss_one (ps_ret (pe_ix ix_list (pv 1) pe_int (fun _ _ => rfl))))), ?_⟩
  (first | refine hX _ _ ?_ | skip); (try dsimp only); try walk_at "dr1"
  exact ⟨_, hS, _, atI_nat (j := 1) rfl, q⟩
def sp_is_prime (_ : PySem.W.Frag) : Sp := fun vs H Q _ => ∃ (n : Int), vs = [.int n] ∧ n < 2 ^ 60 ∧ ∀ b : Bool, (b = true ↔ Dr.IsP n) → Q (.bl b) H
theorem isP_end {n d : Int} (hd : 2 ≤ d) (h : ∀ e : Int, 2 ≤ e → e < d → n % e ≠ 0) (hn : 2 ≤ n) (c : ¬ d * d ≤ n) : Dr.IsP n := by
  refine ⟨hn, fun e he hee => h e he ?_⟩
  refine Int.lt_of_not_ge fun z => c ?_
  exact Int.le_trans (Int.mul_le_mul z z (by omega) (by omega)) hee
theorem ok_is_prime (B : Bi mg K w) (F : Fun K "is_prime" "is_prime" s_is_prime f fd) : FnOk P w K mg base CX0 1 f fd ["thing"] (sp_is_prime K) := by
  refine F.ok S_is_prime (fun vs H Q E h => ?_) (fun cdv A outer s H vs Q E hr h => ?_)
  · obtain ⟨n, rfl, _⟩ := h
    rfl
  obtain ⟨n, rfl, hn, q⟩ := h
  have S := S_is_prime
  refine ⟨_, ((pss_cons (ps_if (PW.pt (pw_or (pt_not (pt_val (pe_callB call_isiS rfl B.b_isinstance L2.bt_isinstance (pa_cons (pv 0) (pa_cons (pe_bltn (v := .ty "int") rfl B.b_int L2.bt_int rfl) pa_nil))))) (pw_or1 (pt_cmpR op_lt (pv 0) pe_int (nomark _))))) (pss_one (ps_ret pe_bl)) pss_nil)
    (pss_cons (ps_set (i := 1) S.nd rfl (Or.inl rfl) pe_int)
    (pss_cons (ps_while PassesOwn.never (pt_cmpR op_le (pe_op op_mulW (pv 1) (pv 1)) (pv 0) (nomark _)) (pss_cons (ps_if (pt_cmpR op_eq (pe_op op_mod (pv 0) (pv 1)) pe_int (nomark _)) (pss_one (ps_ret pe_bl)) pss_nil)
    (pss_one (ps_aug (i := 1) S.nd rfl (Or.inl rfl) pe_int ip_add))))
    (pss_one (ps_ret pe_bl)))))), ?_⟩
  (first | refine hX _ _ ?_ | skip); (try dsimp only); try walk_at "dr1"
  refine ite2 (fun c => q false ⟨fun z => (by cases z), fun z => absurd z.1 (by omega)⟩) (fun c => ?_)
  obtain ⟨W, hW⟩ : ∃ W : Nat → St → Hp → Prop, ∀ m σ H', W m σ H' ↔ (H' = H ∧ ∃ d : Int, σ = [some (.int n), some (.int d)] ∧ 2 ≤ d ∧ (∀ e : Int, 2 ≤ e → e < d → n % e ≠ 0) ∧ d ≤ n ∧ m = (n + 1 - d).toNat) := ⟨_, fun _ _ _ => Iff.rfl⟩
  (first | refine hX _ _ ?_ | skip); refine whB W (n + 1 - 2).toNat ((hW _ _ _).mpr ⟨rfl, 2, rfl, by omega, fun e h1 h2 => by omega, by omega, rfl⟩) ?_
  intro m σ H' z
  obtain ⟨rfl, d, rfl, hd, h1, h2, rfl⟩ := (hW _ _ _).mp z
  (first | refine hX _ _ ?_ | skip); (try dsimp only); try walk_at "dr1"
  refine ⟨IntMulOk.of_left (intBits_le_64 (by omega) (by omega)), ite2 (fun c1 => ?_) (fun c1 => ?_)⟩
  · refine ⟨_, fun _ _ h => h, ?_⟩
    refine ⟨by omega, ite2 (fun c2 => ?_) (fun c2 => ?_)⟩
    · exact q false ⟨fun z => (by cases z), fun z => absurd c2 (z.2 d hd c1)⟩
    · have hlt : d < n := by
        have : d * 2 ≤ d * d := Int.mul_le_mul_of_nonneg_left hd (by omega)
        omega
      refine ⟨(n + 1 - (d + 1)).toNat, by omega, (hW _ _ _).mpr ⟨rfl, d + 1, rfl, by omega, fun e e1 e2 => ?_, by omega, rfl⟩⟩
      by_cases w : e = d
      · rw [w]; exact c2
      · exact h1 e e1 (by omega)
  · exact q true ⟨fun _ => isP_end hd h1 (by omega) c1, fun _ => rfl⟩
theorem isP_of {p : Int} (hp : p ∈ Dr.primes) : Dr.IsP p := by
  refine ⟨(Dr.primes_ge hp).1, fun e he hee => ?_⟩
  have h97 := (Dr.primes_ge hp).2
  have h9 : e < 10 := by
    refine Int.lt_of_not_ge fun z => ?_
    have := Int.mul_le_mul z z (by decide) (by omega)
    omega
  rcases (show e = 2 ∨ e = 3 ∨ e = 4 ∨ e = 5 ∨ e = 6 ∨ e = 7 ∨ e = 8 ∨ e = 9 by omega) with h | h | h | h | h | h | h | h <;> subst h <;> revert hee <;> clear h97 he h9 <;> revert p <;> decide
def sp___init__ (K : PySem.W.Frag) : Sp := fun vs H Q _ => ∃ (d dx : Addr) (p : Int), vs = [.ref d, .int p] ∧ H d = some (.ins (clK K "Desk") dx []) ∧ p ∈ Dr.primes ∧
  ∀ kd H', kd ≠ d → H kd = none → H' d = some (.ins (clK K "Desk") dx [("prime", .int p), ("kept", .ref kd)]) → H' kd = some (.dK []) → (∀ b, b ≠ d → b ≠ kd → H' b = H b) → Q .non H'
theorem ok___init__ (B : Bi mg K w) (d_is_prime : Def P w K mg base "is_prime" 1 ["thing"] (sp_is_prime K)) (F : Fun K "__init__" "Desk.__init__" s___init__ f fd) : FnOk P w K mg base CX0 2 f fd ["self", "p"] (sp___init__ K) := by
  refine F.ok S___init__ (fun vs H Q E h => ?_) (fun cdv A outer s H vs Q E hr h => ?_)
  · obtain ⟨d, dx, p, rfl, _⟩ := h
    rfl
  obtain ⟨d, dx, p, rfl, hd, hp, q⟩ := h
  have S := S___init__
  obtain ⟨t1, g_GREATEST_PRIME⟩ := B.g_GREATEST_PRIME
  have p97 := Dr.primes_ge hp
  refine ⟨_, ((pss_cons (ps_if (PW.pt (pw_or (pt_not (pt_val (pe_callB call_isiS rfl B.b_isinstance L2.bt_isinstance (pa_cons (pv 1) (pa_cons (pe_bltn (v := .ty "int") rfl B.b_int L2.bt_int rfl) pa_nil))))) (pw_or (pt_cmpR op_gt (pv 1) (pe_glob (v := .int 97) rfl g_GREATEST_PRIME ⟨_, rfl⟩) (nomark _)) (pw_or1 (pt_not (pt_val (pe_def d_is_prime hr rfl (pa_cons (pv 1) pa_nil)))))))) (pss_one ps_never) pss_nil)
    (pss_cons (ps_fld (pv 0) (pv 1) rfl)
    (pss_one (ps_fld (pv 0) pe_dnewK rfl))))), ?_⟩
  (try dsimp only); (first | refine hX _ _ ?_ | skip); (try dsimp only); (first | refine seqX (fun X hX => ?_) | skip); try walk_at "dr2"; (try simp only [sp_is_prime]); try walk_at "dr2"
  rw [if_neg (by omega)]
  refine ⟨by omega, fun b hb => ?_⟩
  have hb : b = true := hb.mpr (isP_of hp)
  subst hb
  rw [if_neg (by decide)]
  (try dsimp only); (first | refine hX _ _ ?_ | skip); (try dsimp only); (first | refine seqX (fun X hX => ?_) | skip); try walk_at "dr2"; (try simp only [sp_is_prime]); try walk_at "dr2"
  refine ⟨_, _, _, hd, B.cl_Desk, B.na_prime, by decide, ?_⟩
  (first | refine hX _ _ ?_ | skip); (try dsimp only); try walk_at "dr1"; (try simp only [sp_is_prime]); try walk_at "dr1"
  intro kd nk
  have ne : kd ≠ d := fun z => by rw [z, upd_same] at nk; cases nk
  rw [upd_ne ne] at nk
  refine ⟨_, _, _, by rw [upd_ne (Ne.symm ne)]; exact upd_same, B.cl_Desk, B.na_kept, by show 1 < 1000; decide, ?_⟩
  refine q kd _ ne nk ?_ ?_ ?_
  · rw [upd_same]
    exact congrArg some (congrArg (HO.ins _ _) (by rfl))
  · rw [upd_ne ne, upd_same]
  · intro b h1 h2
    rw [upd_ne h1, upd_ne h2, upd_ne h1]
def sp_standing (K : PySem.W.Frag) : Sp := fun vs H Q _ => ∃ (d dx kd : Addr) (fs : List (Str × V)) (kvs : List (Key × V)) (z : Str) (v : V), vs = [.ref d, .str z] ∧ H d = some (.ins (clK K "Desk") dx fs) ∧ fs.lookup ("kept" : Str) = some (V.ref kd) ∧ H kd = some (.dK kvs) ∧ valV kvs (Sum.inr z) = some v ∧ Q v H
theorem ok_standing (B : Bi mg K w) (F : Fun K "standing" "Desk.standing" s_standing f fd) : FnOk P w K mg base CX0 1 f fd ["self", "name"] (sp_standing K) := by
  refine F.ok S_standing (fun vs H Q E h => ?_) (fun cdv A outer s H vs Q E hr h => ?_)
  · obtain ⟨d, dx, kd, fs, kvs, z, v, rfl, _⟩ := h
    rfl
  obtain ⟨d, dx, kd, fs, kvs, z, v, rfl, hd, hf, hk, hv, q⟩ := h
  have S := S_standing
  refine ⟨_, ((pss_cons (ps_if (pt_cmp (pc_dnotin (hu1 hr.units) (pv 1) (pe_fld (pv 0) rfl))) (pss_one ps_never) pss_nil)
    (pss_one (ps_ret (pe_dget (hu1 hr.units) (pe_fld (pv 0) rfl) (pv 1) (fun _ _ => rfl)))))), ?_⟩
  (try dsimp only); (first | refine hX _ _ ?_ | skip); (try dsimp only); (first | refine seqX (fun X hX => ?_) | skip); try walk_at "dr2"
  refine ⟨_, _, _, hd, B.cl_Desk, B.na_kept, _, hf, kd, rfl, _, DGet.k (k := Sum.inr z) hk, ?_⟩
  rw [hv, if_neg (by intro z; cases z)]
  (first | refine hX _ _ ?_ | skip); (try dsimp only); try walk_at "dr1"
  exact ⟨_, _, _, hd, B.cl_Desk, B.na_kept, _, hf, kd, rfl, v, by rw [← hv]; exact DGet.k (k := Sum.inr z) hk, q⟩
def sp_keep (K : PySem.W.Frag) : Sp := fun vs H Q _ => ∃ (d dx kd l : Addr) (fs : List (Str × V)) (kvs : List (Key × V)) (z : Str) (ms : List Int), vs = [.ref d, .str z, .ref l] ∧ H d = some (.ins (clK K "Desk") dx fs) ∧ fs.lookup ("kept" : Str) = some (V.ref kd) ∧ H kd = some (.dK kvs) ∧ kvs.length < 1000 ∧
  SqL K H l (ms.map V.int) ∧ ms.length ≤ 60 ∧ (∀ x, x ∈ ms → x.natAbs < 10 ^ 60) ∧ ∀ H1, Same H H1 → Q (.str "ok") (upd H1 kd (.dK (putK kvs (Sum.inr z) (.ref l))))
theorem ok_keep (B : Bi mg K w) (d_can_be_written : Def P w K mg base "can_be_written" 2 ["number"] (sp_can_be_written K)) (F : Fun K "keep" "Desk.keep" s_keep f fd) : FnOk P w K mg base CX0 3 f fd ["self", "name", "polynomial"] (sp_keep K) := by
  refine F.ok S_keep (fun vs H Q E h => ?_) (fun cdv A outer s H vs Q E hr h => ?_)
  · obtain ⟨d, dx, kd, l, fs, kvs, z, ms, rfl, _⟩ := h
    rfl
  obtain ⟨d, dx, kd, l, fs, kvs, z, ms, rfl, hd, hf, hk, hkl, hS, hl, hb, q⟩ := h
  have S := S_keep
  refine ⟨_, ((pss_cons (ps_if (pt_not (pt_val (pe_callB (call_allB rfl) rfl B.b_all bt_all (pa_cons (pe_comp [] [] rfl rfl trivial trivial rfl rfl (by decide) (by decide) rfl rfl (by decide) (pi_list (pv 2)) (fun _ _ _ _ => pts_nil) (fun _ _ _ _ => (pe_def d_can_be_written hr rfl (pa_cons (pv 0) pa_nil)))) pa_nil)))) (pss_one ps_never) pss_nil)
    (pss_cons (ps_dput (hu1 hr.units) (pe_fld (pv 0) rfl) (pv 1) (pv 2) rfl)
    (pss_one (ps_ret pe_str))))), ?_⟩
  (try dsimp only); (first | refine hX _ _ ?_ | skip); (try dsimp only); (first | refine seqX (fun X hX => ?_) | skip); try walk_at "dr2"; (try simp only [sp_can_be_written]); try walk_at "dr2"
  refine ⟨⟨_, hS⟩, ?_⟩
  obtain ⟨Pv, hPv⟩ : ∃ Pv : Nat → List V → Hp → Prop, ∀ i ys H', Pv i ys H' ↔ (H' = H ∧ ys = (List.replicate i true).map V.bl) := ⟨_, fun _ _ _ => Iff.rfl⟩
  (first | refine hX _ _ ?_ | skip); refine compI ms Pv (Nat.le_trans hl (by decide)) ((hPv _ _ _).mpr ⟨rfl, rfl⟩) (fun i ys H2 p => ?_) (fun i x ys H2 hx p => ?_) (fun ys H2 p r n_r => ?_)
  · obtain ⟨rfl, _⟩ := (hPv _ _ _).mp p
    exact hS
  · obtain ⟨rfl, rfl⟩ := (hPv _ _ _).mp p
    (first | refine hX _ _ ?_ | skip); (try dsimp only); try walk_at "dr1"; (try simp only [sp_can_be_written]); try walk_at "dr1"
    refine ⟨hb x (List.mem_of_getElem? hx), (hPv _ _ _).mpr ⟨rfl, ?_⟩⟩
    rw [List.replicate_succ', List.map_append]
    rfl
  obtain ⟨rfl, rfl⟩ := (hPv _ _ _).mp p
  refine ⟨r, rfl, _, SqL.of upd_same, ?_⟩
  rw [if_neg (by simp)]
  have g := newS n_r (o := HO.lst (List.map V.bl (List.replicate ms.length true)))
  generalize upd H2 r (HO.lst (List.map V.bl (List.replicate ms.length true))) = H3 at g ⊢
  (try dsimp only); (first | refine hX _ _ ?_ | skip); (try dsimp only); (first | refine seqX (fun X hX => ?_) | skip); try walk_at "dr2"; (try simp only [sp_can_be_written]); try walk_at "dr2"
  refine ⟨_, _, _, g _ _ hd, B.cl_Desk, B.na_kept, _, hf, kd, rfl, _, DPut.k (k := Sum.inr z) (g _ _ hk) (Nat.lt_trans hkl (by decide)), ?_⟩
  (first | refine hX _ _ ?_ | skip); (try dsimp only); try walk_at "dr1"; (try simp only [sp_can_be_written]); try walk_at "dr1"
  exact q _ g
structure DeskAt (K : PySem.W.Frag) (H : Hp) (d dx kd : Addr) (p : Int) (kvs : List (Key × V)) : Prop where
  ins : H d = some (.ins (clK K "Desk") dx [("prime", .int p), ("kept", .ref kd)])
  kept : H kd = some (.dK kvs)
theorem DeskAt.same {K : PySem.W.Frag} {H H' : Hp} {d dx kd : Addr} {p : Int} {kvs : List (Key × V)} (h : DeskAt K H d dx kd p kvs) (g : Same H H') : DeskAt K H' d dx kd p kvs := ⟨g _ _ h.ins, g _ _ h.kept⟩
theorem nm_free {z : Str} (h : Nm z) : 32 ∉ z.cps.toList := fun q => by
  have := h.all 32 q
  revert this
  decide +kernel
theorem look_no {x : Str} {a b : V} (h1 : (x == ("prime" : Str)) = false) (h2 : (x == ("kept" : Str)) = false) : List.lookup x [(("prime" : Str), a), (("kept" : Str), b)] = none := by
  simp only [List.lookup, h1, h2]
theorem look_kept {a b : V} : List.lookup ("kept" : Str) [(("prime" : Str), a), (("kept" : Str), b)] = some b := by
  have h1 : (("kept" : Str) == ("prime" : Str)) = false := by decide +kernel
  simp only [List.lookup, h1, BEq.rfl]
theorem look_prime {a b : V} : List.lookup ("prime" : Str) [(("prime" : Str), a), (("kept" : Str), b)] = some a := by
  simp only [List.lookup, BEq.rfl]
inductive Kd | new | name | poly | depth | number
def Kd.txt : Kd → Str
  | .new => "new"
  | .name => "name"
  | .poly => "poly"
  | .depth => "depth"
  | .number => "number"
inductive Wd (kvs : List (Key × V)) : Kd → Str → Prop
  | new {z : Str} : Nm z → Wd kvs .new z
  | name {z : Str} {v : V} : Nm z → valV kvs (Sum.inr z) = some v → Wd kvs .name z
  | poly {z : Str} {ms : List Int} : z.length ≤ 2000 → Tx.poly z = some ms → Wd kvs .poly z
  | depth {z : Str} : Tx.Wr z.cps.toList → (0 ≤ Tx.valOf z.cps.toList ∧ Tx.valOf z.cps.toList ≤ 60) → Wd kvs .depth z
  | number {z : Str} : Tx.Wr z.cps.toList → Wd kvs .number z
inductive Rs (kvs : List (Key × V)) (H H' : Hp) : Kd → Str → V → Prop
  | new {z : Str} : Rs kvs H H' .new z (.str z)
  | name {z : Str} {v : V} : valV kvs (Sum.inr z) = some v → Rs kvs H H' .name z v
  | poly {z : Str} {ms : List Int} {c : Addr} : Tx.poly z = some ms → H c = none → H' c = some (.lst (ms.map V.int)) → Rs kvs H H' .poly z (.ref c)
  | depth {z : Str} : Rs kvs H H' .depth z (.int (Tx.valOf z.cps.toList))
  | number {z : Str} : Rs kvs H H' .number z (.int (Tx.valOf z.cps.toList))
theorem Rs.same {kvs : List (Key × V)} {H0 H H' H2 : Hp} {k : Kd} {z : Str} {v : V} (h : Rs kvs H H' k z v) (g0 : Same H0 H) (g : Same H' H2) : Rs kvs H0 H2 k z v := by
  cases h with
  | new => exact .new
  | name e => exact .name e
  | poly e n k => exact .poly e (none_of g0 n) (g _ _ k)
  | depth => exact .depth
  | number => exact .number
def sp_thing_of (K : PySem.W.Frag) : Sp := fun vs H Q _ => ∃ (d dx kd : Addr) (p : Int) (kvs : List (Key × V)) (k : Kd) (z : Str), vs = [.ref d, .str k.txt, .str z] ∧ DeskAt K H d dx kd p kvs ∧ Wd kvs k z ∧ ∀ v H', Same H H' → Rs kvs H H' k z v → Q v H'
theorem ok_thing_of (B : Bi mg K w) (d_read_number : Def P w K mg base "read_number" 3 ["text"] (sp_read_number K)) (d_read_poly : Def P w K mg base "read_poly" 4 ["text"] (sp_read_poly K)) (d_read_name : Def P w K mg base "read_name" 2 ["word"] (sp_read_name K)) (d_read_depth : Def P w K mg base "read_depth" 4 ["word"] (sp_read_depth K)) (d_standing : Met P w K mg base CX0 (clK K "Desk") "standing" 1 ["self", "name"] (sp_standing K)) (F : Fun K "thing_of" "Desk.thing_of" s_thing_of f fd) : FnOk P w K mg base CX0 5 f fd ["self", "wanted", "word"] (sp_thing_of K) := by
  refine F.ok S_thing_of (fun vs H Q E h => ?_) (fun cdv A outer s H vs Q E hr h => ?_)
  · obtain ⟨d, dx, kd, p, kvs, k, z, rfl, _⟩ := h
    rfl
  obtain ⟨d, dx, kd, p, kvs, k, z, rfl, hd, t, q⟩ := h
  have S := S_thing_of
  refine ⟨_, ((pss_cons (ps_if (pt_cmpR op_eq (pv 1) pe_str (nomark _)) (pss_one (ps_ret (pe_def d_read_name hr rfl (pa_cons (pv 2) pa_nil)))) pss_nil)
    (pss_cons (ps_if (pt_cmpR op_eq (pv 1) pe_str (nomark _)) (pss_one (ps_ret (pe_met pass0 B.cl_Desk d_standing hr (pv 0) (pa_cons (pe_def d_read_name hr rfl (pa_cons (pv 2) pa_nil)) pa_nil)))) pss_nil)
    (pss_cons (ps_if (pt_cmpR op_eq (pv 1) pe_str (nomark _)) (pss_one (ps_ret (pe_def d_read_poly hr rfl (pa_cons (pv 2) pa_nil)))) pss_nil)
    (pss_cons (ps_if (pt_cmpR op_eq (pv 1) pe_str (nomark _)) (pss_one (ps_ret (pe_def d_read_depth hr rfl (pa_cons (pv 2) pa_nil)))) pss_nil)
    (pss_one (ps_ret (pe_def d_read_number hr rfl (pa_cons (pv 2) pa_nil))))))))), ?_⟩
  cases t with
  | new hn =>
    dsimp only [Kd.txt]
    (first | refine hX _ _ ?_ | skip); (try dsimp only); try walk_at "dr1"; (try simp only [sp_read_number, sp_read_poly, sp_read_name, sp_read_depth, sp_standing]); try walk_at "dr1"
    exact ⟨hn, fun H' g => q _ H' g .new⟩
  | name hn hv =>
    dsimp only [Kd.txt]
    (first | refine hX _ _ ?_ | skip); (try dsimp only); try walk_at "dr1"; (try simp only [sp_read_number, sp_read_poly, sp_read_name, sp_read_depth, sp_standing]); try walk_at "dr1"
    rw [if_neg (by decide +kernel)]
    exact ⟨_, _, hd.ins, look_no (by decide +kernel) (by decide +kernel), hn, fun H' g => ⟨_, _, _, g _ _ hd.ins, look_kept, _, g _ _ hd.kept, _, hv, q _ H' g (.name hv)⟩⟩
  | poly hz hp =>
    dsimp only [Kd.txt]
    (first | refine hX _ _ ?_ | skip); (try dsimp only); try walk_at "dr1"; (try simp only [sp_read_number, sp_read_poly, sp_read_name, sp_read_depth, sp_standing]); try walk_at "dr1"
    rw [if_neg (by decide +kernel), if_neg (by decide +kernel)]
    exact ⟨hz, _, hp, fun c H' g nc kc => q _ H' g (.poly hp nc kc)⟩
  | depth hw hb =>
    dsimp only [Kd.txt]
    (first | refine hX _ _ ?_ | skip); (try dsimp only); try walk_at "dr1"; (try simp only [sp_read_number, sp_read_poly, sp_read_name, sp_read_depth, sp_standing]); try walk_at "dr1"
    rw [if_neg (by decide +kernel), if_neg (by decide +kernel), if_neg (by decide +kernel)]
    exact ⟨hw, hb.1, hb.2, fun H' g => q _ H' g .depth⟩
  | number hw =>
    dsimp only [Kd.txt]
    (first | refine hX _ _ ?_ | skip); (try dsimp only); try walk_at "dr1"; (try simp only [sp_read_number, sp_read_poly, sp_read_name, sp_read_depth, sp_standing]); try walk_at "dr1"
    rw [if_neg (by decide +kernel), if_neg (by decide +kernel), if_neg (by decide +kernel), if_neg (by decide +kernel)]
    exact ⟨hw, fun H' g => q _ H' g .number⟩
theorem mulSm {a b : Int} {m n : Nat} (ha : Dr.Sm a m) (hb : Dr.Sm b n) (h : m + n ≤ 134217728) : IntMulOk a b := PyProof.Rows.mulOk_of_bits (PyProof.Rows.intBits_le ha) (PyProof.Rows.intBits_le hb) h
theorem sm_of {a : Int} {k : Nat} (B : Int) (h : -B ≤ a ∧ a ≤ B) (hB : B.natAbs < 2 ^ k) : Dr.Sm a k := by
  unfold Dr.Sm
  omega
theorem rep_zero (n : Nat) : (List.replicate n [V.int 0]).flatten = (List.replicate n (0 : Int)).map V.int := by
  induction n with
  | zero => rfl
  | succ n ih => simp [List.replicate_succ, ih]
theorem ixN_nn {n : Nat} {k : Int} (h0 : 0 ≤ k) (h1 : k < (n : Int)) : ixN n k = some k.toNat := by
  unfold ixN
  simp only [h0, if_true, if_pos]
  rw [if_pos (by omega)]
theorem get_int {fs : List Int} {k : Int} (h0 : 0 ≤ k) (h1 : k < (fs.length : Int)) : ∃ v, fs[k.toNat]? = some v ∧ atI (fs.map V.int) k = some (.int v) ∧ ixN (fs.map V.int).length k = some k.toNat ∧ (fs.map V.int)[k.toNat]? = some (.int v) := by
  have hk : k.toNat < fs.length := by omega
  have e : fs[k.toNat]? = some fs[k.toNat] := List.getElem?_eq_getElem hk
  refine ⟨fs[k.toNat], e, ?_, ixN_nn h0 (by rw [List.length_map]; exact h1), by rw [List.getElem?_map, e]; rfl⟩
  rw [atI_ints h0 h1, List.getD_eq_getElem?_getD, e]
  rfl
theorem set_int (fs : List Int) (k : Nat) (v : Int) : (fs.map V.int).set k (.int v) = (fs.set k v).map V.int := by rw [List.map_set]
theorem mem_set {fs : List Int} {k : Nat} {v c : Int} (h : c ∈ fs.set k v) : c ∈ fs ∨ c = v := List.mem_or_eq_of_mem_set h
theorem steps {i T : Nat} {v n : Int} (h : v.natAbs ≤ i * T) (h' : n.natAbs ≤ T) : (v + n).natAbs ≤ (i + 1) * T := by
  rw [Nat.succ_mul]
  omega
theorem atI_back {xs : List Int} {d : Int} (h : xs.getLast? = some d) : atI (xs.map V.int) (-1) = some (.int d) := by
  cases xs with
  | nil => simp at h
  | cons x ms =>
    have hh : ms.length < (x :: ms).length := by simp
    have e : (x :: ms)[ms.length]? = some d := by
      rw [List.getLast?_eq_getElem?] at h
      simpa using h
    unfold atI ixN
    have e1 : ¬ (0 : Int) ≤ -1 := by decide
    have e2 : -(((x :: ms).map V.int).length : Int) ≤ -1 := by
      simp only [List.length_map, List.length_cons]
      omega
    have e3 : (-1 + (((x :: ms).map V.int).length : Int)).toNat = ms.length := by
      simp only [List.length_map, List.length_cons]
      omega
    rw [if_neg e1, if_pos e2, e3]
    show ((x :: ms).map V.int)[ms.length]? = _
    rw [List.getElem?_map, e]
    rfl
def sp_worth_at (K : PySem.W.Frag) : Sp := fun vs H Q _ => ∃ (a : Addr) (f : List Int) (x : Int) (m n : Nat), vs = [.ref a, .int x] ∧ SqL K H a (f.map V.int) ∧ f.length ≤ 100 ∧ Dr.PolyB f m ∧ Dr.Sm x n ∧ (m ≤ 1000000 ∧ n ≤ 100000) ∧ Q (.int (Dr.pev f x)) H
theorem ok_worth_at (B : Bi mg K w) (F : Fun K "worth_at" "worth_at" s_worth_at f fd) : FnOk P w K mg base CX0 1 f fd ["f", "x"] (sp_worth_at K) := by
  refine F.ok S_worth_at (fun vs H Q E h => ?_) (fun cdv A outer s H vs Q E hr h => ?_)
  · obtain ⟨a, f, x, m, n, rfl, _⟩ := h
    rfl
  obtain ⟨a, f, x, m, n, rfl, hS, hl, hf, hx, hmn, q⟩ := h
  have S := S_worth_at
  refine ⟨_, ((pss_cons (ps_set (i := 2) S.nd rfl (Or.inl rfl) pe_int)
    (pss_cons (ps_for PassesOwn.never rfl (pi_rev rfl B.b_reversed (pv 0)) (pg_name (i := 3) S.nd rfl (Or.inl rfl)) (pss_one (ps_set (i := 2) S.nd rfl (Or.inl rfl) (pe_op op_add (pe_op op_mulW (pv 2) (pv 1)) (pv 3)))))
    (pss_one (ps_ret (pv 2)))))), ?_⟩
  try walk_at "dr1"
  refine ⟨_, hS, ?_⟩
  obtain ⟨Pv, hPv⟩ : ∃ Pv : Nat → St → Hp → Prop, ∀ i σ H2, Pv i σ H2 ↔ (H2 = H ∧ ∃ t, σ = [some (.ref a), some (.int x), some (.int (Dr.pev (f.drop (f.length - i)) x)), t]) := ⟨_, fun _ _ _ => Iff.rfl⟩
  refine forV f Pv (by rw [List.length_map]) ((hPv _ _ _).mpr ⟨rfl, none, by simp [Dr.pev]⟩) (fun i σ H2 z => by obtain ⟨rfl, _⟩ := (hPv _ _ _).mp z; exact hS) ?_ ?_
  · intro i c σ H2 hc z
    obtain ⟨rfl, t, rfl⟩ := (hPv _ _ _).mp z
    try walk_at "dr1"
    have b := (hx.pev (hf.drop (f.length - i))).mono (l := 1000000 + 100 * 100001) (by
      have h1 : (f.drop (f.length - i)).length ≤ 100 := by rw [List.length_drop]; omega
      have h2 : (f.drop (f.length - i)).length * (n + 1) ≤ 100 * 100001 := Nat.mul_le_mul h1 (by omega)
      omega)
    refine ⟨mulSm b hx (by omega), (hPv _ _ _).mpr ⟨rfl, some (.int c), ?_⟩⟩
    rw [Dr.pev_rev hc]
  · intro σ H2 z
    obtain ⟨rfl, t, rfl⟩ := (hPv _ _ _).mp z
    try walk_at "dr1"
    rw [Nat.sub_self, List.drop_zero]
    exact q
def sp_depth_of (_ : PySem.W.Frag) : Sp := fun vs H Q _ => ∃ (p x : Int), vs = [.int p, .int x] ∧ (2 ≤ p ∧ p < 1000) ∧ x ≠ 0 ∧ ∀ (d : Nat) (u : Int), Dr.Fac p x d u → Q (.int (d : Int)) H
def W_depth_of (p x : Int) (H : Hp) (m : Nat) (σ : St) (H' : Hp) : Prop := H' = H ∧ ∃ (l : Int) (d : Nat), σ = [some (.int p), some (.int x), some (.int (d : Int)), some (.int l)] ∧ x = l * p ^ d ∧ l ≠ 0 ∧ m = l.natAbs
theorem turn_depth {p x l : Int} {d : Nat} (hp : 2 ≤ p) (e : x = l * p ^ d) (l0 : l ≠ 0) (c : l % p = 0) : x = l / p * p ^ (d + 1) ∧ l / p ≠ 0 ∧ (l / p).natAbs < l.natAbs := by
  have e1 : l = p * (l / p) := by have := Int.mul_ediv_add_emod l p; omega
  have n0 : l / p ≠ 0 := fun z => by rw [z] at e1; simp at e1; exact l0 e1
  refine ⟨?_, n0, ?_⟩
  · rw [Int.pow_succ, e]
    calc l * p ^ d = p * (l / p) * p ^ d := by rw [← e1]
      _ = l / p * (p ^ d * p) := by rw [Int.mul_comm p, Int.mul_assoc, Int.mul_comm p]
  · have e2 : l.natAbs = p.natAbs * (l / p).natAbs := by rw [← Int.natAbs_mul, ← e1]
    have l1 : 2 * (l / p).natAbs ≤ p.natAbs * (l / p).natAbs := Nat.mul_le_mul_right _ (by omega)
    omega
theorem ok_depth_of (B : Bi mg K w) (F : Fun K "depth_of" "depth_of" s_depth_of f fd) : FnOk P w K mg base CX0 1 f fd ["p", "x"] (sp_depth_of K) := by
  refine F.ok S_depth_of (fun vs H Q E h => ?_) (fun cdv A outer s H vs Q E hr h => ?_)
  · obtain ⟨p, x, rfl, _⟩ := h
    rfl
  obtain ⟨p, x, rfl, hp, hx, q⟩ := h
  have S := S_depth_of
  refine ⟨_, ((pss_cons (ps_if (pt_cmpR op_eq (pv 1) pe_int (nomark _)) (pss_one ps_never) pss_nil)
    (pss_cons (ps_set (i := 2) S.nd rfl (Or.inl rfl) pe_int)
    (pss_cons (ps_set (i := 3) S.nd rfl (Or.inl rfl) (pv 1))
    (pss_cons (ps_while PassesOwn.never (pt_cmpR op_eq (pe_op op_mod (pv 3) (pv 0)) pe_int (nomark _)) (pss_cons (ps_set (i := 3) S.nd rfl (Or.inl rfl) (pe_op op_fdivW (pv 3) (pv 0)))
    (pss_one (ps_aug (i := 2) S.nd rfl (Or.inl rfl) pe_int ip_add))))
    (pss_one (ps_ret (pv 2)))))))), ?_⟩
  refine ⟨_, rfl, rfl, _, rfl, ?_⟩
  refine ite2 (fun c => absurd (V.int.inj (of_decide_eq_true c)) hx) (fun _ => ?_)
  refine ⟨_, rfl, ?_⟩
  refine ⟨W_depth_of p x H, ⟨_, rfl, x, 0, rfl, by simp, hx, rfl⟩, ?_⟩
  rintro m σ H' ⟨rfl, l, d, rfl, e, l0, rfl⟩
  refine ⟨_, rfl, _, rfl, _, _, rfl, rfl, (show (0 : Int) < p by omega), rfl, _, rfl, ?_⟩
  refine ite2 (fun c => ?_) (fun c => ?_)
  · have c' : l % p = 0 := V.int.inj (of_decide_eq_true c)
    obtain ⟨t1, t2, t3⟩ := turn_depth hp.1 e l0 c'
    refine ⟨fun σ' H2 => ∃ m', m' < l.natAbs ∧ W_depth_of p x H' m' σ' H2, fun _ _ h => h, ?_⟩
    refine ⟨_, rfl, _, rfl, _, _, rfl, rfl, log_small hp, ?_⟩
    exact ⟨_, rfl, _, _, rfl, rfl, _, t3, rfl, l / p, d + 1, rfl, t1, t2, rfl⟩
  · have c' : l % p ≠ 0 := fun z => c (decide_eq_true (congrArg V.int z))
    exact ⟨_, rfl, q d l ⟨e, c'⟩⟩
def sp_inverse_by_prime (_ : PySem.W.Frag) : Sp := fun vs H Q _ => ∃ (p x : Int), vs = [.int p, .int x] ∧ p ∈ Dr.primes ∧ x % p ≠ 0 ∧ ∀ (y : Int) (H' : Hp), 1 ≤ y ∧ y < p → x * y % p = 1 → Same H H' → Q (.int y) H'
theorem ok_inverse_by_prime (B : Bi mg K w) (F : Fun K "inverse_by_prime" "inverse_by_prime" s_inverse_by_prime f fd) : FnOk P w K mg base CX0 1 f fd ["p", "x"] (sp_inverse_by_prime K) := by
  refine F.ok S_inverse_by_prime (fun vs H Q E h => ?_) (fun cdv A outer s H vs Q E hr h => ?_)
  · obtain ⟨p, x, rfl, _⟩ := h
    rfl
  obtain ⟨p, x, rfl, hp, hx, q⟩ := h
  have S := S_inverse_by_prime
  have p2 := Dr.primes_ge hp
  have hpp : 2 ≤ p ∧ p < 1000 := by omega
  refine ⟨_, ((pss_cons (ps_comp [0, 1] ["p", "x"] rfl S.nd (k := 2) rfl rfl rfl rfl ⟨rfl, rfl, trivial⟩ ⟨rfl, rfl, rfl, rfl, rfl, rfl, rfl, rfl, trivial⟩ rfl rfl (by decide) (by decide) rfl rfl (by decide) (pi_range2 rfl B.b_range (pa_cons pe_int (pa_cons (pv 0) pa_nil))) (fun _ _ _ _ => (pts_one (pt_cmpR op_eq (pe_op op_mod (pe_op op_mulW (pv 2) (pv 0)) (pv 1)) pe_int (nomark _)))) (fun _ _ _ _ => (pv 0)))
    (pss_one (ps_ret (pe_ix ix_list (pv 2) pe_int (fun _ _ => rfl)))))), ?_⟩
  try walk_at "dr1"
  repeat (refine And.intro (by first | omega | exact ⟨by decide, by decide⟩ | decide | assumption | exact log_small (by assumption) | exact Dr.pow_pos (by omega) _ | exact IntMulOk.of_left (by decide) | exact cell_sh (by assumption) (by omega) | exact sh_div (by assumption) (by decide) | exact sh_div (cell_sh (by assumption) (by omega)) (by decide)) ?_)
  obtain ⟨Pv, hPv⟩ : ∃ Pv : Nat → List V → Hp → Prop, ∀ i ys H', Pv i ys H' ↔ (H' = H ∧ ∃ zs : List Int, ys = zs.map V.int ∧ (∀ z, z ∈ zs → (1 ≤ z ∧ z < p) ∧ x * z % p = 1) ∧ (∀ y : Int, 1 ≤ y → y < 1 + i → x * y % p = 1 → zs ≠ [])) := ⟨_, fun _ _ _ => Iff.rfl⟩
  refine compR Pv (by unfold sizeLine; omega) ((hPv _ _ _).mpr ⟨rfl, [], rfl, by simp, fun y h1 h2 => by omega⟩) ?_ ?_
  · intro i ys H' hi zz
    obtain ⟨rfl, zs, rfl, h1, h2⟩ := (hPv _ _ _).mp zz
    try walk_at "dr1"
    refine ⟨IntMulOk.of_right (intBits_le_64 (by omega) (by omega)), by omega, ite2 (fun c => ?_) (fun c => ?_)⟩
    · refine (hPv _ _ _).mpr ⟨rfl, zs ++ [1 + (i : Int)], by simp, fun z hz => ?_, fun y _ _ _ => by simp⟩
      rcases List.mem_append.mp hz with w | w
      · exact h1 z w
      · rw [List.mem_singleton.mp w]
        exact ⟨by omega, c⟩
    · refine (hPv _ _ _).mpr ⟨rfl, zs, rfl, h1, fun y y1 y2 y3 => ?_⟩
      by_cases w : y = 1 + (i : Int)
      · rw [w] at y3
        exact absurd y3 c
      · exact h2 y y1 (by omega) y3
  · intro ys H' zz
    obtain ⟨rfl, zs, rfl, h1, h2⟩ := (hPv _ _ _).mp zz
    intro l n_l; generalize e_l : upd _ l _ = H1; obtain ⟨g1, k1⟩ := newH e_l n_l; clear e_l
    obtain ⟨y, y1, y2, y3⟩ := Dr.inv_ex hp hx
    have hne := h2 y y1 (by omega) y3
    cases zs with
    | nil => exact absurd rfl hne
    | cons z zs =>
      try walk_at "dr1"
      refine ⟨_, SqL.of k1, _, atI_nat (j := 0) rfl, ?_⟩
      obtain ⟨a1, a2⟩ := h1 z (List.mem_cons_self ..)
      exact q z H1 a1 a2 g1
theorem bits_below {p : Int} (hp : 2 ≤ p ∧ p < 1000) {x : Int} (n : Nat) (h0 : 0 ≤ x) (h : x < p ^ n) : Builtin.Int.intBits x ≤ 10 * n + 1 := PyProof.Rows.intBits_le (by
  have := pow_bits hp n
  have := Dr.pow_pos hp.1 n
  omega)
def sp_inverse_of (_ : PySem.W.Frag) : Sp := fun vs H Q _ => ∃ (p e x : Int), vs = [.int p, .int e, .int x] ∧ p ∈ Dr.primes ∧ (0 ≤ e ∧ e < 1000) ∧ Builtin.Int.intBits x ≤ 2 ^ 22 ∧ (e = 0 ∨ x % p ≠ 0) ∧ ∀ (y : Int) (H' : Hp), Dr.InvE p x y e.toNat → Same H H' → Q (.int y) H'
theorem ok_inverse_of (B : Bi mg K w) (d_power_of : Def P w K mg base "power_of" 1 ["p", "e"] (sp_power_of K)) (d_inverse_by_prime : Def P w K mg base "inverse_by_prime" 1 ["p", "x"] (sp_inverse_by_prime K)) (F : Fun K "inverse_of" "inverse_of" s_inverse_of f fd) : FnOk P w K mg base CX0 2 f fd ["p", "e", "x"] (sp_inverse_of K) := by
  refine F.ok S_inverse_of (fun vs H Q E h => ?_) (fun cdv A outer s H vs Q E hr h => ?_)
  · obtain ⟨p, e, x, rfl, _⟩ := h
    rfl
  obtain ⟨p, e, x, rfl, hp, he, hb, hx, q⟩ := h
  have S := S_inverse_of
  have p2 := Dr.primes_ge hp
  have hpp : 2 ≤ p ∧ p < 1000 := by omega
  refine ⟨_, ((pss_cons (ps_if (pt_cmpR op_eq (pv 1) pe_int (nomark _)) (pss_one (ps_ret pe_int)) pss_nil)
    (pss_cons (ps_if (pt_cmpR op_eq (pe_op op_mod (pv 2) (pv 0)) pe_int (nomark _)) (pss_one ps_never) pss_nil)
    (pss_cons (ps_set (i := 3) S.nd rfl (Or.inl rfl) (pe_def d_power_of hr rfl (pa_cons (pv 0) (pa_cons (pv 1) pa_nil))))
    (pss_cons (ps_set (i := 4) S.nd rfl (Or.inl rfl) (pe_def d_inverse_by_prime hr rfl (pa_cons (pv 0) (pa_cons (pv 2) pa_nil))))
    (pss_cons (ps_set (i := 5) S.nd rfl (Or.inl rfl) pe_int)
    (pss_cons (ps_while PassesOwn.never (pt_cmpR op_lt (pv 5) (pv 1) (nomark _)) (pss_cons (ps_set (i := 4) S.nd rfl (Or.inl rfl) (pe_op op_mod (pe_op op_mulW (pv 4) (pe_op op_sub pe_int (pe_op op_mulW (pv 2) (pv 4)))) (pv 3)))
    (pss_one (ps_set (i := 5) S.nd rfl (Or.inl rfl) (pe_op op_mulW (pv 5) pe_int)))))
    (pss_one (ps_ret (pv 4)))))))))), ?_⟩
  try walk_at "dr1"; (try simp only [sp_power_of, sp_inverse_by_prime]); try walk_at "dr1"
  refine ite2 (fun c => ?_) (fun c => ?_)
  · refine q 0 H ?_ (Same.refl H)
    rw [c]
    exact Dr.InvE.zero p x
  have hx' : x % p ≠ 0 := by
    rcases hx with z | z
    · exact absurd z c
    · exact z
  refine ⟨by omega, ite2 (fun d => absurd d hx') (fun d => ?_)⟩
  repeat (refine And.intro (by first | omega | exact ⟨by decide, by decide⟩ | decide | assumption | exact log_small (by assumption) | exact Dr.pow_pos (by omega) _ | exact IntMulOk.of_left (by decide) | exact cell_sh (by assumption) (by omega) | exact sh_div (by assumption) (by decide) | exact sh_div (cell_sh (by assumption) (by omega)) (by decide)) ?_)
  intro y H1 y1 y2 g1
  have e1 : 1 ≤ e.toNat := by omega
  have hpe : p ≤ p ^ e.toNat := by
    have : p ^ 1 ≤ p ^ e.toNat := by
      obtain ⟨k, hk⟩ : ∃ k, e.toNat = 1 + k := ⟨e.toNat - 1, by omega⟩
      rw [hk, Dr.pow_add']
      have := Dr.pow_pos hpp.1 k
      have h2 : 0 < p ^ 1 := Dr.pow_pos hpp.1 1
      have := Int.mul_le_mul_of_nonneg_left (show 1 ≤ p ^ k by omega) (show 0 ≤ p ^ 1 by omega)
      omega
    rwa [Int.pow_succ, Int.pow_zero, Int.one_mul] at this
  obtain ⟨W, hW⟩ : ∃ W : Nat → St → Hp → Prop, ∀ m σ H2, W m σ H2 ↔ (H2 = H1 ∧ ∃ (y : Int) (r : Nat), σ = [some (.int p), some (.int e), some (.int x), some (.int (p ^ e.toNat)), some (.int y), some (.int (r : Int))] ∧ 1 ≤ r ∧ 0 ≤ y ∧ y < p ^ e.toNat ∧ (x * y - 1) % p ^ (min r e.toNat) = 0 ∧ m = e.toNat - r) := ⟨_, fun _ _ _ => Iff.rfl⟩
  refine whB W (e.toNat - 1) ((hW _ _ _).mpr ⟨rfl, y, 1, rfl, by omega, by omega, by omega, ?_, rfl⟩) ?_
  · rw [Nat.min_eq_left e1, Int.pow_succ, Int.pow_zero, Int.one_mul]
    rw [Int.sub_emod, y2]
    simp
  · intro m σ H2 z
    obtain ⟨rfl, y, r, rfl, r1, z1, z2, z3, rfl⟩ := (hW _ _ _).mp z
    try walk_at "dr1"; (try simp only [sp_power_of, sp_inverse_by_prime]); try walk_at "dr1"
    refine ite2 (fun c => ?_) (fun c => ?_)
    · refine ⟨_, fun _ _ h => h, ?_⟩
      have by' : Builtin.Int.intBits y ≤ 10 * e.toNat + 1 := bits_below hpp _ z1 z2
      have b1 : IntMulOk x y := PyProof.Rows.mulOk_of_bits hb by' (by omega)
      have b2 : Builtin.Int.intBits (x * y) ≤ 2 ^ 22 + (10 * e.toNat + 1) := PySem.intBits_mul_le hb by'
      have b3 : Builtin.Int.intBits (2 - x * y) ≤ 2 ^ 22 + (10 * e.toNat + 1) + 1 := Nat.le_trans (PySem.intBits_sub_le (m := 2 ^ 22 + (10 * e.toNat + 1)) (Nat.le_trans (show Builtin.Int.intBits 2 ≤ 64 by decide) (by omega)) b2) (by omega)
      have b4 : IntMulOk y (2 - x * y) := PyProof.Rows.mulOk_of_bits by' b3 (by omega)
      have hpos := Dr.pow_pos hpp.1 e.toNat
      refine ⟨b1, b4, hpos, IntMulOk.of_right (by decide), e.toNat - r * 2, by omega, (hW _ _ _).mpr ⟨rfl, y * (2 - x * y) % p ^ e.toNat, r * 2, by simp, by omega, Int.emod_nonneg _ (by omega), Int.emod_lt_of_pos _ hpos, Dr.inv_step z3, rfl⟩⟩
    · have hr : min r e.toNat = e.toNat := by omega
      rw [hr] at z3
      exact q y H2 ⟨z1, z2, z3⟩ g1
def sp_degree_of (K : PySem.W.Frag) : Sp := fun vs H Q _ => ∃ (a : Addr) (f : List Int), vs = [.ref a] ∧ SqL K H a (f.map V.int) ∧ ∀ (d : Int) (H' : Hp), Dr.IsDeg f d → Same H H' → Q (.int d) H'
theorem ok_degree_of (B : Bi mg K w) (F : Fun K "degree_of" "degree_of" s_degree_of f fd) : FnOk P w K mg base CX0 1 f fd ["f"] (sp_degree_of K) := by
  refine F.ok S_degree_of (fun vs H Q E h => ?_) (fun cdv A outer s H vs Q E hr h => ?_)
  · obtain ⟨a, f, rfl, _⟩ := h
    rfl
  obtain ⟨a, f, rfl, hS, q⟩ := h
  have S := S_degree_of
  refine ⟨_, ((pss_cons (ps_set (i := 1) S.nd rfl (Or.inl rfl) (pe_un un_neg pe_int))
    (pss_cons (ps_for PassesOwn.never rfl (pi_enum rfl B.b_enumerate (pv 0)) (pg_tup rfl (pgs_cons (pg_name (i := 2) S.nd rfl (Or.inl rfl)) (pgs_cons (pg_name (i := 3) S.nd rfl (Or.inl rfl)) pgs_nil))) (pss_one (ps_if (pt_cmpR op_ne (pv 3) pe_int (nomark _)) (pss_one (ps_set (i := 1) S.nd rfl (Or.inl rfl) (pv 2))) pss_nil)))
    (pss_one (ps_ret (pv 1)))))), ?_⟩
  try walk_at "dr1"
  refine ⟨⟨_, hS⟩, ?_⟩
  obtain ⟨Pv, hPv⟩ : ∃ Pv : Nat → St → Hp → Prop, ∀ i σ H2, Pv i σ H2 ↔ (Same H H2 ∧ ∃ (d : Int) (t2 t3 : Option V), Dr.IsDeg (f.take i) d ∧ σ = [some (.ref a), some (.int d), t2, t3]) := ⟨_, fun _ _ _ => Iff.rfl⟩
  refine forE f Pv ((hPv _ _ _).mpr ⟨Same.refl _, -1, none, none, by simpa using Dr.IsDeg.nil, rfl⟩) (fun i σ H2 z => by obtain ⟨g, _⟩ := (hPv _ _ _).mp z; exact g.seq hS) ?_ ?_
  · intro i c σ H2 t H3 hc z g3 ht
    obtain ⟨g2, d, t2, t3, hd, rfl⟩ := (hPv _ _ _).mp z
    try walk_at "dr1"
    refine ⟨_, SqT.of ht, rfl, _, _, rfl, ?_⟩
    refine ⟨_, _, rfl, rfl, rfl, ?_⟩
    simp only [V.int.injEq]
    have g := g2.trans g3
    have hd' := hd.take_succ hc
    refine ite2 (fun c0 => ?_) (fun c0 => ?_)
    · rw [if_pos c0] at hd'
      exact (hPv _ _ _).mpr ⟨g, _, _, _, hd', rfl⟩
    · rw [if_neg c0] at hd'
      exact (hPv _ _ _).mpr ⟨g, _, _, _, hd', rfl⟩
  · intro σ H2 z
    obtain ⟨g2, d, t2, t3, hd, rfl⟩ := (hPv _ _ _).mp z
    try walk_at "dr1"
    rw [List.take_length] at hd
    exact q d H2 hd g2
def sp_poly_product (K : PySem.W.Frag) : Sp := fun vs H Q _ => ∃ (a b : Addr) (f g : List Int) (m n : Nat), vs = [.ref a, .ref b] ∧ SqL K H a (f.map V.int) ∧ SqL K H b (g.map V.int) ∧ (0 < f.length ∧ f.length ≤ 60 ∧ 0 < g.length ∧ g.length ≤ 60) ∧ Dr.PolyB f m ∧ Dr.PolyB g n ∧ (m ≤ 1000000 ∧ n ≤ 1000000) ∧
  ∀ (c : Addr) (r : List Int) (H' : Hp), Dr.IsProd f g r → Dr.PolyB r (m + n + 12) → H c = none → Same H H' → H' c = some (.lst (r.map V.int)) → Q (.ref c) H'
theorem ok_poly_product (B : Bi mg K w) (F : Fun K "poly_product" "poly_product" s_poly_product f fd) : FnOk P w K mg base CX0 1 f fd ["f", "g"] (sp_poly_product K) := by
  refine F.ok S_poly_product (fun vs H Q E h => ?_) (fun cdv A outer s H vs Q E hr h => ?_)
  · obtain ⟨a, b, f, g, m, n, rfl, _⟩ := h
    rfl
  obtain ⟨a, b, f, g, m, n, rfl, hS, hS', hl, hf, hg, hmn, q⟩ := h
  have S := S_poly_product
  refine ⟨_, ((pss_cons (ps_set (i := 2) S.nd rfl (Or.inl rfl) (pe_op op_rep (pe_lst (pa_cons pe_int pa_nil)) (pe_op op_sub (pe_op op_add (pe_callB call_len_seq rfl B.b_len PySem.boot_len (pa_cons (pv 0) pa_nil)) (pe_callB call_len_seq rfl B.b_len PySem.boot_len (pa_cons (pv 1) pa_nil))) pe_int)))
    (pss_cons (ps_for PassesOwn.never rfl (pi_enum rfl B.b_enumerate (pv 0)) (pg_tup rfl (pgs_cons (pg_name (i := 3) S.nd rfl (Or.inl rfl)) (pgs_cons (pg_name (i := 4) S.nd rfl (Or.inl rfl)) pgs_nil))) (pss_one (ps_for PassesOwn.never rfl (pi_enum rfl B.b_enumerate (pv 1)) (pg_tup rfl (pgs_cons (pg_name (i := 5) S.nd rfl (Or.inl rfl)) (pgs_cons (pg_name (i := 6) S.nd rfl (Or.inl rfl)) pgs_nil))) (pss_one (ps_augS (pv 2) (pe_op op_add (pv 3) (pv 5)) get_list (pe_op op_mulW (pv 4) (pv 6)) ip_add set_list)))))
    (pss_one (ps_ret (pv 2)))))), ?_⟩
  try walk_at "dr1"
  refine ⟨by decide, ?_⟩
  intro l0 n_l0; generalize e_l0 : upd _ l0 _ = H1; obtain ⟨g1, k1⟩ := newH e_l0 n_l0; clear e_l0
  refine ⟨_, .inl (g1.seq hS), _, .inl (g1.seq hS'), ?_⟩
  simp only [List.length_map]
  refine ⟨_, k1, by omega, by omega, by simp only [List.length_cons, List.length_nil]; unfold sizeLine; omega, ?_⟩
  intro l n_l; generalize e_l : upd _ l _ = H2; obtain ⟨g2, k2⟩ := newH e_l n_l; clear e_l
  rw [rep_zero] at k2
  have g12 := g1.trans g2
  have nl : H l = none := g1.free n_l
  refine ⟨⟨_, g12.seq hS⟩, ?_⟩
  obtain ⟨M, hM⟩ : ∃ M : Nat, M = 2 ^ (m + n) := ⟨_, rfl⟩
  obtain ⟨Pv, hPv⟩ : ∃ Pv : Nat → St → Hp → Prop, ∀ i σ H3, Pv i σ H3 ↔ (Same H H3 ∧ ∃ (r : List Int) (t3 t4 t5 t6 : Option V), r.length + 1 = f.length + g.length ∧ (∀ c, c ∈ r → c.natAbs ≤ i * g.length * M) ∧ (∀ x, Dr.pev r x = Dr.pev (f.take i) x * Dr.pev g x) ∧ H3 l = some (.lst (r.map V.int)) ∧ σ = [some (.ref a), some (.ref b), some (.ref l), t3, t4, t5, t6]) := ⟨_, fun _ _ _ => Iff.rfl⟩
  refine forE f Pv ((hPv _ _ _).mpr ⟨g12, _, none, none, none, none, by rw [List.length_replicate]; omega, fun c hc => by rw [(List.mem_replicate.mp hc).2]; simp, fun x => by rw [Dr.pev_zeros]; simp [Dr.pev], k2, rfl⟩) (fun i σ H3 z => by obtain ⟨g, _⟩ := (hPv _ _ _).mp z; exact g.seq hS) ?_ ?_
  · intro i c σ H3 t H4 hc z g4 ht
    obtain ⟨g3, r, t3, t4, t5, t6, hrl, hrb, hre, k3, rfl⟩ := (hPv _ _ _).mp z
    have k4 := g4 _ _ k3
    have hi := (List.getElem?_eq_some_iff.mp hc).1
    have G4 := g3.trans g4
    try walk_at "dr1"
    refine ⟨_, SqT.of ht, rfl, _, _, rfl, _, _, rfl, rfl, ?_⟩
    try try walk_at "dr1"
    refine ⟨⟨_, G4.seq hS'⟩, ?_⟩
    obtain ⟨Pw, hPw⟩ : ∃ Pw : Nat → St → Hp → Prop, ∀ j σ H5, Pw j σ H5 ↔ (Same H H5 ∧ ∃ (r : List Int) (t5 t6 : Option V), r.length + 1 = f.length + g.length ∧ (∀ c, c ∈ r → c.natAbs ≤ (i * g.length + j) * M) ∧ (∀ x, Dr.pev r x = Dr.pev (f.take i) x * Dr.pev g x + c * x ^ i * Dr.pev (g.take j) x) ∧ H5 l = some (.lst (r.map V.int)) ∧ σ = [some (.ref a), some (.ref b), some (.ref l), some (.int (i : Int)), some (.int c), t5, t6]) := ⟨_, fun _ _ _ => Iff.rfl⟩
    refine forE g Pw ((hPw _ _ _).mpr ⟨G4, r, t5, t6, hrl, hrb, fun x => by rw [hre]; simp [Dr.pev], k4, rfl⟩) (fun i σ H3 z => by obtain ⟨g, _⟩ := (hPw _ _ _).mp z; exact g.seq hS') ?_ ?_
    · intro j d σ H5 t H6 hd z g6 ht
      obtain ⟨g5, r, t5, t6, hrl, hrb, hre, k5, rfl⟩ := (hPw _ _ _).mp z
      have k6 := g6 _ _ k5
      have hj := (List.getElem?_eq_some_iff.mp hd).1
      try walk_at "dr1"
      refine ⟨_, SqT.of ht, rfl, _, _, rfl, _, _, rfl, rfl, ?_⟩
      try try walk_at "dr1"
      obtain ⟨v, e1, _, e3, e4⟩ := get_int (fs := r) (k := (i : Int) + (j : Int)) (by omega) (by omega)
      have hcd : (c * d).natAbs ≤ M := by
        rw [hM]
        exact Nat.le_of_lt ((hf c (List.mem_of_getElem? hc)).mul (hg d (List.mem_of_getElem? hd)))
      refine ⟨by omega, _, SqL.of k6, _, e4, mulSm (hf c (List.mem_of_getElem? hc)) (hg d (List.mem_of_getElem? hd)) (by omega), v, rfl, _, k6, _, e3, ?_⟩
      rw [set_int]
      have eij : ((i : Int) + (j : Int)).toNat = i + j := by omega
      rw [eij] at e1 ⊢
      refine (hPw _ _ _).mpr ⟨(g5.trans g6).up nl _, _, _, _, by rw [List.length_set]; exact hrl, fun e he => ?_, fun x => ?_, upd_same, rfl⟩
      · rcases mem_set he with w | w
        · exact Nat.le_trans (hrb e w) (Nat.mul_le_mul_right _ (Nat.le_succ _))
        · rw [w]
          exact steps (hrb v (List.mem_of_getElem? e1)) hcd
      · rw [Dr.pev_set x (c * d) r (i + j) v e1, hre, Dr.pev_take_succ hd, Dr.pow_add']
        generalize x ^ i = X
        generalize x ^ j = Y
        grind
    · intro σ H5 z
      obtain ⟨g5, r, t5, t6, hrl, hrb, hre, k5, rfl⟩ := (hPw _ _ _).mp z
      refine (hPv _ _ _).mpr ⟨g5, r, _, _, _, _, hrl, fun c hc => ?_, fun x => ?_, k5, rfl⟩
      · rw [Nat.succ_mul]
        exact hrb c hc
      · rw [hre, List.take_length, Dr.pev_take_succ hc]
        grind
  · intro σ H3 z
    obtain ⟨g3, r, t3, t4, t5, t6, hrl, hrb, hre, k3, rfl⟩ := (hPv _ _ _).mp z
    try walk_at "dr1"
    rw [List.take_length] at hre
    refine q l r H3 ⟨hrl, hre⟩ (fun c hc => ?_) nl g3 k3
    have h1 := hrb c hc
    have h2 : f.length * g.length * M ≤ 3600 * M := Nat.mul_le_mul_right _ (Nat.mul_le_mul (show f.length ≤ 60 by omega) (show g.length ≤ 60 by omega))
    show c.natAbs < 2 ^ (m + n + 12)
    rw [Nat.pow_add, ← hM]
    have : (2 : Nat) ^ 12 = 4096 := by decide
    have : 0 < M := by rw [hM]; exact Nat.pow_pos (by decide)
    omega
theorem comp_dmI {K : PySem.W.Frag} {H : Hp} {a : Addr} {f : List Int} {σ : St} {k : Nat} {Q : VK} (hS : SqL K H a (f.map V.int)) (hl : 0 < f.length ∧ f.length ≤ 60) (hi : σ[k]? = some (some (.ref a))) (q : ∀ l, H l = none → Q (.ref l) (upd H l (.lst ((Dr.dm 1 f.tail).map V.int)))) :
    CompIt (Itr 1 ((((f.map V.int).length : Nat) : Int) - 1).toNat) [k] (fun _ H Q => Q true H) (tOp (rI IntMulOk fun i j => V.int (i * j)) (tVar 0) (tOp (rIxL K) (tVar 1) (tVar 0))) σ H Q := by
  obtain ⟨Pc, hPc⟩ : ∃ Pc : Nat → List V → Hp → Prop, ∀ i ys H1, Pc i ys H1 ↔ (H1 = H ∧ ys = ((Dr.dm 1 f.tail).take i).map V.int) := ⟨_, fun _ _ _ => Iff.rfl⟩
  refine compR Pc (by simp only [List.length_map]; unfold sizeLine; omega) ((hPc _ _ _).mpr ⟨rfl, by simp⟩) ?_ ?_
  · intro i ys H1 hi' z
    obtain ⟨rfl, rfl⟩ := (hPc _ _ _).mp z
    simp only [List.length_map] at hi'
    have hi2 : i < f.tail.length := by rw [List.length_tail]; omega
    have e0 : f.tail[i]? = some f.tail[i] := List.getElem?_eq_getElem hi2
    have e1 : atI (f.map V.int) (1 + (i : Int)) = some (.int f.tail[i]) := by
      rw [Int.add_comm]
      refine atI_nat (j := i + 1) ?_
      rw [List.getElem?_map]
      have : f[i + 1]? = some f.tail[i] := by
        rw [← e0]
        simp [List.getElem?_tail]
      rw [this]
      rfl
    have e2 := Dr.dm_get f.tail 1 i _ e0
    simp only [capV, List.map_cons, List.map_nil, hi, Option.getD_some]
    try walk_at "dr1"
    refine ⟨_, hS, _, e1, _, rfl, IntMulOk.of_left (intBits_le_64 (by omega) (by omega)), (hPc _ _ _).mpr ⟨rfl, ?_⟩⟩
    rw [List.take_add_one, e2, List.map_append]
    rfl
  · intro ys H1 z
    obtain ⟨rfl, rfl⟩ := (hPc _ _ _).mp z
    intro l hl'
    have := q l hl'
    rw [List.take_of_length_le (by rw [Dr.dm_length, List.length_tail]; simp only [List.length_map]; omega)]
    exact this
theorem comp_dm {K : PySem.W.Frag} {H : Hp} {a : Addr} {f : List Int} {rest : St} {Q : VK} (hS : SqL K H a (f.map V.int)) (hl : 0 < f.length ∧ f.length ≤ 60) (q : ∀ l, H l = none → Q (.ref l) (upd H l (.lst ((Dr.dm 1 f.tail).map V.int)))) :
    CompIt (Itr 1 ((((f.map V.int).length : Nat) : Int) - 1).toNat) [0] (fun _ H Q => Q true H) (tOp (rI IntMulOk fun i j => V.int (i * j)) (tVar 0) (tOp (rIxL K) (tVar 1) (tVar 0))) (some (.ref a) :: rest) H Q := comp_dmI hS hl rfl q
theorem slope_b {f : List Int} {m : Nat} (hl : 0 < f.length ∧ f.length ≤ 60) (hf : Dr.PolyB f m) : Dr.PolyB (Dr.pslope f) (m + 6) := by
  intro d hd
  match f, hl with
  | [x], _ =>
    rw [List.mem_singleton.mp hd]
    exact Dr.Sm.zero _
  | x :: y :: f, hl =>
    have hd' : d ∈ Dr.dm 1 (y :: f) := hd
    obtain ⟨i, hi⟩ := List.getElem?_of_mem hd'
    have hi2 : i < (y :: f).length := by
      have := (List.getElem?_eq_some_iff.mp hi).1
      rw [Dr.dm_length] at this
      exact this
    have e0 : (y :: f)[i]? = some (y :: f)[i] := List.getElem?_eq_getElem hi2
    rw [Dr.dm_get (y :: f) 1 i _ e0] at hi
    rw [← Option.some.inj hi]
    have h1 : Dr.Sm (1 + (i : Int)) 6 := sm_of 60 (by simp only [List.length_cons] at hl hi2; omega) (by decide)
    have h2 := h1.mul (hf _ (List.mem_cons_of_mem _ (List.mem_of_getElem? e0)))
    exact h2.mono (by omega)
def sp_slope_of (K : PySem.W.Frag) : Sp := fun vs H Q _ => ∃ (a : Addr) (f : List Int) (m : Nat), vs = [.ref a] ∧ SqL K H a (f.map V.int) ∧ (0 < f.length ∧ f.length ≤ 60) ∧ Dr.PolyB f m ∧ m ≤ 1000000 ∧
  ∀ (c : Addr) (H' : Hp), Dr.PolyB (Dr.pslope f) (m + 6) → H c = none → Same H H' → H' c = some (.lst ((Dr.pslope f).map V.int)) → Q (.ref c) H'
theorem ok_slope_of (B : Bi mg K w) (F : Fun K "slope_of" "slope_of" s_slope_of f fd) : FnOk P w K mg base CX0 1 f fd ["f"] (sp_slope_of K) := by
  refine F.ok S_slope_of (fun vs H Q E h => ?_) (fun cdv A outer s H vs Q E hr h => ?_)
  · obtain ⟨a, f, m, rfl, _⟩ := h
    rfl
  obtain ⟨a, f, m, rfl, hS, hl, hf, hm, q⟩ := h
  have S := S_slope_of
  refine ⟨_, ((pss_cons (ps_if (pt_cmpR op_eq (pe_callB call_len_seq rfl B.b_len PySem.boot_len (pa_cons (pv 0) pa_nil)) pe_int (nomark _)) (pss_one (ps_ret (pe_lst (pa_cons pe_int pa_nil)))) pss_nil)
    (pss_one (ps_ret (pe_comp [0] ["f"] rfl rfl ⟨rfl, trivial⟩ ⟨rfl, rfl, rfl, rfl, trivial⟩ rfl rfl (by decide) (by decide) rfl rfl (by decide) (pi_range2 rfl B.b_range (pa_cons pe_int (pa_cons (pe_callB call_len_seq rfl B.b_len PySem.boot_len (pa_cons (pv 0) pa_nil)) pa_nil))) (fun _ _ _ _ => pts_nil) (fun _ _ _ _ => (pe_op op_mulW (pv 0) (pe_ix (ix_listK (K := K) rfl) (pv 1) (pv 0) (fun _ _ => rfl))))))))), ?_⟩
  try walk_at "dr1"
  refine ⟨_, .inl hS, ?_⟩
  simp only [List.length_map]
  refine ite2 (fun c => ?_) (fun c => ?_)
  · refine ⟨by decide, ?_⟩
    intro l n_l; generalize e_l : upd _ l _ = H1; obtain ⟨g1, k1⟩ := newH e_l n_l; clear e_l
    obtain ⟨x, rfl⟩ : ∃ x, f = [x] := List.length_eq_one_iff.mp (by omega)
    exact q l H1 (fun c hc => by rw [List.mem_singleton.mp hc]; exact Dr.Sm.zero _) n_l g1 k1
  · refine ⟨_, .inl hS, by decide, by decide, by simp only [List.length_map]; omega, by simp only [List.length_map]; omega, ?_⟩
    refine comp_dm hS hl ?_
    intro l n_l; generalize e_l : upd _ l _ = H1; obtain ⟨g1, k1⟩ := newH e_l n_l; clear e_l
    have es : Dr.dm 1 f.tail = Dr.pslope f := by
      match f, hl with
      | [x], _ => exact absurd rfl c
      | x :: y :: g, _ => rfl
    rw [es] at k1
    exact q l H1 (slope_b hl hf) n_l g1 k1
def sp_seen_from (K : PySem.W.Frag) : Sp := fun vs H Q _ => ∃ (p : Int) (b : Addr) (f : List Int) (a e : Int) (m n : Nat), vs = [.int p, .ref b, .int a, .int e] ∧ SqL K H b (f.map V.int) ∧ (0 < f.length ∧ f.length ≤ 60) ∧ (2 ≤ p ∧ p < 1000) ∧ (0 ≤ e ∧ e < 1000) ∧ Dr.PolyB f m ∧ Dr.Sm a n ∧ (10 * e.toNat + 1 ≤ n ∧ n ≤ 15000 ∧ m ≤ 50000) ∧
  ∀ (c : Addr) (s : List Int) (H' : Hp), Dr.IsSeen f a (p ^ e.toNat) s → Dr.PolyB s (m + f.length * (n + 13)) → H c = none → Same H H' → H' c = some (.lst (s.map V.int)) → Q (.ref c) H'
theorem drop_init {f : List Int} (h : 0 < f.length) {i : Nat} {c : Int} (hc : f.dropLast.reverse[i]? = some c) : f.drop (f.length - 1 - (i + 1)) = c :: f.drop (f.length - 1 - i) := by
  have hi : i < f.dropLast.length := by
    have := (List.getElem?_eq_some_iff.mp hc).1
    simpa using this
  have hi' : i < f.length - 1 := by simpa using hi
  rw [List.getElem?_reverse hi, List.length_dropLast] at hc
  have h2 : f.length - 1 - (i + 1) < f.length := by omega
  rw [List.drop_eq_getElem_cons h2, show f.length - 1 - (i + 1) + 1 = f.length - 1 - i by omega]
  congr 1
  have h3 : f.length - 1 - 1 - i = f.length - 1 - (i + 1) := by omega
  rw [h3, List.getElem?_dropLast, if_pos (by omega), List.getElem?_eq_getElem h2] at hc
  exact Option.some.inj hc
theorem ok_seen_from (B : Bi mg K w) (d_power_of : Def P w K mg base "power_of" 1 ["p", "e"] (sp_power_of K)) (d_poly_product : Def P w K mg base "poly_product" 1 ["f", "g"] (sp_poly_product K)) (F : Fun K "seen_from" "seen_from" s_seen_from f fd) : FnOk P w K mg base CX0 2 f fd ["p", "f", "a", "e"] (sp_seen_from K) := by
  refine F.ok S_seen_from (fun vs H Q E h => ?_) (fun cdv A outer s H vs Q E hr h => ?_)
  · obtain ⟨p, b, f, a, e, m, n, rfl, _⟩ := h
    rfl
  obtain ⟨p, b, f, a, e, m, n, rfl, hS, hl, hp, he, hf, ha, hmn, q⟩ := h
  have S := S_seen_from
  refine ⟨_, ((pss_cons (ps_set (i := 4) S.nd rfl (Or.inl rfl) (pe_lst (pa_cons (pv 2) (pa_cons (pe_def d_power_of hr rfl (pa_cons (pv 0) (pa_cons (pv 3) pa_nil))) pa_nil))))
    (pss_cons (ps_set (i := 5) S.nd rfl (Or.inl rfl) (pe_lst (pa_cons (pe_ix ix_list (pv 1) (pe_un un_neg pe_int) (fun _ _ => rfl)) pa_nil)))
    (pss_cons (ps_for PassesOwn.never rfl (pi_rev rfl B.b_reversed (pe_slice sl_list (pv 1) po_none (po_some (pe_un un_neg pe_int)))) (pg_name (i := 6) S.nd rfl (Or.inl rfl)) (pss_cons (ps_set (i := 5) S.nd rfl (Or.inl rfl) (pe_def d_poly_product hr rfl (pa_cons (pv 5) (pa_cons (pv 4) pa_nil))))
    (pss_one (ps_augS (pv 5) pe_int get_list (pv 6) ip_add set_list))))
    (pss_one (ps_ret (pv 5))))))), ?_⟩
  have bp : Dr.Sm (p ^ e.toNat) n := (show Dr.Sm (p ^ e.toNat) (10 * e.toNat + 1) from pow_bits hp e.toNat).mono hmn.1
  have bps : Dr.PolyB [a, p ^ e.toNat] n := fun c hc => by
    rcases List.mem_cons.mp hc with w | w
    · rw [w]; exact ha
    · rw [List.mem_singleton.mp w]; exact bp
  (try dsimp only); (first | refine seqI ?_ | skip); try walk_at "dr2"; (try simp only [sp_power_of, sp_poly_product]); try walk_at "dr2"
  refine ⟨hp.1, hp.2, by omega, by omega, by decide, ?_⟩
  intro l1 n_l1; generalize e_l1 : upd _ l1 _ = H1; obtain ⟨g1, k1⟩ := newH e_l1 n_l1; clear e_l1
  have k1 : H1 l1 = some (.lst ([a, p ^ e.toNat].map V.int)) := k1
  obtain ⟨x0, hx0⟩ : ∃ x0, f.getLast? = some x0 := ⟨f.getLast (List.ne_nil_of_length_pos hl.1), List.getLast?_eq_some_getLast _⟩
  (try dsimp only); (first | refine seqI ?_ | skip); try walk_at "dr2"; (try simp only [sp_power_of, sp_poly_product]); try walk_at "dr2"
  refine ⟨_, g1.seq hS, _, atI_back hx0, by decide, ?_⟩
  intro l2 n_l2; generalize e_l2 : upd _ l2 _ = H2; obtain ⟨g2, k2⟩ := newH e_l2 n_l2; clear e_l2
  have k2 : H2 l2 = some (.lst ([x0].map V.int)) := k2
  (try dsimp only); (first | refine seqI ?_ | skip); try walk_at "dr2"; (try simp only [sp_power_of, sp_poly_product]); try walk_at "dr2"
  refine ⟨_, (g1.trans g2).seq hS, ?_⟩
  intro l3 n_l3; generalize e_l3 : upd _ l3 _ = H3; obtain ⟨g3, k3⟩ := newH e_l3 n_l3; clear e_l3
  rw [cut_init] at k3
  refine ⟨_, SqL.of k3, ?_⟩
  have G3 := g1.trans (g2.trans g3)
  have ed : f.drop (f.length - 1) = [x0] := by
    have h2 : f.length - 1 < f.length := by omega
    rw [List.drop_eq_getElem_cons h2, show f.length - 1 + 1 = f.length by omega, List.drop_length]
    rw [List.getLast?_eq_getElem?, List.getElem?_eq_getElem h2] at hx0
    rw [Option.some.inj hx0]
  obtain ⟨Pv, hPv⟩ : ∃ Pv : Nat → St → Hp → Prop, ∀ i σ H4, Pv i σ H4 ↔ (Same H3 H4 ∧ ∃ (c : Addr) (s : List Int) (t6 : Option V), H c = none ∧ H4 c = some (.lst (s.map V.int)) ∧ s.length = i + 1 ∧ Dr.PolyB s (m + i * (n + 13)) ∧ (∀ y, Dr.pev s y = Dr.pev (f.drop (f.length - 1 - i)) (a + p ^ e.toNat * y)) ∧ σ = [some (.int p), some (.ref b), some (.int a), some (.int e), some (.ref l1), some (.ref c), t6]) := ⟨_, fun _ _ _ => Iff.rfl⟩
  refine forV f.dropLast Pv (by rw [List.length_map]) ((hPv _ _ _).mpr ⟨Same.refl _, l2, [x0], none, g1.free n_l2, g3 _ _ k2, rfl, fun c hc => ?_, fun y => by rw [Nat.sub_zero, ed]; simp [Dr.pev], rfl⟩) (fun i σ H4 z => by obtain ⟨g, _⟩ := (hPv _ _ _).mp z; exact SqL.of (g _ _ k3)) ?_ ?_
  · rw [List.mem_singleton.mp hc]
    exact (hf x0 (List.mem_of_getLast? hx0)).mono (by omega)
  · intro i c σ H4 hc z
    obtain ⟨g4, lc, s, t6, nc, kc, hsl, hsb, hse, rfl⟩ := (hPv _ _ _).mp z
    have hi : i < f.length - 1 := by
      have := (List.getElem?_eq_some_iff.mp hc).1
      simpa using this
    have hib : i * (n + 13) ≤ 60 * 15013 := Nat.mul_le_mul (by omega) (by omega)
    (try dsimp only); (first | refine seqI ?_ | skip); try walk_at "dr2"; (try simp only [sp_power_of, sp_poly_product]); try walk_at "dr2"
    refine ⟨s, SqL.of kc, [a, p ^ e.toNat], SqL.of (g4 _ _ (g3 _ _ (g2 _ _ k1))), by omega, by omega, by simp, by simp, _, hsb, n, bps, by omega, by omega, fun lr r H5 hr hrb nr g5 kr => ?_⟩
    have hrl := hr.len
    simp only [List.length_cons, List.length_nil] at hrl
    obtain ⟨v, e1, _, e3, e4⟩ := get_int (fs := r) (k := 0) (by omega) (by omega)
    try walk_at "dr1"; (try simp only [sp_power_of, sp_poly_product]); try walk_at "dr1"
    refine ⟨_, SqL.of kr, _, e4, v, rfl, _, kr, _, e3, ?_⟩
    rw [set_int]
    have e0 : Int.toNat 0 = 0 := rfl
    rw [e0] at e1 ⊢
    have n3 := g4.free nr
    have hs1 : (i + 1) * (n + 13) = i * (n + 13) + (n + 13) := Nat.succ_mul ..
    refine (hPv _ _ _).mpr ⟨(g4.trans g5).up n3 _, lr, _, _, G3.free n3, upd_same, by rw [List.length_set]; omega, fun d hd => ?_, fun y => ?_, rfl⟩
    · rcases mem_set hd with w | w
      · exact (hrb d w).mono (by omega)
      · rw [w]
        exact ((hrb v (List.mem_of_getElem? e1)).add (hf c (List.dropLast_subset _ (List.mem_reverse.mp (List.mem_of_getElem? hc))))).mono (by omega)
    · rw [Dr.pev_set y c r 0 v e1, hr.ev, hse, drop_init hl.1 hc]
      simp only [Dr.pev, Int.pow_zero]
      generalize Dr.pev (List.drop (f.length - 1 - i) f) (a + p ^ e.toNat * y) = X
      generalize p ^ e.toNat = q
      grind
  · intro σ H4 z
    obtain ⟨g4, lc, s, t6, nc, kc, hsl, hsb, hse, rfl⟩ := (hPv _ _ _).mp z
    rw [List.length_dropLast] at hsl hsb hse
    try walk_at "dr1"; (try simp only [sp_power_of, sp_poly_product]); try walk_at "dr1"
    refine q lc s H4 ⟨by omega, fun y => ?_⟩ (fun c hc => (hsb c hc).mono ?_) nc (G3.trans g4) kc
    · rw [hse, Nat.sub_self, List.drop_zero]
    · exact Nat.add_le_add_left (Nat.mul_le_mul_right _ (by omega)) _
def sp_content_of (K : PySem.W.Frag) : Sp := fun vs H Q E => ∃ (p : Int) (b : Addr) (f : List Int), vs = [.int p, .ref b] ∧ SqL K H b (f.map V.int) ∧ f.length ≤ 60 ∧ (2 ≤ p ∧ p < 1000) ∧
  ((∃ c, c ∈ f ∧ c ≠ 0) → ∀ (c : Nat) (H' : Hp), Dr.IsCont p f c → Same H H' → Q (.int (c : Int)) H') ∧ ((∀ c, c ∈ f → c = 0) → ∀ H', Same H H' → E (.ref (clK K "NoDepth")) none H')
theorem all_beq {l : List Int} {p : Int} : ((l.map fun x => decide (x % p = 0)).all id = true) ↔ ∀ x, x ∈ l → x % p = 0 := by
  simp [List.all_map]
theorem cont_turn {p : Int} (hp : 2 ≤ p) {f l : List Int} {c : Nat} (e : f = l.map (p ^ c * ·)) (h : ∀ x, x ∈ l → x % p = 0) : f = (l.map (· / p)).map (p ^ (c + 1) * ·) := by
  rw [e, List.map_map]
  refine List.map_congr_left fun x hx => ?_
  have := Int.mul_ediv_add_emod x p
  rw [h x hx] at this
  simp only [Function.comp]
  rw [Int.pow_succ, Int.mul_assoc]
  congr 1
  omega
theorem cont_end {p : Int} (hp : 2 ≤ p) {f l : List Int} {c : Nat} (e : f = l.map (p ^ c * ·)) (h : ∃ x, x ∈ l ∧ x % p ≠ 0) : Dr.IsCont p f c := by
  have q0 := Dr.pow_pos hp c
  refine ⟨fun x hx => ?_, ?_⟩
  · rw [e, List.mem_map] at hx
    obtain ⟨y, _, rfl⟩ := hx
    simp
  · obtain ⟨x, hx, n⟩ := h
    refine ⟨p ^ c * x, by rw [e]; exact List.mem_map_of_mem hx, ?_⟩
    rw [Int.mul_ediv_cancel_left _ (by omega)]
    exact n
theorem comp_rest {K : PySem.W.Frag} {H : Hp} {a : Addr} {l : List Int} {p : Int} {σ : St} {Q : VK} {i : Nat} (hS : SqL K H a (l.map V.int)) (hl : l.length ≤ 60) (hp : 2 ≤ p) (hi : σ[i]? = some (some (.int p))) (q : ∀ r, H r = none → Q (.ref r) (upd H r (.lst ((l.map fun x => decide (x % p = 0)).map V.bl)))) :
    CompIt (Itl K a) [i] (fun _ H Q => Q true H) (tOp rEq (tOp (rI (fun _ j => 0 < j) fun i j => V.int (i % j)) (tVar 0) (tVar 1)) (tC (V.int 0))) σ H Q := by
  obtain ⟨Pc, hPc⟩ : ∃ Pc : Nat → List V → Hp → Prop, ∀ i ys H1, Pc i ys H1 ↔ (H1 = H ∧ ys = ((l.take i).map fun x => decide (x % p = 0)).map V.bl) := ⟨_, fun _ _ _ => Iff.rfl⟩
  refine compI l Pc (by unfold sizeLine; omega) ((hPc _ _ _).mpr ⟨rfl, by simp⟩) (fun i ys H4 z => by obtain ⟨rfl, _⟩ := (hPc _ _ _).mp z; exact hS) ?_ ?_
  · intro j c ys H1 hc z
    obtain ⟨rfl, rfl⟩ := (hPc _ _ _).mp z
    simp only [capV, List.map_cons, List.map_nil, hi, Option.getD_some]
    try walk_at "dr1"
    refine ⟨by omega, (hPc _ _ _).mpr ⟨rfl, ?_⟩⟩
    rw [List.take_add_one, hc, List.map_append, List.map_append]
    simp
  · intro ys H1 z
    obtain ⟨rfl, rfl⟩ := (hPc _ _ _).mp z
    intro r hr
    have := q r hr
    rw [List.take_length]
    exact this
theorem comp_div {K : PySem.W.Frag} {H : Hp} {a : Addr} {l : List Int} {p : Int} {σ : St} {Q : VK} {i : Nat} (hS : SqL K H a (l.map V.int)) (hl : l.length ≤ 60) (hp : CDivW 0 p) (hi : σ[i]? = some (some (.int p))) (q : ∀ r, H r = none → Q (.ref r) (upd H r (.lst ((l.map (· / p)).map V.int)))) :
    CompIt (Itl K a) [i] (fun _ H Q => Q true H) (tOp (rI CDivW fun i j => V.int (i / j)) (tVar 0) (tVar 1)) σ H Q := by
  obtain ⟨Pc, hPc⟩ : ∃ Pc : Nat → List V → Hp → Prop, ∀ i ys H1, Pc i ys H1 ↔ (H1 = H ∧ ys = ((l.take i).map (· / p)).map V.int) := ⟨_, fun _ _ _ => Iff.rfl⟩
  refine compI l Pc (by unfold sizeLine; omega) ((hPc _ _ _).mpr ⟨rfl, by simp⟩) (fun i ys H4 z => by obtain ⟨rfl, _⟩ := (hPc _ _ _).mp z; exact hS) ?_ ?_
  · intro j c ys H1 hc z
    obtain ⟨rfl, rfl⟩ := (hPc _ _ _).mp z
    simp only [capV, List.map_cons, List.map_nil, hi, Option.getD_some]
    try walk_at "dr1"
    refine ⟨hp, (hPc _ _ _).mpr ⟨rfl, ?_⟩⟩
    rw [List.take_add_one, hc, List.map_append, List.map_append]
    simp
  · intro ys H1 z
    obtain ⟨rfl, rfl⟩ := (hPc _ _ _).mp z
    intro r hr
    have := q r hr
    rw [List.take_length]
    exact this
theorem turn_nat {p y : Int} (hp : 2 ≤ p) (hy : y ≠ 0) (h : y % p = 0) : y / p ≠ 0 ∧ (y / p).natAbs < y.natAbs := by
  have e1 : y = p * (y / p) := by have := Int.mul_ediv_add_emod y p; omega
  have n0 : y / p ≠ 0 := fun z => by rw [z] at e1; simp at e1; exact hy e1
  refine ⟨n0, ?_⟩
  have e2 : y.natAbs = p.natAbs * (y / p).natAbs := by rw [← Int.natAbs_mul, ← e1]
  have l1 : 2 * (y / p).natAbs ≤ p.natAbs * (y / p).natAbs := Nat.mul_le_mul_right _ (by omega)
  omega
theorem ok_content_of (B : Bi mg K w) (d_degree_of : Def P w K mg base "degree_of" 1 ["f"] (sp_degree_of K)) (F : Fun K "content_of" "content_of" s_content_of f fd) : FnOk P w K mg base (CXE P w) 2 f fd ["p", "f"] (sp_content_of K) := by
  refine F.okE S_content_of (fun vs H Q E h => ?_) (fun cdv A outer s H vs Q E hr h => ?_)
  · obtain ⟨p, b, f, rfl, _⟩ := h
    rfl
  obtain ⟨p, b, f, rfl, hS, hl, hp, q, qx⟩ := h
  have S := S_content_of
  refine ⟨_, ((pss_cons (ps_if (pt_cmpR op_eq (pe_def d_degree_of hr rfl (pa_cons (pv 1) pa_nil)) (pe_un un_neg pe_int) (nomark _)) (pss_one (ps_raise thrE rfl rfl B.c_NoDepth B.x_NoDepth (pa_cons pe_str pa_nil))) pss_nil)
    (pss_cons (ps_set (i := 2) S.nd rfl (Or.inl rfl) pe_int)
    (pss_cons (ps_set (i := 3) S.nd rfl (Or.inl rfl) (pv 1))
    (pss_cons (ps_nox (ps_while PassesOwn.never (pt_val (pe_callB (call_allB rfl) rfl B.b_all bt_all (pa_cons (pe_comp [0] ["p"] rfl rfl ⟨rfl, trivial⟩ ⟨rfl, rfl, rfl, rfl, trivial⟩ rfl rfl (by decide) (by decide) rfl rfl (by decide) (pi_list (pv 3)) (fun _ _ _ _ => pts_nil) (fun _ _ _ _ => (pe_cmpR op_eq (pe_op op_mod (pv 0) (pv 1)) pe_int (nomark _)))) pa_nil))) (pss_cons (ps_comp [0] ["p"] rfl S.nd (k := 3) rfl rfl rfl rfl ⟨rfl, trivial⟩ ⟨rfl, rfl, rfl, rfl, trivial⟩ rfl rfl (by decide) (by decide) rfl rfl (by decide) (pi_list (pv 3)) (fun _ _ _ _ => pts_nil) (fun _ _ _ _ => (pe_op op_fdivW (pv 0) (pv 1))))
    (pss_one (ps_aug (i := 2) S.nd rfl (Or.inl rfl) pe_int ip_add)))))
    (pss_one (ps_ret (pv 2)))))))), ?_⟩
  (try dsimp only); (first | refine seqI ?_ | skip); try walk_at "dr2"; (try simp only [sp_degree_of]); try walk_at "dr2"
  refine ⟨f, hS, fun d H1 hd g1 => ite2 (fun c => ⟨by decide, ?_⟩) (fun c => ?_)⟩
  · rcases hd with ⟨_, z⟩ | ⟨k, _, z, _⟩
    · exact qx z H1 g1
    · omega
  obtain ⟨k, x0, e0, ek, hx0⟩ : ∃ (k : Nat) (x0 : Int), d = (k : Int) ∧ f[k]? = some x0 ∧ x0 ≠ 0 := by
    rcases hd with ⟨z, _⟩ | ⟨k, x0, z, z1, z2, _⟩
    · exact absurd z c
    · exact ⟨k, x0, z, z1, z2⟩
  have q := q ⟨x0, List.mem_of_getElem? ek, hx0⟩
  (try dsimp only); (first | refine seqI ?_ | skip); try walk_at "dr2"; (try simp only [sp_degree_of]); try walk_at "dr2"
  (try dsimp only); (first | refine seqI ?_ | skip); try walk_at "dr2"; (try simp only [sp_degree_of]); try walk_at "dr2"
  refine seqI ?_
  obtain ⟨W, hW⟩ : ∃ W : Nat → St → Hp → Prop, ∀ m' σ H2, W m' σ H2 ↔ (Same H1 H2 ∧ ∃ (a : Addr) (l : List Int) (c : Nat) (y : Int), SqL K H2 a (l.map V.int) ∧ l.length = f.length ∧ f = l.map (p ^ c * ·) ∧ l[k]? = some y ∧ y ≠ 0 ∧ m' = y.natAbs ∧ σ = [some (.int p), some (.ref b), some (.int (c : Int)), some (.ref a)]) := ⟨_, fun _ _ _ => Iff.rfl⟩
  refine whB W x0.natAbs ((hW _ _ _).mpr ⟨Same.refl _, b, f, 0, x0, g1.seq hS, rfl, by simp, ek, hx0, rfl, rfl⟩) ?_
  intro m' σ H2 z
  obtain ⟨g2, a, l, c, y, hS2, hll, ef, ey, hy, rfl, rfl⟩ := (hW _ _ _).mp z
  try walk_at "dr1"; (try simp only [sp_degree_of]); try walk_at "dr1"
  refine ⟨⟨_, hS2⟩, comp_rest hS2 (by omega) hp.1 rfl ?_⟩
  intro r n_r; generalize e_r : upd _ r _ = H3; obtain ⟨g3, k3⟩ := newH e_r n_r; clear e_r
  refine ⟨_, rfl, _, SqL.of k3, ?_⟩
  try walk_at "dr1"; (try simp only [sp_degree_of]); try walk_at "dr1"
  refine ite2 (fun c0 => ?_) (fun c0 => ?_)
  · have hall := all_beq.mp c0
    refine ⟨_, fun _ _ h => h, ?_⟩
    try walk_at "dr1"; (try simp only [sp_degree_of]); try walk_at "dr1"
    refine ⟨⟨_, g3.seq hS2⟩, comp_div (g3.seq hS2) (by omega) (log_small hp) rfl ?_⟩
    intro r4 n_r4; generalize e_r4 : upd _ r4 _ = H4; obtain ⟨g4, k4⟩ := newH e_r4 n_r4; clear e_r4
    have t := turn_nat hp.1 hy (hall y (List.mem_of_getElem? ey))
    exact ⟨_, t.2, (hW _ _ _).mpr ⟨g2.trans (g3.trans g4), r4, l.map (· / p), c + 1, y / p, SqL.of k4, by rw [List.length_map]; exact hll, cont_turn hp.1 ef hall, by rw [List.getElem?_map, ey]; rfl, t.1, rfl, rfl⟩⟩
  · refine q c H3 (cont_end hp.1 ef ?_) (g1.trans (g2.trans g3))
    refine Decidable.byContradiction fun hno => c0 (all_beq.mpr fun x hx => Decidable.byContradiction fun hx' => hno ⟨x, hx, hx'⟩)
def sp_without_content (K : PySem.W.Frag) : Sp := fun vs H Q E => ∃ (p : Int) (b : Addr) (f : List Int) (m : Nat), vs = [.int p, .ref b] ∧ SqL K H b (f.map V.int) ∧ f.length ≤ 60 ∧ (2 ≤ p ∧ p < 1000) ∧ Dr.PolyB f m ∧ m ≤ 8900 ∧
  ((∀ c, c ∈ f → c = 0) → ∀ H', Same H H' → E (.ref (clK K "NoDepth")) none H') ∧ ((∃ c, c ∈ f ∧ c ≠ 0) → ∀ (c : Nat) (r : Addr) (H' : Hp), Dr.IsCont p f c → H r = none → Same H H' → H' r = some (.lst ((Dr.pdiv (p ^ c) f).map V.int)) → Q (.ref r) H')
theorem cont_lt {p : Int} {f : List Int} {c m : Nat} (hp : 2 ≤ p) (h : ∃ x, x ∈ f ∧ x ≠ 0) (hc : Dr.IsCont p f c) (hb : Dr.PolyB f m) : (p ^ c).natAbs < 2 ^ m := by
  obtain ⟨x, hx, n⟩ := h
  obtain ⟨k, e⟩ := Int.dvd_of_emod_eq_zero (hc.1 x hx)
  have k0 : k ≠ 0 := fun z => by
    rw [z, Int.mul_zero] at e
    exact n e
  have h1 := hb x hx
  unfold Dr.Sm at h1
  have h2 : x.natAbs = (p ^ c).natAbs * k.natAbs := by rw [← Int.natAbs_mul, ← e]
  have h3 : (p ^ c).natAbs * 1 ≤ (p ^ c).natAbs * k.natAbs := Nat.mul_le_mul_left _ (by omega)
  omega
theorem cont_bound {p : Int} {f : List Int} {c m : Nat} (hp : 2 ≤ p) (h : ∃ x, x ∈ f ∧ x ≠ 0) (hc : Dr.IsCont p f c) (hb : Dr.PolyB f m) : c < m + 1 := by
  have h1 := cont_lt hp h hc hb
  have h2 := Dr.two_pow_le hp c
  have h3 : 2 ^ c < 2 ^ m := by omega
  have := (Nat.pow_lt_pow_iff_right (show 1 < 2 by decide)).mp h3
  omega
theorem ok_without_content (B : Bi mg K w) (d_power_of : Def P w K mg base "power_of" 1 ["p", "e"] (sp_power_of K)) (d_content_of : DefE P w K mg base "content_of" 2 ["p", "f"] (sp_content_of K)) (F : Fun K "without_content" "without_content" s_without_content f fd) : FnOk P w K mg base (CXE P w) 3 f fd ["p", "f"] (sp_without_content K) := by
  refine F.okE S_without_content (fun vs H Q E h => ?_) (fun cdv A outer s H vs Q E hr h => ?_)
  · obtain ⟨p, b, f, m, rfl, _⟩ := h
    rfl
  obtain ⟨p, b, f, m, rfl, hS, hl, hp, hb, hm, qe, q⟩ := h
  have S := S_without_content
  refine ⟨_, ((pss_cons (ps_set (i := 2) S.nd rfl (Or.inr rfl) (pe_def d_power_of hr rfl (pa_cons (pv 0) (pa_cons (pe_defE passE d_content_of hr rfl (pa_cons (pv 0) (pa_cons (pv 1) pa_nil))) pa_nil))))
    (pss_one (ps_ret (pe_comp [2] ["power"] rfl rfl ⟨rfl, trivial⟩ ⟨rfl, rfl, rfl, rfl, trivial⟩ rfl rfl (by decide) (by decide) rfl rfl (by decide) (pi_list (pv 1)) (fun _ _ _ _ => pts_nil) (fun _ _ _ _ => (pe_op op_fdivW (pv 0) (pv 1)))))))), ?_⟩
  (try dsimp only); (first | refine seqI ?_ | skip); try walk_at "dr2"; (try simp only [sp_power_of, sp_content_of]); try walk_at "dr2"
  refine ⟨f, hS, hl, hp.1, hp.2, fun hne c H1 hc g1 => ⟨hp.1, hp.2, by omega, ?_, ?_⟩, qe⟩
  · have := cont_bound hp.1 hne hc hb
    omega
  · try walk_at "dr1"; (try simp only [sp_power_of, sp_content_of]); try walk_at "dr1"
    refine ⟨⟨_, g1.seq hS⟩, ?_⟩
    rw [Int.toNat_natCast]
    refine comp_div (p := p ^ c) (g1.seq hS) hl ⟨Dr.pow_pos hp.1 c, ?_⟩ rfl ?_
    · have h1 := cont_lt hp.1 hne hc hb
      have h2 : (2 : Nat) ^ m ≤ 2 ^ 8999 := Nat.pow_le_pow_right (by decide) (by omega)
      have h3 := Dr.pow_pos hp.1 c
      have : (p ^ c).natAbs.log2 < 8999 := (Nat.log2_lt (by omega)).mpr (Nat.lt_of_lt_of_le h1 h2)
      omega
    · intro r n_r; generalize e_r : upd _ r _ = H2; obtain ⟨g2, k2⟩ := newH e_r n_r; clear e_r
      exact q hne c r H2 hc (g1.free n_r) (g1.trans g2) k2
def restsOf (p : Int) (f : List Int) : List Int := ((List.range p.toNat).map fun k : Nat => (k : Int)).filter fun r => decide (Dr.pev f r % p = 0)
def sp_rests_by_prime (K : PySem.W.Frag) : Sp := fun vs H Q _ => ∃ (p : Int) (b : Addr) (f : List Int), vs = [.int p, .ref b] ∧ SqL K H b (f.map V.int) ∧ f.length ≤ 60 ∧ (2 ≤ p ∧ p < 1000) ∧
  ∀ (r : Addr) (H' : Hp), H r = none → Same H H' → H' r = some (.lst ((restsOf p f).map V.int)) → Q (.ref r) H'
theorem comp_mod {K : PySem.W.Frag} {H : Hp} {a : Addr} {l : List Int} {p : Int} {σ : St} {Q : VK} {i : Nat} (hS : SqL K H a (l.map V.int)) (hl : l.length ≤ 60) (hp : 0 < p) (hi : σ[i]? = some (some (.int p))) (q : ∀ r, H r = none → Q (.ref r) (upd H r (.lst ((l.map (· % p)).map V.int)))) :
    CompIt (Itl K a) [i] (fun _ H Q => Q true H) (tOp (rI (fun _ j => 0 < j) fun i j => V.int (i % j)) (tVar 0) (tVar 1)) σ H Q := by
  obtain ⟨Pc, hPc⟩ : ∃ Pc : Nat → List V → Hp → Prop, ∀ i ys H1, Pc i ys H1 ↔ (H1 = H ∧ ys = ((l.take i).map (· % p)).map V.int) := ⟨_, fun _ _ _ => Iff.rfl⟩
  refine compI l Pc (by unfold sizeLine; omega) ((hPc _ _ _).mpr ⟨rfl, by simp⟩) (fun i ys H4 z => by obtain ⟨rfl, _⟩ := (hPc _ _ _).mp z; exact hS) ?_ ?_
  · intro j c ys H1 hc z
    obtain ⟨rfl, rfl⟩ := (hPc _ _ _).mp z
    simp only [capV, List.map_cons, List.map_nil, hi, Option.getD_some]
    try walk_at "dr1"
    refine ⟨hp, (hPc _ _ _).mpr ⟨rfl, ?_⟩⟩
    rw [List.take_add_one, hc, List.map_append, List.map_append]
    simp
  · intro ys H1 z
    obtain ⟨rfl, rfl⟩ := (hPc _ _ _).mp z
    intro r hr
    have := q r hr
    rw [List.take_length]
    exact this
theorem pev_mods {p x : Int} : ∀ f : List Int, (Dr.pev (f.map (· % p)) x - Dr.pev f x) % p = 0
  | [] => by simp [Dr.pev]
  | a :: f => by
    have ih := pev_mods (p := p) (x := x) f
    have h1 := Dr.dvd_add_of (Dr.rest_sub p a) (Dr.dvd_mul_l x ih)
    simp only [List.map_cons, Dr.pev]
    rw [Int.mul_sub] at h1
    have e : a % p + x * Dr.pev (f.map (· % p)) x - (a + x * Dr.pev f x) = a % p - a + (x * Dr.pev (f.map (· % p)) x - x * Dr.pev f x) := by omega
    rw [e]
    exact h1
theorem pev_mods_iff {p x : Int} (f : List Int) : Dr.pev (f.map (· % p)) x % p = 0 ↔ Dr.pev f x % p = 0 := by
  have h := pev_mods (p := p) (x := x) f
  constructor
  · intro z
    have := Dr.dvd_sub_of z h
    rwa [show Dr.pev (f.map (· % p)) x - (Dr.pev (f.map (· % p)) x - Dr.pev f x) = Dr.pev f x by omega] at this
  · intro z
    have := Dr.dvd_add_of h z
    rwa [Int.sub_add_cancel] at this
def restsTo (p : Int) (f : List Int) (n : Nat) : List Int := ((List.range n).map fun k : Nat => (k : Int)).filter fun r => decide (Dr.pev f r % p = 0)
theorem restsTo_succ (p : Int) (f : List Int) (n : Nat) : restsTo p f (n + 1) = restsTo p f n ++ if Dr.pev f (n : Int) % p = 0 then [(n : Int)] else [] := by
  unfold restsTo
  rw [List.range_succ, List.map_append, List.filter_append]
  congr 1
  by_cases z : Dr.pev f (n : Int) % p = 0
  · simp [z]
  · simp [z]
theorem ok_rests_by_prime (B : Bi mg K w) (d_worth_at : Def P w K mg base "worth_at" 1 ["f", "x"] (sp_worth_at K)) (F : Fun K "rests_by_prime" "rests_by_prime" s_rests_by_prime f fd) : FnOk P w K mg base CX0 2 f fd ["p", "f"] (sp_rests_by_prime K) := by
  refine F.ok S_rests_by_prime (fun vs H Q E h => ?_) (fun cdv A outer s H vs Q E hr h => ?_)
  · obtain ⟨p, b, f, rfl, _⟩ := h
    rfl
  obtain ⟨p, b, f, rfl, hS, hl, hp, q⟩ := h
  have S := S_rests_by_prime
  refine ⟨_, ((pss_cons (ps_set (i := 2) S.nd rfl (Or.inr rfl) (pe_comp [0] ["p"] rfl rfl ⟨rfl, trivial⟩ ⟨rfl, rfl, rfl, rfl, trivial⟩ rfl rfl (by decide) (by decide) rfl rfl (by decide) (pi_list (pv 1)) (fun _ _ _ _ => pts_nil) (fun _ _ _ _ => (pe_op op_mod (pv 0) (pv 1)))))
    (pss_one (ps_ret (pe_comp [0, 2] ["p", "small"] rfl rfl ⟨rfl, rfl, trivial⟩ ⟨rfl, rfl, rfl, rfl, rfl, rfl, rfl, rfl, trivial⟩ rfl rfl (by decide) (by decide) rfl rfl (by decide) (pi_range1 rfl B.b_range (pa_cons (pv 0) pa_nil)) (fun _ _ _ _ => (pts_one (pt_cmpR op_eq (pe_op op_mod (pe_def d_worth_at hr rfl (pa_cons (pv 2) (pa_cons (pv 0) pa_nil))) (pv 1)) pe_int (nomark _)))) (fun _ _ _ _ => (pv 0))))))), ?_⟩
  (try dsimp only); (first | refine seqI ?_ | skip); try walk_at "dr2"; (try simp only [sp_worth_at]); try walk_at "dr2"
  refine ⟨⟨_, hS⟩, comp_mod hS hl (by omega) rfl ?_⟩
  intro ls n_ls; generalize e_ls : upd _ ls _ = H1; obtain ⟨g1, k1⟩ := newH e_ls n_ls; clear e_ls
  have bs : Dr.PolyB (f.map (· % p)) 10 := fun c hc => by
    obtain ⟨x, _, rfl⟩ := List.mem_map.mp hc
    have := mod_in x (show 0 < p by omega)
    exact sm_of 1000 (by omega) (by decide)
  refine ⟨by omega, by omega, ?_⟩
  obtain ⟨Pc, hPc⟩ : ∃ Pc : Nat → List V → Hp → Prop, ∀ i ys H2, Pc i ys H2 ↔ (H2 = H1 ∧ ys = (restsTo p f i).map V.int) := ⟨_, fun _ _ _ => Iff.rfl⟩
  refine compR Pc (by unfold sizeLine; omega) ((hPc _ _ _).mpr ⟨rfl, rfl⟩) ?_ ?_
  · intro i ys H2 hi z
    obtain ⟨rfl, rfl⟩ := (hPc _ _ _).mp z
    try walk_at "dr1"; (try simp only [sp_worth_at]); try walk_at "dr1"
    refine ⟨_, SqL.of k1, by rw [List.length_map]; omega, 10, bs, 10, sm_of 1000 (by omega) (by decide), by decide, by decide, by omega, ?_⟩
    rw [Int.zero_add]
    by_cases w : Dr.pev f (i : Int) % p = 0
    · rw [if_pos ((pev_mods_iff f).mpr w)]
      exact (hPc _ _ _).mpr ⟨rfl, by rw [restsTo_succ, if_pos w, List.map_append]; rfl⟩
    · rw [if_neg fun z => w ((pev_mods_iff f).mp z)]
      exact (hPc _ _ _).mpr ⟨rfl, by rw [restsTo_succ, if_neg w, List.append_nil]⟩
  · intro ys H2 z
    obtain ⟨rfl, rfl⟩ := (hPc _ _ _).mp z
    intro r n_r; generalize e_r : upd _ r _ = H3; obtain ⟨g3, k3⟩ := newH e_r n_r; clear e_r
    exact q r H3 (g1.free n_r) (g1.trans g3) k3
theorem Single.uniq {p : Int} {f : List Int} {a u v : Int} {d e : Nat} (hp : 2 ≤ p) (h : Dr.Single p f a d u) (h' : Dr.Single p f a e v) : d = e := (h.fac.uniq hp h'.fac).1
def Told (p : Int) (f : List Int) (a : Int) (Q : V → Prop) : Prop := (∀ (d : Nat) (u : Int), Dr.Single p f a d u → d ≤ 100000 → Q (.int (d : Int))) ∧ ((∀ (d : Nat) (u : Int), ¬ Dr.Single p f a d u) → Q .non)
def sp_single_depth (K : PySem.W.Frag) : Sp := fun vs H Q _ => ∃ (p : Int) (b : Addr) (f : List Int) (a : Int) (m n : Nat), vs = [.int p, .ref b, .int a] ∧ SqL K H b (f.map V.int) ∧ (0 < f.length ∧ f.length ≤ 13) ∧ Dr.PolyB f m ∧ Dr.Sm a n ∧ (m ≤ 9000 ∧ n ≤ 1400) ∧ (2 ≤ p ∧ p < 1000) ∧ ∀ H', Same H H' → Told p f a (fun v => Q v H')
theorem ok_single_depth (B : Bi mg K w) (d_depth_of : Def P w K mg base "depth_of" 1 ["p", "x"] (sp_depth_of K)) (d_power_of : Def P w K mg base "power_of" 1 ["p", "e"] (sp_power_of K)) (d_worth_at : Def P w K mg base "worth_at" 1 ["f", "x"] (sp_worth_at K)) (d_slope_of : Def P w K mg base "slope_of" 1 ["f"] (sp_slope_of K)) (F : Fun K "single_depth" "single_depth" s_single_depth f fd) : FnOk P w K mg base CX0 2 f fd ["p", "f", "a"] (sp_single_depth K) := by
  refine F.ok S_single_depth (fun vs H Q E h => ?_) (fun cdv A outer s H vs Q E hr h => ?_)
  · obtain ⟨p, b, f, a, m, n, rfl, _⟩ := h
    rfl
  obtain ⟨p, b, f, a, m, n, rfl, hS, hl, hf, ha, hmn, hp, q⟩ := h
  have S := S_single_depth
  refine ⟨_, ((pss_cons (ps_set (i := 3) S.nd rfl (Or.inl rfl) (pe_def d_worth_at hr rfl (pa_cons (pe_def d_slope_of hr rfl (pa_cons (pv 1) pa_nil)) (pa_cons (pv 2) pa_nil))))
    (pss_cons (ps_if (pt_cmpR op_eq (pv 3) pe_int (nomark _)) (pss_one (ps_ret pe_non)) pss_nil)
    (pss_cons (ps_set (i := 4) S.nd rfl (Or.inl rfl) (pe_def d_depth_of hr rfl (pa_cons (pv 0) (pa_cons (pv 3) pa_nil))))
    (pss_cons (ps_if (pt_cmpR op_ne (pe_op op_mod (pe_def d_worth_at hr rfl (pa_cons (pv 1) (pa_cons (pv 2) pa_nil))) (pe_def d_power_of hr rfl (pa_cons (pv 0) (pa_cons (pe_op op_add (pe_op op_mulW pe_int (pv 4)) pe_int) pa_nil)))) pe_int (nomark _)) (pss_one (ps_ret pe_non)) pss_nil)
    (pss_one (ps_ret (pv 4)))))))), ?_⟩
  (try dsimp only); (first | refine seqI ?_ | skip); try walk_at "dr2"; (try simp only [sp_depth_of, sp_power_of, sp_worth_at, sp_slope_of]); try walk_at "dr2"
  refine ⟨f, hS, by omega, by omega, m, hf, by omega, fun c H1 hsb _ g1 k1 => ?_⟩
  have sl : (Dr.pslope f).length ≤ 13 := by rw [Dr.pslope_len hl.1]; omega
  refine ⟨Dr.pslope f, SqL.of k1, by omega, m + 6, hsb, n, ha, by omega, by omega, ?_⟩
  rw [Dr.pev_slope hl.1]
  have bd : Dr.Sm (Dr.pdv f a) 30000 := by
    rw [← Dr.pev_slope hl.1]
    refine (ha.pev hsb).mono ?_
    have : (Dr.pslope f).length * (n + 1) ≤ 13 * 1401 := Nat.mul_le_mul sl (by omega)
    omega
  (try dsimp only); (first | refine seqI ?_ | skip); try walk_at "dr2"; (try simp only [sp_depth_of, sp_power_of, sp_worth_at, sp_slope_of]); try walk_at "dr2"
  refine ite2 (fun c0 => ?_) (fun c0 => ?_)
  · exact (q H1 g1).2 fun d u hs => hs.fac.ne hp.1 c0
  (try dsimp only); (first | refine seqI ?_ | skip); try walk_at "dr2"; (try simp only [sp_depth_of, sp_power_of, sp_worth_at, sp_slope_of]); try walk_at "dr2"
  refine ⟨hp.1, hp.2, c0, fun d u hd => ?_⟩
  have hd2 : d < 30000 := hd.depth_lt hp.1 bd
  (try dsimp only); (first | refine seqI ?_ | skip); try walk_at "dr2"; (try simp only [sp_depth_of, sp_power_of, sp_worth_at, sp_slope_of]); try walk_at "dr2"
  refine ⟨f, g1.seq hS, by omega, m, hf, n, ha, by omega, by omega, IntMulOk.of_left (by decide), hp.1, hp.2, by omega, by omega, Dr.pow_pos hp.1 _, ?_⟩
  have e2 : (2 * (d : Int) + 1).toNat = 2 * d + 1 := by omega
  rw [e2]
  refine ite2 (fun c1 => ?_) (fun c1 => ?_)
  · refine (q H1 g1).2 fun d' u' hs => c1 ?_
    have := (hs.fac.uniq hp.1 hd).1
    rw [← this]
    exact hs.deep
  · exact (q H1 g1).1 d u ⟨hd, Decidable.byContradiction fun z => c1 z⟩ (by omega)
def sp_deepened (K : PySem.W.Frag) : Sp := fun vs H Q _ => ∃ (p : Int) (b : Addr) (f : List Int) (a N : Int) (d m n : Nat) (u : Int), vs = [.int p, .ref b, .int a, .int (d : Int), .int N] ∧ SqL K H b (f.map V.int) ∧ (0 < f.length ∧ f.length ≤ 13) ∧ p ∈ Dr.primes ∧ Dr.PolyB f m ∧ Dr.Sm a n ∧ (m ≤ 9000 ∧ n ≤ 1400) ∧ Dr.Single p f a d u ∧ Dr.Sm (p ^ d) 4000 ∧ ((d : Int) + 1 < N ∧ N ≤ 60) ∧
  ∀ (r : Int) (H' : Hp), Same H H' → Dr.Root p f a d N.toNat r → Q (.int r) H'
theorem ok_deepened (B : Bi mg K w) (d_power_of : Def P w K mg base "power_of" 1 ["p", "e"] (sp_power_of K)) (d_inverse_of : Def P w K mg base "inverse_of" 2 ["p", "e", "x"] (sp_inverse_of K)) (d_worth_at : Def P w K mg base "worth_at" 1 ["f", "x"] (sp_worth_at K)) (d_slope_of : Def P w K mg base "slope_of" 1 ["f"] (sp_slope_of K)) (F : Fun K "deepened" "deepened" s_deepened f fd) : FnOk P w K mg base CX0 3 f fd ["p", "f", "a", "d", "N"] (sp_deepened K) := by
  refine F.ok S_deepened (fun vs H Q E h => ?_) (fun cdv A outer s H vs Q E hr h => ?_)
  · obtain ⟨p, b, f, a, N, d, m, n, u, rfl, _⟩ := h
    rfl
  obtain ⟨p, b, f, a, N, d, m, n, u, rfl, hS, hl, hpp, hf, ha, hmn, hs, bd, hN, q⟩ := h
  have S := S_deepened
  have p2 := Dr.primes_ge hpp
  have hp : 2 ≤ p ∧ p < 1000 := by omega
  refine ⟨_, ((pss_cons (ps_set (i := 5) S.nd rfl (Or.inl rfl) (pe_def d_power_of hr rfl (pa_cons (pv 0) (pa_cons (pe_op op_add (pv 3) pe_int) pa_nil))))
    (pss_cons (ps_set (i := 6) S.nd rfl (Or.inl rfl) (pe_def d_power_of hr rfl (pa_cons (pv 0) (pa_cons (pe_op op_add (pe_op op_mulW pe_int (pv 3)) pe_int) pa_nil))))
    (pss_cons (ps_set (i := 7) S.nd rfl (Or.inl rfl) (pe_op op_mod (pv 2) (pv 5)))
    (pss_cons (ps_set (i := 8) S.nd rfl (Or.inl rfl) (pe_def d_inverse_of hr rfl (pa_cons (pv 0) (pa_cons pe_int (pa_cons (pe_op op_fdivW (pe_def d_worth_at hr rfl (pa_cons (pe_def d_slope_of hr rfl (pa_cons (pv 1) pa_nil)) (pa_cons (pv 2) pa_nil))) (pe_def d_power_of hr rfl (pa_cons (pv 0) (pa_cons (pv 3) pa_nil)))) pa_nil)))))
    (pss_cons (ps_for PassesOwn.never rfl (pi_range2 rfl B.b_range (pa_cons (pe_op op_add (pv 3) pe_int) (pa_cons (pv 4) pa_nil))) (pg_name (i := 9) S.nd rfl (Or.inl rfl)) (pss_cons (ps_set (i := 10) S.nd rfl (Or.inl rfl) (pe_op op_mod (pe_op op_mulW (pe_un un_neg (pe_op op_fdivW (pe_def d_worth_at hr rfl (pa_cons (pv 1) (pa_cons (pv 7) pa_nil))) (pv 6))) (pv 8)) (pv 0)))
    (pss_cons (ps_set (i := 7) S.nd rfl (Or.inl rfl) (pe_op op_add (pv 7) (pe_op op_mulW (pv 10) (pv 5))))
    (pss_cons (ps_set (i := 5) S.nd rfl (Or.inl rfl) (pe_op op_mulW (pv 5) (pv 0)))
    (pss_one (ps_set (i := 6) S.nd rfl (Or.inl rfl) (pe_op op_mulW (pv 6) (pv 0))))))))
    (pss_one (ps_ret (pv 7))))))))), ?_⟩
  have bp : Dr.Sm p 10 := sm_of 1000 (by omega) (by decide)
  have pos : ∀ k : Nat, 0 < p ^ k := fun k => Dr.pow_pos hp.1 k
  (try dsimp only); (first | refine seqI ?_ | skip); try walk_at "dr2"; (try simp only [sp_power_of, sp_inverse_of, sp_worth_at, sp_slope_of]); try walk_at "dr2"
  refine ⟨hp.1, hp.2, by omega, by omega, ?_⟩
  rw [show ((d : Int) + 1).toNat = d + 1 by omega]
  (try dsimp only); (first | refine seqI ?_ | skip); try walk_at "dr2"; (try simp only [sp_power_of, sp_inverse_of, sp_worth_at, sp_slope_of]); try walk_at "dr2"
  refine ⟨IntMulOk.of_left (by decide), hp.1, hp.2, by omega, by omega, ?_⟩
  rw [show (2 * (d : Int) + 1).toNat = 2 * d + 1 by omega]
  (try dsimp only); (first | refine seqI ?_ | skip); try walk_at "dr2"; (try simp only [sp_power_of, sp_inverse_of, sp_worth_at, sp_slope_of]); try walk_at "dr2"
  refine ⟨pos _, ?_⟩
  (try dsimp only); (first | refine seqI ?_ | skip); try walk_at "dr2"; (try simp only [sp_power_of, sp_inverse_of, sp_worth_at, sp_slope_of]); try walk_at "dr2"
  refine ⟨f, hS, by omega, by omega, m, hf, by omega, fun c H1 hsb _ g1 k1 => ?_⟩
  have sl : (Dr.pslope f).length ≤ 13 := by rw [Dr.pslope_len hl.1]; omega
  refine ⟨Dr.pslope f, SqL.of k1, by omega, m + 6, hsb, n, ha, by omega, by omega, hp.1, hp.2, by omega, by omega, ?_⟩
  rw [Dr.pev_slope hl.1, Int.toNat_natCast]
  have cdiv : ∀ {x : Int} {k : Nat}, 0 < x → Dr.Sm x k → k ≤ 8999 → ∀ y, CDivW y x := fun {x k} h1 h2 h3 y => ⟨h1, by
    have := (Nat.log2_lt (by omega)).mpr h2
    omega⟩
  have bw : Dr.Sm (Dr.pdv f a) 30000 := by
    rw [← Dr.pev_slope hl.1]
    refine (ha.pev hsb).mono ?_
    have : (Dr.pslope f).length * (n + 1) ≤ 13 * 1401 := Nat.mul_le_mul sl (by omega)
    omega
  have eu : Dr.pdv f a / p ^ d = u := hs.fac.div hp.1
  rw [eu]
  have bu : Builtin.Int.intBits u ≤ 2 ^ 22 := by
    refine Nat.le_trans (PyProof.Rows.intBits_le (k := 30000) ?_) (by decide)
    have h1 : u.natAbs ≤ (Dr.pdv f a).natAbs := by
      rw [hs.fac.1, Int.natAbs_mul]
      have := pos d
      exact Nat.le_mul_of_pos_right _ (by omega)
    unfold Dr.Sm at bw
    omega
  refine ⟨cdiv (pos d) bd (by decide) _, hpp, bu, .inr hs.fac.2, fun y H2 hy g2 => ?_⟩
  have e1 : Int.toNat 1 = 1 := rfl
  rw [e1] at hy
  have hone : (u * y - 1) % p = 0 := by
    have := hy.one
    rwa [Int.pow_one] at this
  have hylo := hy.lo
  have hyhi : y < p := by have := hy.hi; rwa [Int.pow_one] at this
  (try dsimp only); (first | refine seqI ?_ | skip); try walk_at "dr2"; (try simp only [sp_power_of, sp_inverse_of, sp_worth_at, sp_slope_of]); try walk_at "dr2"
  refine ⟨by omega, by omega, by omega, by omega, ?_⟩
  have G2 := g1.trans g2
  obtain ⟨Pv, hPv⟩ : ∃ Pv : Nat → St → Hp → Prop, ∀ i σ H3, Pv i σ H3 ↔ (H3 = H2 ∧ ∃ (r : Int) (t9 t10 : Option V), Dr.Root p f a d (d + 1 + i) r ∧ σ = [some (.int p), some (.ref b), some (.int a), some (.int (d : Int)), some (.int N), some (.int (p ^ (d + 1 + i))), some (.int (p ^ (2 * d + 1 + i))), some (.int r), some (.int y), t9, t10]) := ⟨_, fun _ _ _ => Iff.rfl⟩
  refine forR Pv ((hPv _ _ _).mpr ⟨rfl, _, none, none, Dr.Root.start hp.1 hs, rfl⟩) ?_ ?_
  · intro i σ H3 hi z
    obtain ⟨rfl, r, t9, t10, hr, rfl⟩ := (hPv _ _ _).mp z
    have hi' : (d : Int) + 1 + i < N := by omega
    have br : Dr.Sm r 700 := by
      have h1 := hr.lo
      have h2 := hr.hi
      have h3 : Dr.Sm (p ^ (d + 1 + i)) 700 := (show Dr.Sm _ (10 * (d + 1 + i) + 1) from pow_bits hp _).mono (by omega)
      unfold Dr.Sm at h3 ⊢
      omega
    have e2 : p ^ (2 * d + 1 + i) = p ^ (d + 1 + i) * p ^ d := by rw [← Dr.pow_add']; congr 1; omega
    have bwp : Dr.Sm (p ^ (2 * d + 1 + i)) 4700 := by
      rw [e2]
      exact ((show Dr.Sm (p ^ (d + 1 + i)) 700 from (show Dr.Sm _ (10 * (d + 1 + i) + 1) from pow_bits hp _).mono (by omega)).mul bd).mono (by decide)
    have st := hr.step hp.1 hs hone (by omega)
    rw [show d + 1 + i + d = 2 * d + 1 + i by omega] at st
    (try dsimp only); (first | refine seqI ?_ | skip); try walk_at "dr2"; (try simp only [sp_power_of, sp_inverse_of, sp_worth_at, sp_slope_of]); try walk_at "dr2"
    refine ⟨f, G2.seq hS, by omega, m, hf, 700, br, by omega, by decide, cdiv (pos _) bwp (by decide) _, IntMulOk.of_right (intBits_le_64 (by omega) (by omega)), by omega, ?_⟩
    have ms := mod_in (-(Dr.pev f r / p ^ (2 * d + 1 + i)) * y) (show 0 < p by omega)
    generalize -(Dr.pev f r / p ^ (2 * d + 1 + i)) * y % p = s at ms st ⊢
    try walk_at "dr1"; (try simp only [sp_power_of, sp_inverse_of, sp_worth_at, sp_slope_of]); try walk_at "dr1"
    exact ⟨IntMulOk.of_left (intBits_le_64 (by omega) (by omega)), IntMulOk.of_right (intBits_le_64 (by omega) (by omega)), IntMulOk.of_right (intBits_le_64 (by omega) (by omega)), (hPv _ _ _).mpr ⟨rfl, _, _, _, st, by rw [show d + 1 + (i + 1) = (d + 1 + i) + 1 by omega, show 2 * d + 1 + (i + 1) = (2 * d + 1 + i) + 1 by omega, Int.pow_succ, Int.pow_succ]⟩⟩
  · intro σ H3 z
    obtain ⟨rfl, r, t9, t10, hr, rfl⟩ := (hPv _ _ _).mp z
    try walk_at "dr1"; (try simp only [sp_power_of, sp_inverse_of, sp_worth_at, sp_slope_of]); try walk_at "dr1"
    rw [show d + 1 + (N - ((d : Int) + 1)).toNat = N.toNat by omega] at hr
    exact q r H3 G2 hr
def sp_root_of (K : PySem.W.Frag) : Sp := fun vs H Q E => ∃ (p : Int) (b : Addr) (f : List Int) (a N : Int) (m n : Nat), vs = [.int p, .ref b, .int a, .int N] ∧ SqL K H b (f.map V.int) ∧ (0 < f.length ∧ f.length ≤ 13) ∧ p ∈ Dr.primes ∧ Dr.PolyB f m ∧ Dr.Sm a n ∧ (m ≤ 9000 ∧ n ≤ 1400) ∧ ((m ≤ 1000 ∧ n ≤ 200) ∨ ¬ Dr.pdv f a % p = 0 ∨ ∀ (d : Nat) (u : Int), Dr.Single p f a d u → Dr.Sm (p ^ d) 4000) ∧ (0 ≤ N ∧ N ≤ 60) ∧ ∀ H', Same H H' →
  (∀ (d : Nat) (u : Int), Dr.Single p f a d u → (N ≤ (d : Int) + 1 → Q (.int (a % p ^ N.toNat)) H') ∧ ((d : Int) + 1 < N → ∀ r : Int, Dr.Root p f a d N.toNat r → Q (.int r) H')) ∧ ((∀ (d : Nat) (u : Int), ¬ Dr.Single p f a d u) → E (.ref (clK K "NoSingle")) none H')
theorem single_sm {p : Int} {f : List Int} {a u : Int} {d m n : Nat} (hp : 2 ≤ p) (hl : 0 < f.length ∧ f.length ≤ 13) (hf : Dr.PolyB f m) (ha : Dr.Sm a n) (hmn : m ≤ 9000 ∧ n ≤ 1400) (hmu : (m ≤ 1000 ∧ n ≤ 200) ∨ ¬ Dr.pdv f a % p = 0 ∨ ∀ (d : Nat) (u : Int), Dr.Single p f a d u → Dr.Sm (p ^ d) 4000) (hs : Dr.Single p f a d u) : Dr.Sm (p ^ d) 4000 := by
  rcases hmu with hm | hu | hu
  case inr.inr => exact hu d u hs
  case inr.inl =>
    have d0 : d = 0 := by
      have := (hs.fac.dvd hp 1).mp
      refine Decidable.byContradiction fun z => hu ?_
      have := (hs.fac.dvd hp 1).mpr (by omega)
      rwa [Int.pow_succ, Int.pow_zero, Int.one_mul] at this
    rw [d0, Int.pow_zero]
    exact sm_of 1 (by decide) (Nat.one_lt_two_pow (by decide))
  have bw : Dr.Sm (Dr.pdv f a) 4000 := by
    rw [← Dr.pev_slope hl.1]
    have sl : (Dr.pslope f).length ≤ 12 := by rw [Dr.pslope_len hl.1]; omega
    refine (ha.pev (slope_b ⟨hl.1, by omega⟩ hf)).mono ?_
    have : (Dr.pslope f).length * (n + 1) ≤ 12 * 201 := Nat.mul_le_mul sl (by omega)
    omega
  have := hs.fac.pow_le hp
  unfold Dr.Sm at bw ⊢
  omega
theorem ok_root_of (B : Bi mg K w) (d_power_of : Def P w K mg base "power_of" 1 ["p", "e"] (sp_power_of K)) (d_single_depth : Def P w K mg base "single_depth" 2 ["p", "f", "a"] (sp_single_depth K)) (d_deepened : Def P w K mg base "deepened" 3 ["p", "f", "a", "d", "N"] (sp_deepened K)) (F : Fun K "root_of" "root_of" s_root_of f fd) : FnOk P w K mg base (CXE P w) 4 f fd ["p", "f", "a", "N"] (sp_root_of K) := by
  refine F.okE S_root_of (fun vs H Q E h => ?_) (fun cdv A outer s H vs Q E hr h => ?_)
  · obtain ⟨p, b, f, a, N, m, n, rfl, _⟩ := h
    rfl
  obtain ⟨p, b, f, a, N, m, n, rfl, hS, hl, hpp, hf, ha, hmn, hmu, hN, q⟩ := h
  have S := S_root_of
  have p2 := Dr.primes_ge hpp
  have hp : 2 ≤ p ∧ p < 1000 := by omega
  refine ⟨_, ((pss_cons (ps_set (i := 4) S.nd rfl (Or.inl rfl) (pe_def d_single_depth hr rfl (pa_cons (pv 0) (pa_cons (pv 1) (pa_cons (pv 2) pa_nil)))))
    (pss_cons (ps_if (pt_cmpR op_isN (pv 4) pe_non (nomark _)) (pss_one (ps_raise thrE rfl rfl B.c_NoSingle B.x_NoSingle (pa_cons pe_str pa_nil))) pss_nil)
    (pss_cons (ps_if (pt_cmpR op_le (pv 3) (pe_op op_add (pv 4) pe_int) (nomark _)) (pss_one (ps_ret (pe_op op_mod (pv 2) (pe_def d_power_of hr rfl (pa_cons (pv 0) (pa_cons (pv 3) pa_nil)))))) pss_nil)
    (pss_one (ps_ret (pe_def d_deepened hr rfl (pa_cons (pv 0) (pa_cons (pv 1) (pa_cons (pv 2) (pa_cons (pv 4) (pa_cons (pv 3) pa_nil)))))))))))), ?_⟩
  (try dsimp only); (first | refine seqI ?_ | skip); try walk_at "dr2"; (try simp only [sp_power_of, sp_single_depth, sp_deepened]); try walk_at "dr2"
  refine ⟨f, hS, by omega, by omega, m, hf, n, ha, by omega, by omega, hp.1, hp.2, fun H1 g1 => ⟨fun d u hd hd1 => ?_, fun hno => ?_⟩⟩
  · (try dsimp only); (first | refine seqI ?_ | skip); try walk_at "dr2"; (try simp only [sp_power_of, sp_single_depth, sp_deepened]); try walk_at "dr2"
    (try dsimp only); (first | refine seqI ?_ | skip); try walk_at "dr2"; (try simp only [sp_power_of, sp_single_depth, sp_deepened]); try walk_at "dr2"
    refine ite2 (fun c0 => ?_) (fun c0 => ?_)
    · exact ⟨hp.1, hp.2, by omega, by omega, Dr.pow_pos hp.1 _, ((q H1 g1).1 d u hd).1 c0⟩
    · exact ⟨f, N, d, rfl, rfl, g1.seq hS, by omega, by omega, hpp, m, hf, n, ha, by omega, by omega, ⟨u, hd⟩, single_sm hp.1 hl hf ha hmn hmu hd, by omega, by omega, fun r H2 g2 hr => ((q H2 (g1.trans g2)).1 d u hd).2 (by omega) r hr⟩
  · (try dsimp only); (first | refine seqI ?_ | skip); try walk_at "dr2"; (try simp only [sp_power_of, sp_single_depth, sp_deepened]); try walk_at "dr2"
    exact ⟨by decide, (q H1 g1).2 hno⟩
def spN_roots_within (K : PySem.W.Frag) (n : Nat) : Sp := fun vs H Q E => ∃ (p a e' N' : Int) (e N : Nat) (b : Addr) (s : List Int) (m : Nat), vs = [.int p, .int a, .int e', .ref b, .int N'] ∧ e' = (e : Int) ∧ N' = (N : Int) ∧ SqL K H b (s.map V.int) ∧ (0 < s.length ∧ s.length ≤ 13) ∧ p ∈ Dr.primes ∧ (0 ≤ a ∧ a < p ^ e) ∧ (e + n = 60 ∧ N ≤ 60) ∧ Dr.PolyB s m ∧ m + 104 * n ≤ 8800 ∧
  ((∀ x, x ∈ s → x = 0) → 0 < n → ∀ H', Same H H' → E (.ref (clK K "NoDepth")) none H') ∧ (Dr.Deep p n s → (0 < n → ∃ x, x ∈ s ∧ x ≠ 0) → ∀ H', Same H H' → E (.ref (clK K "TooDeep")) none H') ∧
  ∀ (c : Addr) (L : List Int) (H' : Hp), Dr.Found p N n a e s L → H c = none → Same H H' → H' c = some (.lst (L.map V.int)) → Q (.ref c) H'
abbrev sp_roots_within (K : PySem.W.Frag) : Sp := spN_roots_within K 60
theorem fl_few {p a : Int} {N n e : Nat} {s : List Int} {c : Nat} {rs L : List Int} (hp : p ∈ Dr.primes) (hc : Dr.IsCont p s c) (fl : Dr.FL p N (Dr.Found p N n) a e (Dr.pdiv (p ^ c) s) rs L) (hr : ∀ r, r ∈ rs → Dr.pev (Dr.pdiv (p ^ c) s) r % p = 0) (ap : rs.Pairwise fun r s => (s - r) % p ≠ 0) : L.length < s.length := by
  have p2 := Dr.primes_ge hp
  obtain ⟨m, hl, hm⟩ := Dr.degP_ex _ (Dr.cont_free hc)
  obtain ⟨R, e1, e2, e3⟩ := Dr.FL.len (by omega) (fun h => Dr.Found.len hp h) fl hr
  have := Dr.noughts hp m _ R hm (by rw [e1]; exact ap) e3
  rw [Dr.pdiv_len] at hl
  omega
theorem rootAt_small {p x : Int} {g : List Int} {M : Nat} (hp : 2 ≤ p) (hM : M ≤ 1) (h : Dr.pev g x % p = 0) : Dr.RootAt p g x M (x % p ^ M) := by
  have q0 := Dr.pow_pos hp M
  have e1 := Dr.rest_sub (p ^ M) x
  have hw : Dr.pev g x % p ^ M = 0 := Dr.dvd_of_le (p := p) (k := 1) (by rw [Int.pow_succ, Int.pow_zero, Int.one_mul]; exact h) hM
  refine ⟨Int.emod_nonneg _ (by omega), Int.emod_lt_of_pos _ q0, ?_, ?_⟩
  · by_cases c : M = 0
    · exact .inl c
    · obtain rfl : M = 1 := by omega
      rw [Int.pow_succ, Int.pow_zero, Int.one_mul] at e1 ⊢
      exact .inr e1
  · have := Dr.dvd_add_of (Dr.pev_cong g e1) hw
    rwa [Int.sub_add_cancel] at this
theorem rootAt_of {p x r : Int} {g : List Int} {M : Nat} (h : Dr.Root p g x 0 M r) : Dr.RootAt p g x M r := by
  have n := h.near
  rw [Nat.zero_add, Int.pow_succ, Int.pow_zero, Int.one_mul] at n
  exact ⟨h.lo, h.hi, .inr n, h.deep⟩
theorem ok_roots_within (B : Bi mg K w) (d_power_of : Def P w K mg base "power_of" 1 ["p", "e"] (sp_power_of K)) (d_worth_at : Def P w K mg base "worth_at" 1 ["f", "x"] (sp_worth_at K)) (d_slope_of : Def P w K mg base "slope_of" 1 ["f"] (sp_slope_of K)) (d_seen_from : Def P w K mg base "seen_from" 2 ["p", "f", "a", "e"] (sp_seen_from K)) (d_without_content : DefE P w K mg base "without_content" 3 ["p", "f"] (sp_without_content K)) (d_rests_by_prime : Def P w K mg base "rests_by_prime" 2 ["p", "f"] (sp_rests_by_prime K)) (d_root_of : DefE P w K mg base "root_of" 4 ["p", "f", "a", "N"] (sp_root_of K)) {n : Nat} (d_roots_within : DefE P w K mg base "roots_within" (4 + n) ["p", "a", "e", "seen", "N"] (prevSp (spN_roots_within K) n)) (F : Fun K "roots_within" "roots_within" s_roots_within f fd) : FnOk P w K mg base (CXE P w) (4 + n + 1) f fd ["p", "a", "e", "seen", "N"] (spN_roots_within K n) := by
  refine F.okE S_roots_within (fun vs H Q E h => ?_) (fun cdv A outer s H vs Q E hr h => ?_)
  · obtain ⟨p, a, e', N', e, N, b, s, m, rfl, _⟩ := h
    rfl
  obtain ⟨p, a, e', N', e, N, b, s, m, rfl, rfl, rfl, hS, hl, hp, ha, heN, hb, hm, qz, qd, q⟩ := h
  have S := S_roots_within
  obtain ⟨_, g_GREATEST_DEPTH⟩ := B.g_GREATEST_DEPTH
  have p2 := Dr.primes_ge hp
  have hpp : 2 ≤ p ∧ p < 1000 := by omega
  refine ⟨_, ((pss_cons (ps_if (pt_cmpR op_eq (pv 2) (pe_glob (v := .int 60) rfl g_GREATEST_DEPTH ⟨_, rfl⟩) (nomark _)) (pss_one (ps_raise thrE rfl rfl B.c_TooDeep B.x_TooDeep (pa_cons pe_str pa_nil))) pss_nil)
    (pss_cons (ps_set (i := 5) S.nd rfl (Or.inl rfl) (pe_defE passE d_without_content hr rfl (pa_cons (pv 0) (pa_cons (pv 3) pa_nil)) (hjk := by omega)))
    (pss_cons (ps_set (i := 6) S.nd rfl (Or.inl rfl) (pe_def d_slope_of hr rfl (pa_cons (pv 5) pa_nil) (hjk := by omega)))
    (pss_cons (ps_set (i := 7) S.nd rfl (Or.inl rfl) (pe_def d_power_of hr rfl (pa_cons (pv 0) (pa_cons (pv 2) pa_nil)) (hjk := by omega)))
    (pss_cons (ps_set (i := 8) S.nd rfl (Or.inl rfl) (pe_lst pa_nil))
    (pss_cons (ps_for PassesOwn.leaving rfl (pi_list (pe_def d_rests_by_prime hr rfl (pa_cons (pv 0) (pa_cons (pv 5) pa_nil)) (hjk := by omega))) (pg_name (i := 9) S.nd rfl (Or.inl rfl)) (pss_one (ps_if (pt_cmpR op_eq (pe_op op_mod (pe_def d_worth_at hr rfl (pa_cons (pv 6) (pa_cons (pv 9) pa_nil)) (hjk := by omega)) (pv 0)) pe_int (nomark _)) (pss_one (ps_expr (pe_bm PySem.F.plainAttrs_list PySem.F.slot_list_extend PySem.F.type_list_extend mt_extend (pv 8) (pa_cons (pe_defE passE d_roots_within hr rfl (pa_cons (pv 0) (pa_cons (pe_op op_add (pv 1) (pe_op op_mulW (pv 9) (pv 7))) (pa_cons (pe_op op_add (pv 2) pe_int) (pa_cons (pe_def d_seen_from hr rfl (pa_cons (pv 0) (pa_cons (pv 5) (pa_cons (pv 9) (pa_cons pe_int pa_nil)))) (hjk := by omega)) (pa_cons (pv 4) pa_nil))))) (hjk := by omega)) pa_nil)))) (pss_cons (ps_set (i := 10) S.nd rfl (Or.inl rfl) (pe_op op_add (pv 1) (pe_op op_mulW (pv 7) (pe_defE passE d_root_of hr rfl (pa_cons (pv 0) (pa_cons (pv 5) (pa_cons (pv 9) (pa_cons (pe_callB (call_max2 rfl) rfl B.b_max L2.bt_max (pa_cons (pe_op op_sub (pv 4) (pv 2)) (pa_cons pe_int pa_nil))) pa_nil)))) (hjk := by omega)))))
    (pss_one (ps_expr (pe_bm PySem.F.plainAttrs_list PySem.F.slot_list_append PySem.F.type_list_append mt_append (pv 8) (pa_cons (pe_op op_mod (pv 10) (pe_def d_power_of hr rfl (pa_cons (pv 0) (pa_cons (pv 4) pa_nil)) (hjk := by omega))) pa_nil))))))))
    (pss_one (ps_ret (pv 8)))))))))), ?_⟩
  (try dsimp only); (first | refine seqI ?_ | skip); try walk_at "dr2"; (try simp only [sp_power_of, sp_worth_at, sp_slope_of, sp_seen_from, sp_without_content, sp_rests_by_prime, sp_root_of]); try walk_at "dr2"
  refine ite2 (fun c0 => ?_) (fun c0 => ?_)
  · obtain rfl : n = 0 := by omega
    exact ⟨by decide, qd trivial (fun z => absurd z (by omega)) H (Same.refl _)⟩
  obtain ⟨n', rfl⟩ : ∃ n', n = n' + 1 := ⟨n - 1, by omega⟩
  (try dsimp only); (first | refine seqI ?_ | skip); try walk_at "dr2"; (try simp only [sp_power_of, sp_worth_at, sp_slope_of, sp_seen_from, sp_without_content, sp_rests_by_prime, sp_root_of]); try walk_at "dr2"
  refine ⟨s, hS, by omega, hpp.1, hpp.2, m, hb, by omega, fun z H1 g1 => qz z (by omega) H1 g1, fun hnz c r H1 hc nr g1 k1 => ?_⟩
  have q0 := Dr.pow_pos hpp.1 c
  have bfr := Dr.pdiv_bits q0 hc.1 hb
  have lfr : (Dr.pdiv (p ^ c) s).length = s.length := Dr.pdiv_len ..
  (try dsimp only); (first | refine seqI ?_ | skip); try walk_at "dr2"; (try simp only [sp_power_of, sp_worth_at, sp_slope_of, sp_seen_from, sp_without_content, sp_rests_by_prime, sp_root_of]); try walk_at "dr2"
  refine ⟨_, SqL.of k1, by omega, by omega, m, bfr, by omega, fun ls H2 hsb _ g2 k2 => ?_⟩
  (try dsimp only); (first | refine seqI ?_ | skip); try walk_at "dr2"; (try simp only [sp_power_of, sp_worth_at, sp_slope_of, sp_seen_from, sp_without_content, sp_rests_by_prime, sp_root_of]); try walk_at "dr2"
  refine ⟨hpp.1, hpp.2, by omega, by omega, ?_⟩
  rw [Int.toNat_natCast]
  (try dsimp only); (first | refine seqI ?_ | skip); try walk_at "dr2"; (try simp only [sp_power_of, sp_worth_at, sp_slope_of, sp_seen_from, sp_without_content, sp_rests_by_prime, sp_root_of]); try walk_at "dr2"
  refine ⟨by decide, ?_⟩
  intro lb n_lb; generalize e_lb : upd _ lb _ = H4; obtain ⟨g4, k4⟩ := newH e_lb n_lb; clear e_lb
  have G4 := (g1.trans g2).trans g4
  (try dsimp only); (first | refine seqI ?_ | skip); try walk_at "dr2"; (try simp only [sp_power_of, sp_worth_at, sp_slope_of, sp_seen_from, sp_without_content, sp_rests_by_prime, sp_root_of]); try walk_at "dr2"
  refine ⟨_, SqL.of (g4 _ _ (g2 _ _ k1)), by omega, hpp.1, hpp.2, fun rr H5 nrr g5 k5 => ?_⟩
  have G5 := G4.trans g5
  have kr := g5 _ _ (g4 _ _ (g2 _ _ k1))
  have ks := g5 _ _ (g4 _ _ k2)
  have klb := g5 _ _ k4
  have nlb : H lb = none := (g1.trans g2).free n_lb
  have nrlb : r ≠ lb := fun z => by rw [z] at k1; rw [g2 _ _ k1] at n_lb; cases n_lb
  have nslb : ls ≠ lb := fun z => by rw [z, n_lb] at k2; cases k2
  have nrrlb : rr ≠ lb := fun z => by rw [z, k4] at nrr; cases nrr
  obtain ⟨fr, efr⟩ : ∃ fr, fr = Dr.pdiv (p ^ c) s := ⟨_, rfl⟩
  obtain ⟨rs, ers⟩ : ∃ rs, rs = restsOf p fr := ⟨_, rfl⟩
  rw [← efr] at kr ks k5 bfr lfr hsb
  rw [← ers] at k5
  have hrs : ∀ x, x ∈ rs → (0 ≤ x ∧ x < p) ∧ Dr.pev fr x % p = 0 := fun x hx => by
    rw [ers] at hx
    exact (Dr.restsP_mem (by omega)).mp hx
  have hap : rs.Pairwise (fun r s => (s - r) % p ≠ 0) := by
    rw [ers]
    exact Dr.rests_apart _ (by omega)
  have fr0 : ∃ x, x ∈ fr ∧ x ≠ 0 := by
    obtain ⟨x, hx, x0⟩ := Dr.cont_free hc
    rw [← efr] at hx
    exact ⟨x, hx, fun z => x0 (by rw [z]; simp)⟩
  have sll : (Dr.pslope fr).length ≤ 13 := by rw [Dr.pslope_len (by omega)]; omega
  clear k1 k2 k4 g4 g5 g2 g1
  refine ⟨⟨_, SqL.of k5⟩, ?_⟩
  obtain ⟨Pv, hPv⟩ : ∃ Pv : Nat → St → Hp → Prop, ∀ i σ H6, Pv i σ H6 ↔ ((∀ b u, b ≠ lb → H5 b = some u → H6 b = some u) ∧ ∃ (L : List Int) (t9 t10 : Option V), H6 lb = some (.lst (L.map V.int)) ∧ Dr.FL p N (Dr.Found p N n') a e fr (rs.take i) L ∧ σ = [some (V.int p), some (V.int a), some (V.int ↑e), some (V.ref b), some (V.int ↑N), some (V.ref r), some (V.ref ls), some (V.int (p ^ e)), some (V.ref lb), t9, t10]) := ⟨_, fun _ _ _ => Iff.rfl⟩
  refine forI rs Pv ((hPv _ _ _).mpr ⟨fun b u _ h => h, [], none, none, klb, by rw [List.take_zero]; exact .nil, rfl⟩) (fun i σ H6 z => by obtain ⟨k6, _⟩ := (hPv _ _ _).mp z; exact SqL.of (k6 _ _ nrrlb k5)) ?_ ?_
  · intro i x σ H6 hx z
    obtain ⟨k6, L, t9, t10, kb, fl, rfl⟩ := (hPv _ _ _).mp z
    obtain ⟨hx1, hx2⟩ := hrs x (List.mem_of_getElem? hx)
    have e1 : p ^ Int.toNat 1 = p := by show p ^ 1 = p; rw [Int.pow_succ, Int.pow_zero, Int.one_mul]
    have tk : rs.take (i + 1) = rs.take i ++ [x] := by rw [List.take_add_one, hx]; rfl
    have few := fl_few hp hc (efr ▸ fl) (fun y hy => efr ▸ (hrs y (List.mem_of_mem_take hy)).2) (hap.sublist (List.take_sublist ..))
    have bx : Dr.Sm x 11 := sm_of 1000 (by omega) (by decide)
    have GH : Same H H6 := fun b u hb => k6 b u (fun z => by rw [z, nlb] at hb; cases hb) (G5 b u hb)
    (try dsimp only); (first | refine seqI ?_ | skip); try walk_at "dr2"; (try simp only [sp_power_of, sp_worth_at, sp_slope_of, sp_seen_from, sp_without_content, sp_rests_by_prime, sp_root_of]); try walk_at "dr2"
    refine ⟨Dr.pslope fr, SqL.of (k6 _ _ nslb ks), by omega, m + 6, hsb, 11, bx, by omega, by decide, by omega, ?_⟩
    rw [Dr.pev_slope (by omega)]
    refine ite2 (fun ck => ?_) (fun ck => ?_)
    · refine ⟨⟨_, SqL.of kb⟩, IntMulOk.of_left (intBits_le_64 (by omega) (by omega)), fr, SqL.of (k6 _ _ nrlb kr), by omega, by omega, hpp.1, hpp.2, m, bfr, 11, bx, by decide, by decide, by omega, fun c3 s1 H7 hs1 _ nc g7 k7 => ?_⟩
      rw [e1] at hs1
      have hsl := hs1.len
      rw [prevSp]
      have s1n := Dr.seen_ne (by omega) hs1 fr0
      refine ⟨p, a + x * p ^ e, (e : Int) + 1, (N : Int), e + 1, N, c3, s1, m + 8 * fr.length, rfl, by omega, rfl, SqL.of k7, by omega, hp, Dr.ball_next hpp.1 ha hx1, by omega, Dr.seen_bits hs1 (by omega) (by omega) bfr, by omega, fun z => ?_, fun hd _ H8 g8 => qd ⟨c, x, s1, hc, hx1, efr ▸ hx2, efr ▸ ck, efr ▸ hs1, hd⟩ (fun _ => hnz) H8 (GH.trans (g7.trans g8)), fun c2 L2 H8 hf nc2 g8 k8 => ?_⟩
      · obtain ⟨y, hy, y0⟩ := s1n
        exact absurd (z y hy) y0
      · have kb8 := g8 _ _ (g7 _ _ kb)
        have l2 := hf.few hp
        refine ⟨c2, rfl, _, kb8, _, k8, by rw [List.length_map, List.length_map]; unfold sizeLine; omega, (hPv _ _ _).mpr ⟨fun b u hb h => by rw [upd_ne hb]; exact g8 _ _ (g7 _ _ (k6 b u hb h)), L ++ L2, _, _, by rw [upd_same, List.map_append], ?_, rfl⟩⟩
        rw [tk]
        exact .knot fl ck hs1 hf
    · have sg : Dr.Single p fr x 0 (Dr.pdv fr x) := ⟨⟨by simp, ck⟩, by rw [Nat.mul_zero, Nat.zero_add, Int.pow_succ, Int.pow_zero, Int.one_mul]; exact hx2⟩
      obtain ⟨M', eM⟩ : ∃ M' : Int, M' = if (0 : Int) > (N : Int) - (e : Int) then 0 else (N : Int) - (e : Int) := ⟨_, rfl⟩
      have bM : M'.toNat = N - e ∧ 0 ≤ M' ∧ M' ≤ 60 := by
        rw [eM]
        split <;> omega
      have bpe : Dr.Sm (p ^ e) 611 := (show Dr.Sm (p ^ e) (10 * e + 1) from pow_bits hpp _).mono (by omega)
      have bpm : Dr.Sm (p ^ (N - e)) 611 := (show Dr.Sm (p ^ (N - e)) (10 * (N - e) + 1) from pow_bits hpp _).mono (by omega)
      have fin : ∀ (y : Int) (H7 : Hp), Same H6 H7 → Dr.RootAt p fr x (N - e) y → IntMulOk (p ^ e) y ∧ (∃ xs, SqL K H7 lb xs) ∧ 2 ≤ p ∧ p < 1000 ∧ 0 ≤ (N : Int) ∧ (N : Int) < 100000 ∧ 0 < p ^ (N : Int).toNat ∧ ∃ x_4, H7 lb = some (.lst x_4) ∧ x_4.length < sizeLine ∧ Pv (i + 1) [some (V.int p), some (V.int a), some (V.int ↑e), some (V.ref b), some (V.int ↑N), some (V.ref r), some (V.ref ls), some (V.int (p ^ e)), some (V.ref lb), some (V.int x), some (V.int (a + p ^ e * y))] (upd H7 lb (.lst (x_4 ++ [V.int ((a + p ^ e * y) % p ^ (N : Int).toNat)]))) := fun y H7 g7 hy => by
        have by_ : Dr.Sm y 611 := by
          have h1 := hy.lo
          have h2 := hy.hi
          unfold Dr.Sm at bpm ⊢
          omega
        refine ⟨mulSm bpe by_ (by decide), ⟨_, SqL.of (g7 _ _ kb)⟩, hpp.1, hpp.2, by omega, by omega, Dr.pow_pos hpp.1 _, _, g7 _ _ kb, by rw [List.length_map]; unfold sizeLine; omega, (hPv _ _ _).mpr ⟨fun b u hb h => by rw [upd_ne hb]; exact g7 _ _ (k6 b u hb h), L ++ [(a + p ^ e * y) % p ^ N], _, _, by rw [upd_same, List.map_append, Int.toNat_natCast]; rfl, ?_, rfl⟩⟩
        rw [tk]
        exact .leaf fl ck hy
      (try dsimp only); (first | refine seqI ?_ | skip); try walk_at "dr2"; (try simp only [sp_power_of, sp_worth_at, sp_slope_of, sp_seen_from, sp_without_content, sp_rests_by_prime, sp_root_of]); try walk_at "dr2"
      rw [← eM]
      refine ⟨fr, SqL.of (k6 _ _ nrlb kr), by omega, by omega, hp, m, bfr, 11, bx, by omega, by decide, .inr (.inl ck), bM.2.1, bM.2.2, fun H7 g7 => ⟨fun d u hd => ?_, fun hno => absurd sg (hno _ _)⟩⟩
      obtain rfl := (hd.fac.uniq hpp.1 sg.fac).1
      refine ⟨fun hle => fin _ H7 g7 ?_, fun hlt y hy => fin y H7 g7 ?_⟩
      · rw [bM.1]
        exact rootAt_small hpp.1 (by omega) hx2
      · rw [bM.1] at hy
        exact rootAt_of hy
  · intro σ H6 z
    obtain ⟨k6, L, t9, t10, kb, fl, rfl⟩ := (hPv _ _ _).mp z
    rw [List.take_length] at fl
    try walk_at "dr1"; (try simp only [sp_power_of, sp_worth_at, sp_slope_of, sp_seen_from, sp_without_content, sp_rests_by_prime, sp_root_of]); try walk_at "dr1"
    refine q lb L H6 ⟨c, hc, ?_⟩ nlb (fun b u hb => k6 b u (fun z => by rw [z, nlb] at hb; cases hb) (G5 b u hb)) kb
    rw [efr, ers, efr] at fl
    exact fl
def sp_endless_roots (K : PySem.W.Frag) : Sp := fun vs H Q E => ∃ (p : Int) (b : Addr) (f : List Int) (N : Int) (m : Nat), vs = [.int p, .ref b, .int N] ∧ SqL K H b (f.map V.int) ∧ (0 < f.length ∧ f.length ≤ 13) ∧ p ∈ Dr.primes ∧ (0 ≤ N ∧ N ≤ 60) ∧ Dr.PolyB f m ∧ m ≤ 2560 ∧
  ((∀ x, x ∈ f → x = 0) → ∀ H', Same H H' → E (.ref (clK K "NoDepth")) none H') ∧ (Dr.Deep p 60 f → (∃ x, x ∈ f ∧ x ≠ 0) → ∀ H', Same H H' → E (.ref (clK K "TooDeep")) none H') ∧
  ∀ (c : Addr) (L M : List Int) (H' : Hp), Dr.Found p N.toNat 60 0 0 f M → L.Perm M → L.Pairwise (· ≤ ·) → H c = none → Same H H' → H' c = some (.lst (L.map V.int)) → Q (.ref c) H'
theorem ok_endless_roots (B : Bi mg K w) (d_roots_within : DefE P w K mg base "roots_within" 65 ["p", "a", "e", "seen", "N"] (sp_roots_within K)) (F : Fun K "endless_roots" "endless_roots" s_endless_roots f fd) : FnOk P w K mg base (CXE P w) 66 f fd ["p", "f", "N"] (sp_endless_roots K) := by
  refine F.okE S_endless_roots (fun vs H Q E h => ?_) (fun cdv A outer s H vs Q E hr h => ?_)
  · obtain ⟨p, b, f, N, m, rfl, _⟩ := h
    rfl
  obtain ⟨p, b, f, N, m, rfl, hS, hl, hp, hN, hb, hm, qz, qd, q⟩ := h
  have S := S_endless_roots
  refine ⟨_, ((pss_one (ps_ret (pe_callB (call_sortedI rfl) rfl B.b_sorted bt_sorted (pa_cons (pe_defE passE d_roots_within hr rfl (pa_cons (pv 0) (pa_cons pe_int (pa_cons pe_int (pa_cons (pv 1) (pa_cons (pv 2) pa_nil)))))) pa_nil))))), ?_⟩
  have p2 := Dr.primes_ge hp
  try walk_at "dr1"; (try simp only [sp_roots_within]); try walk_at "dr1"
  refine ⟨p, 0, 0, N, 0, N.toNat, b, f, m, rfl, rfl, (Int.toNat_of_nonneg hN.1).symm, hS, hl, hp, by simp, by omega, hb, by omega, fun z _ => qz z, fun d hz => qd d (hz (by decide)), fun c L H1 hf nc g1 k1 => ?_⟩
  have few := hf.few hp
  refine ⟨c, rfl, L, SqL.of k1, by omega, fun ms hms hso => ?_⟩
  intro l n_l; generalize e_l : upd _ l _ = H2; obtain ⟨g2, k2⟩ := newH e_l n_l; clear e_l
  exact q l ms L H2 hf hms hso (g1.free n_l) (g1.trans g2) k2
theorem sorted_eq : ∀ {L M : List Int}, L.Pairwise (· ≤ ·) → M.Pairwise (· ≤ ·) → L.Perm M → L = M
  | [], M, _, _, h => (List.Perm.nil_eq h)
  | x :: L, M, hL, hM, h => by
    have hx : x ∈ M := h.mem_iff.mp (List.mem_cons_self ..)
    match M, hM, h, hx with
    | y :: M, hM, h, hx =>
      obtain ⟨l1, l2⟩ := List.pairwise_cons.mp hL
      obtain ⟨m1, m2⟩ := List.pairwise_cons.mp hM
      have e : x = y := by
        have h1 : y ≤ x := by
          rcases List.mem_cons.mp hx with z | z
          · omega
          · exact m1 x z
        have h2 : x ≤ y := by
          rcases List.mem_cons.mp (h.mem_iff.mpr (List.mem_cons_self ..)) with z | z
          · omega
          · exact l1 y z
        omega
      subst e
      rw [sorted_eq l2 m2 (List.Perm.cons_inv h)]
theorem str_big {x : Int} (h : x.natAbs < 10 ^ 190) : (Str.ofString (toString x)).length ≤ 191 := by
  rw [ofString_length]
  exact int_text_length_le10 (by decide) h
theorem log_big {x : Int} (h : x.natAbs < 10 ^ 190) : x.natAbs.log2 < 1920 := by
  by_cases z : x.natAbs = 0
  · rw [z]; decide
  · exact (Nat.log2_lt z).mpr (Nat.lt_of_lt_of_le h (by decide +kernel))
theorem big_len {x : Int} (h : x.natAbs < 10 ^ 190) : (Tx.tx x).length ≤ 191 := str_big h
theorem sum_len {n : Nat} : ∀ {ts : List Str}, (∀ t, t ∈ ts → t.length ≤ n) → (ts.map (·.length)).sum ≤ n * ts.length
  | [], _ => Nat.zero_le _
  | t :: ts, h => by
    have h1 := h t (.head _)
    have h2 := sum_len (ts := ts) fun u hu => h u (.tail _ hu)
    simp only [List.map_cons, List.sum_cons, List.length_cons, Nat.mul_succ]
    omega
theorem sp_len1 : (Str.ofString " ").length = 1 := by decide +kernel
theorem join_space {ts : List Str} (hl : ts.length ≤ 14) (h : ∀ t, t ∈ ts → t.length ≤ 200) : JoinOk (Str.ofString " ") ts = true := by
  have := sum_len h
  refine PyProof.Rows.joinOk_of ?_
  rw [sp_len1]
  omega
def sp_made_seen (K : PySem.W.Frag) : Sp := fun vs H Q _ => ∃ (p : Int) (t b : Addr) (x : V) (f : List Int) (a e : Int) (m n : Nat), vs = [.int p, .ref t] ∧ SqL K H t [x, .ref b, .int a, .int e] ∧ SqL K H b (f.map V.int) ∧ (0 < f.length ∧ f.length ≤ 60) ∧ (2 ≤ p ∧ p < 1000) ∧ (0 ≤ e ∧ e < 1000) ∧ Dr.PolyB f m ∧ Dr.Sm a n ∧ (10 * e.toNat + 1 ≤ n ∧ n ≤ 15000 ∧ m ≤ 50000) ∧
  ∀ (c : Addr) (s : List Int) (H' : Hp), Dr.IsSeen f a (p ^ e.toNat) s → H c = none → Same H H' → H' c = some (.lst (s.map V.int)) → Q (.ref c) H'
theorem ok_made_seen (B : Bi mg K w) (d_seen_from : Def P w K mg base "seen_from" 2 ["p", "f", "a", "e"] (sp_seen_from K)) (F : Fun K "made_seen" "made_seen" s_made_seen f fd) : FnOk P w K mg base CX0 3 f fd ["p", "things"] (sp_made_seen K) := by
  refine F.ok S_made_seen (fun vs H Q E h => ?_) (fun cdv A outer s H vs Q E hr h => ?_)
  · obtain ⟨p, t, b, x, f, a, e, m, n, rfl, _⟩ := h
    rfl
  obtain ⟨p, t, b, x, f, a, e, m, n, rfl, hT, hS, hl, hp, he, hf, ha, hmn, q⟩ := h
  have S := S_made_seen
  refine ⟨_, ((pss_one (ps_ret (pe_def d_seen_from hr rfl (pa_cons (pv 0) (pa_cons (pe_ix ix_list (pv 1) pe_int (fun _ _ => rfl)) (pa_cons (pe_ix ix_list (pv 1) pe_int (fun _ _ => rfl)) (pa_cons (pe_ix ix_list (pv 1) pe_int (fun _ _ => rfl)) pa_nil)))))))), ?_⟩
  (first | refine hX _ _ ?_ | skip); (try dsimp only); try walk_at "dr1"; (try simp only [sp_seen_from]); try walk_at "dr1"
  exact ⟨_, hT, _, atI_nat (j := 1) rfl, _, hT, _, atI_nat (j := 2) rfl, _, hT, _, atI_nat (j := 3) rfl, b, rfl, f, a, rfl, e, rfl, hS, hl.1, hl.2, hp.1, hp.2, he.1, he.2, m, hf, n, ha, hmn.1, hmn.2.1, hmn.2.2, fun c s H' h1 _ h3 h4 h5 => q c s H' h1 h3 h4 h5⟩
def sp_told_single (K : PySem.W.Frag) : Sp := fun vs H Q _ => ∃ (p : Int) (t b : Addr) (f : List Int) (a : Int) (m n : Nat) (d : Nat) (u : Int), vs = [.int p, .ref t] ∧ SqL K H t [.ref b, .int a] ∧ SqL K H b (f.map V.int) ∧ (0 < f.length ∧ f.length ≤ 13) ∧ Dr.PolyB f m ∧ Dr.Sm a n ∧ (m ≤ 9000 ∧ n ≤ 1400) ∧ (2 ≤ p ∧ p < 1000) ∧ Dr.Single p f a d u ∧ d ≤ 100000 ∧ ∀ H', Same H H' → Q (.str (Tx.tx (d : Int))) H'
theorem log_deep {d : Nat} (h : d ≤ 100000) : ((d : Int).natAbs).log2 < 1920 := by
  by_cases c : d = 0
  · subst c; decide
  · exact (Nat.log2_lt (by omega)).mpr (Nat.lt_of_le_of_lt (show (d : Int).natAbs ≤ 100000 by omega) (Nat.lt_of_lt_of_le (show 100000 < 2 ^ 17 by decide) (Nat.pow_le_pow_right (by decide) (by decide))))
theorem ok_told_single (B : Bi mg K w) (d_single_depth : Def P w K mg base "single_depth" 2 ["p", "f", "a"] (sp_single_depth K)) (F : Fun K "told_single" "told_single" s_told_single f fd) : FnOk P w K mg base CX0 3 f fd ["p", "things"] (sp_told_single K) := by
  refine F.ok S_told_single (fun vs H Q E h => ?_) (fun cdv A outer s H vs Q E hr h => ?_)
  · obtain ⟨p, t, b, f, a, m, n, d, u, rfl, _⟩ := h
    rfl
  obtain ⟨p, t, b, f, a, m, n, d, u, rfl, hT, hS, hl, hf, ha, hmn, hp, hs, hd, q⟩ := h
  have S := S_told_single
  refine ⟨_, ((pss_cons (ps_set (i := 2) S.nd rfl (Or.inl rfl) (pe_def d_single_depth hr rfl (pa_cons (pv 0) (pa_cons (pe_ix ix_list (pv 1) pe_int (fun _ _ => rfl)) (pa_cons (pe_ix ix_list (pv 1) pe_int (fun _ _ => rfl)) pa_nil)))))
    (pss_one (ps_ret (pe_ifExp (pt_cmpR op_isN (pv 2) pe_non (nomark _)) pe_str (pe_callTy call_str_int rfl B.b_str L2.bt_str (pa_cons (pv 2) pa_nil))))))), ?_⟩
  (try dsimp only); (first | refine hX _ _ ?_ | skip); (try dsimp only); (first | refine seqX (fun X hX => ?_) | skip); try walk_at "dr2"; (try simp only [sp_single_depth]); try walk_at "dr2"
  refine ⟨_, hT, _, atI_nat (j := 0) rfl, _, hT, _, atI_nat (j := 1) rfl, b, rfl, f, a, rfl, hS, hl.1, hl.2, m, hf, n, ha, hmn.1, hmn.2, hp.1, hp.2, fun H' g => ⟨fun d' u' hs' _ => ?_, fun no => absurd hs (no d u)⟩⟩
  obtain rfl := Single.uniq hp.1 hs hs'
  (first | refine hX _ _ ?_ | skip); (try dsimp only); try walk_at "dr1"; (try simp only [sp_single_depth]); try walk_at "dr1"
  exact ⟨log_deep hd, q H' g⟩
def sp_told_root (K : PySem.W.Frag) : Sp := fun vs H Q _ => ∃ (p : Int) (t b : Addr) (f : List Int) (a N : Int) (m n : Nat) (d : Nat) (u : Int), vs = [.int p, .ref t] ∧ SqL K H t [.ref b, .int a, .int N] ∧ SqL K H b (f.map V.int) ∧ (0 < f.length ∧ f.length ≤ 13) ∧ p ∈ Dr.primes ∧ Dr.PolyB f m ∧ Dr.Sm a n ∧ (m ≤ 1000 ∧ n ≤ 200) ∧ (0 ≤ N ∧ N ≤ 60) ∧ Dr.Single p f a d u ∧
  ∀ H', Same H H' → (N ≤ (d : Int) + 1 → Q (.str (Tx.tx (a % p ^ N.toNat))) H') ∧ ((d : Int) + 1 < N → ∀ r : Int, Dr.Root p f a d N.toNat r → Q (.str (Tx.tx r)) H')
theorem log_rest {p r : Int} {N : Nat} (hp : 2 ≤ p ∧ p < 1000) (hN : N ≤ 60) (h : 0 ≤ r ∧ r < p ^ N) : r.natAbs.log2 < 1920 := by
  have h2 := pow_bits (p := p) hp N
  have h3 : (2 : Nat) ^ (10 * N + 1) ≤ 2 ^ 1920 := Nat.pow_le_pow_right (by decide) (by omega)
  by_cases c : r.natAbs = 0
  · rw [c]; decide
  · refine (Nat.log2_lt c).mpr ?_
    generalize (2 : Nat) ^ 1920 = M1 at h3 ⊢
    generalize (2 : Nat) ^ (10 * N + 1) = M2 at h2 h3
    omega
theorem ok_told_root (B : Bi mg K w) (d_root_of : DefE P w K mg base "root_of" 4 ["p", "f", "a", "N"] (sp_root_of K)) (F : Fun K "told_root" "told_root" s_told_root f fd) : FnOk P w K mg base CX0 5 f fd ["p", "things"] (sp_told_root K) := by
  refine F.ok S_told_root (fun vs H Q E h => ?_) (fun cdv A outer s H vs Q E hr h => ?_)
  · obtain ⟨p, t, b, f, a, N, m, n, d, u, rfl, _⟩ := h
    rfl
  obtain ⟨p, t, b, f, a, N, m, n, d, u, rfl, hT, hS, hl, hpp, hf, ha, hmn, hN, hs, q⟩ := h
  have S := S_told_root
  have p2 := Dr.primes_ge hpp
  have hp : 2 ≤ p ∧ p < 1000 := by omega
  have q0 := Dr.pow_pos hp.1 N.toNat
  refine ⟨_, ((pss_one (ps_ret (pe_callTy call_str_int rfl B.b_str L2.bt_str (pa_cons (pe_defE pass00 d_root_of hr rfl (pa_cons (pv 0) (pa_cons (pe_ix ix_list (pv 1) pe_int (fun _ _ => rfl)) (pa_cons (pe_ix ix_list (pv 1) pe_int (fun _ _ => rfl)) (pa_cons (pe_ix ix_list (pv 1) pe_int (fun _ _ => rfl)) pa_nil))))) pa_nil))))), ?_⟩
  (first | refine hX _ _ ?_ | skip); (try dsimp only); try walk_at "dr1"; (try simp only [sp_root_of]); try walk_at "dr1"
  refine ⟨_, hT, _, atI_nat (j := 0) rfl, _, hT, _, atI_nat (j := 1) rfl, _, hT, _, atI_nat (j := 2) rfl, b, rfl, f, a, rfl, N, rfl, hS, hl.1, hl.2, hpp, m, hf, n, ha, by omega, by omega, .inl ⟨hmn.1, hmn.2⟩, hN.1, hN.2, fun H' g => ⟨fun d' u' hs' => ?_, fun no => absurd hs (no d u)⟩⟩
  obtain rfl := Single.uniq hp.1 hs hs'
  obtain ⟨q1, q2⟩ := q H' g
  exact ⟨fun c => ⟨log_rest hp (by omega) (mod_in a q0), q1 c⟩, fun c r R => ⟨log_rest hp (by omega) ⟨R.lo, R.hi⟩, q2 c r R⟩⟩
def sp_listed (K : PySem.W.Frag) : Sp := fun vs H Q _ => ∃ (a : Addr) (ts : List Str) (y : Str), vs = [.ref a, .str y] ∧ SqL K H a (ts.map V.str) ∧ ts ≠ [] ∧ (ts.length ≤ 14 ∧ ∀ t, t ∈ ts → t.length ≤ 200) ∧ Q (.str (Str.join (Str.ofString " ") ts)) H
theorem ok_listed (B : Bi mg K w) (F : Fun K "listed" "listed" s_listed f fd) : FnOk P w K mg base CX0 1 f fd ["texts", "without"] (sp_listed K) := by
  refine F.ok S_listed (fun vs H Q E h => ?_) (fun cdv A outer s H vs Q E hr h => ?_)
  · obtain ⟨a, ts, y, rfl, _⟩ := h
    rfl
  obtain ⟨a, ts, y, rfl, hS, h0, hl, q⟩ := h
  have S := S_listed
  refine ⟨_, ((pss_cons (ps_if (pt_cmpR op_eq (pe_callB call_len_seq rfl B.b_len PySem.boot_len (pa_cons (pv 0) pa_nil)) pe_int (nomark _)) (pss_one (ps_ret (pv 1))) pss_nil)
    (pss_one (ps_ret (pe_bm PySem.F.plainAttrs_str PySem.F.slot_str_join PySem.F.type_str_join mt_join pe_str (pa_cons (pv 0) pa_nil)))))), ?_⟩
  (first | refine hX _ _ ?_ | skip); (try dsimp only); try walk_at "dr1"
  have l0 : ¬ (((ts.map V.str).length : Int) = 0) := by
    rw [List.length_map]
    cases ts with
    | nil => exact absurd rfl h0
    | cons t ts => simp; omega
  refine ⟨_, .inl hS, ?_⟩
  rw [if_neg l0]
  refine ⟨rfl, _, a, ts, rfl, rfl, hS, join_space hl.1 hl.2, ?_⟩
  rw [Tx.join_eq]
  exact q
def sp_told_roots (K : PySem.W.Frag) : Sp := fun vs H Q _ => ∃ (p : Int) (t b : Addr) (f : List Int) (N : Int) (m : Nat), vs = [.int p, .ref t] ∧ SqL K H t [.ref b, .int N] ∧ SqL K H b (f.map V.int) ∧ (0 < f.length ∧ f.length ≤ 13) ∧ p ∈ Dr.primes ∧ (0 ≤ N ∧ N ≤ 60) ∧ Dr.PolyB f m ∧ m ≤ 2560 ∧ (∃ x, x ∈ f ∧ x ≠ 0) ∧ ¬ Dr.Deep p 60 f ∧
  ∀ (L M : List Int) (H' : Hp), Dr.Found p N.toNat 60 0 0 f M → L.Perm M → L.Pairwise (· ≤ ·) → Same H H' → (L ≠ [] ∧ ∀ x, x ∈ L → x.natAbs < 10 ^ 190) ∧ ∀ H2, Same H' H2 → Q (.str (Str.join (Str.ofString " ") (L.map Tx.tx))) H2
theorem ok_told_roots (B : Bi mg K w) (d_endless_roots : DefE P w K mg base "endless_roots" 66 ["p", "f", "N"] (sp_endless_roots K)) (d_listed : Def P w K mg base "listed" 1 ["texts", "without"] (sp_listed K)) (F : Fun K "told_roots" "told_roots" s_told_roots f fd) : FnOk P w K mg base CX0 67 f fd ["p", "things"] (sp_told_roots K) := by
  refine F.ok S_told_roots (fun vs H Q E h => ?_) (fun cdv A outer s H vs Q E hr h => ?_)
  · obtain ⟨p, t, b, f, N, m, rfl, _⟩ := h
    rfl
  obtain ⟨p, t, b, f, N, m, rfl, hT, hS, hl, hpp, hN, hf, hm, hne, hdp, q⟩ := h
  have S := S_told_roots
  refine ⟨_, ((pss_one (ps_ret (pe_def d_listed hr rfl (pa_cons (pe_comp [] [] rfl rfl trivial trivial rfl rfl (by decide) (by decide) rfl rfl (by decide) (pi_list (pe_defE pass00 d_endless_roots hr rfl (pa_cons (pv 0) (pa_cons (pe_ix ix_list (pv 1) pe_int (fun _ _ => rfl)) (pa_cons (pe_ix ix_list (pv 1) pe_int (fun _ _ => rfl)) pa_nil))))) (fun _ _ _ _ => pts_nil) (fun _ _ _ _ => (pe_callTy call_str_int rfl B.b_str L2.bt_str (pa_cons (pv 0) pa_nil)))) (pa_cons pe_str pa_nil)))))), ?_⟩
  (first | refine hX _ _ ?_ | skip); (try dsimp only); try walk_at "dr1"; (try simp only [sp_endless_roots, sp_listed]); try walk_at "dr1"
  refine ⟨_, hT, _, atI_nat (j := 0) rfl, _, hT, _, atI_nat (j := 1) rfl, b, rfl, f, N, rfl, hS, hl.1, hl.2, hpp, hN.1, hN.2, m, hf, hm, (fun z => by obtain ⟨x, hx, n⟩ := hne; exact absurd (z x hx) n), (fun z => absurd z hdp), fun c L M H1 hF pm so nc g1 kc => ?_⟩
  obtain ⟨⟨L0, bL⟩, q⟩ := q L M H1 hF pm so g1
  have few := hF.few hpp
  have lL : L.length ≤ 14 := by rw [pm.length_eq]; omega
  refine ⟨⟨_, SqL.of kc⟩, ?_⟩
  obtain ⟨Pv, hPv⟩ : ∃ Pv : Nat → List V → Hp → Prop, ∀ i ys H', Pv i ys H' ↔ (H' = H1 ∧ ys = ((L.take i).map Tx.tx).map V.str) := ⟨_, fun _ _ _ => Iff.rfl⟩
  (first | refine hX _ _ ?_ | skip); refine compI L Pv (Nat.le_trans lL (by decide)) ((hPv _ _ _).mpr ⟨rfl, rfl⟩) (fun i ys H2 p => ?_) (fun i x ys H2 hx p => ?_) (fun ys H2 p l2 n_l2 => ?_)
  · obtain ⟨rfl, _⟩ := (hPv _ _ _).mp p
    exact SqL.of kc
  · obtain ⟨rfl, rfl⟩ := (hPv _ _ _).mp p
    (first | refine hX _ _ ?_ | skip); (try dsimp only); try walk_at "dr1"; (try simp only [sp_endless_roots, sp_listed]); try walk_at "dr1"
    refine ⟨log_big (bL x (List.mem_of_getElem? hx)), (hPv _ _ _).mpr ⟨rfl, ?_⟩⟩
    rw [take_next hx, List.map_append, List.map_append]
    rfl
  · obtain ⟨rfl, rfl⟩ := (hPv _ _ _).mp p
    rw [List.take_length]
    refine ⟨l2, rfl, L.map Tx.tx, SqL.of upd_same, ?_, ?_, ?_, ?_⟩
    · intro z
      exact L0 (List.map_eq_nil_iff.mp z)
    · rw [List.length_map]
      exact lL
    · intro t ht
      obtain ⟨x, hx, rfl⟩ := List.mem_map.mp ht
      exact Nat.le_trans (big_len (bL x hx)) (by decide)
    · exact q _ (newS n_l2)
inductive Rl (kvs : List (Key × V)) (H H' : Hp) : List Kd → List Str → List V → Prop
  | nil : Rl kvs H H' [] [] []
  | cons {k : Kd} {z : Str} {v : V} {ks : List Kd} {zs : List Str} {vs : List V} : Rs kvs H H' k z v → Rl kvs H H' ks zs vs → Rl kvs H H' (k :: ks) (z :: zs) (v :: vs)
theorem Rl.same {kvs : List (Key × V)} {H H' H2 : Hp} {ks : List Kd} {zs : List Str} {vs : List V} (h : Rl kvs H H' ks zs vs) (g : Same H' H2) : Rl kvs H H2 ks zs vs := by
  induction h with
  | nil => exact .nil
  | cons r _ ih => exact .cons (r.same (Same.refl _) g) ih
theorem Rl.snoc {kvs : List (Key × V)} {H H' : Hp} {ks : List Kd} {zs : List Str} {vs : List V} {k : Kd} {z : Str} {v : V} (h : Rl kvs H H' ks zs vs) (r : Rs kvs H H' k z v) : Rl kvs H H' (ks ++ [k]) (zs ++ [z]) (vs ++ [v]) := by
  induction h with
  | nil => exact .cons r .nil
  | cons r' _ ih => exact .cons r' ih
inductive WdL (kvs : List (Key × V)) : List Kd → List Str → Prop
  | nil : WdL kvs [] []
  | cons {k : Kd} {z : Str} {ks : List Kd} {zs : List Str} : Wd kvs k z → WdL kvs ks zs → WdL kvs (k :: ks) (z :: zs)
theorem WdL.len {kvs : List (Key × V)} {ks : List Kd} {zs : List Str} (h : WdL kvs ks zs) : ks.length = zs.length := by
  induction h with
  | nil => rfl
  | cons _ _ ih => simp [ih]
theorem WdL.at {kvs : List (Key × V)} {ks : List Kd} {zs : List Str} (h : WdL kvs ks zs) {i : Nat} {k : Kd} {z : Str} (e1 : ks[i]? = some k) (e2 : zs[i]? = some z) : Wd kvs k z := by
  induction h generalizing i with
  | nil => cases e1
  | cons w _ ih =>
    cases i with
    | zero => cases e1; cases e2; exact w
    | succ i => exact ih e1 e2
theorem tx_val {x : Int} (h : x.natAbs < 10 ^ 60) : Tx.valOf (Tx.tx x).cps.toList = x := (Tx.tx_wr h).2
theorem small_val {x : Int} (h : 0 ≤ x ∧ x ≤ 60) : x.natAbs < 10 ^ 60 := Nat.lt_of_le_of_lt (show x.natAbs ≤ 60 by omega) (by decide +kernel)
theorem wd_depth {kvs : List (Key × V)} {N : Int} (h : 0 ≤ N ∧ N ≤ 60) : Wd kvs .depth (Tx.tx N) := .depth (Tx.tx_wr (small_val h)).1 (by rw [tx_val (small_val h)]; exact h)
theorem wd_number {kvs : List (Key × V)} {x : Int} (h : x.natAbs < 10 ^ 60) : Wd kvs .number (Tx.tx x) := .number (Tx.tx_wr h).1
theorem wd_poly {kvs : List (Key × V)} {f : List Int} (h0 : f ≠ []) (hf : f.length ≤ 13) (hb : ∀ x, x ∈ f → x.natAbs < 10 ^ 60) : Wd kvs .poly (Tx.shown f) := .poly (by
  have := Tx.join_len (ms := f) (by omega) hb
  exact Nat.le_trans this (by decide)) (Tx.shown_poly h0 hf hb)
theorem Rl.inv {kvs : List (Key × V)} {H H' : Hp} {k : Kd} {z : Str} {ks : List Kd} {zs : List Str} {vs : List V} (h : Rl kvs H H' (k :: ks) (z :: zs) vs) : ∃ v vs', vs = v :: vs' ∧ Rs kvs H H' k z v ∧ Rl kvs H H' ks zs vs' := by
  cases h with
  | cons r t => exact ⟨_, _, rfl, r, t⟩
theorem Rl.inv0 {kvs : List (Key × V)} {H H' : Hp} {vs : List V} (h : Rl kvs H H' [] [] vs) : vs = [] := by
  cases h
  rfl
theorem Rs.new_inv {kvs : List (Key × V)} {H H' : Hp} {z : Str} {v : V} (h : Rs kvs H H' .new z v) : v = .str z := by
  cases h
  rfl
theorem Rs.name_inv {kvs : List (Key × V)} {H H' : Hp} {z : Str} {v : V} (h : Rs kvs H H' .name z v) : valV kvs (Sum.inr z) = some v := by
  cases h with
  | name e => exact e
theorem Rs.poly_inv {kvs : List (Key × V)} {H H' : Hp} {z : Str} {v : V} (h : Rs kvs H H' .poly z v) : ∃ ms c, v = .ref c ∧ Tx.poly z = some ms ∧ H c = none ∧ H' c = some (.lst (ms.map V.int)) := by
  cases h with
  | poly e n k => exact ⟨_, _, rfl, e, n, k⟩
theorem Rs.depth_inv {kvs : List (Key × V)} {H H' : Hp} {N : Int} {v : V} (h : Rs kvs H H' .depth (Tx.tx N) v) (hN : 0 ≤ N ∧ N ≤ 60) : v = .int N := by
  cases h
  rw [tx_val (small_val hN)]
theorem Rs.number_inv {kvs : List (Key × V)} {H H' : Hp} {x : Int} {v : V} (h : Rs kvs H H' .number (Tx.tx x) v) (hx : x.natAbs < 10 ^ 60) : v = .int x := by
  cases h
  rw [tx_val hx]
def Tab_MADE (K : PySem.W.Frag) : Addr → Sp → Prop := fun g sp => (g = 469 ∧ sp = sp_made_poly K) ∨ (g = 483 ∧ sp = sp_made_seen K)
def Tab_TOLD (K : PySem.W.Frag) : Addr → Sp → Prop := fun g sp => (g = 516 ∧ sp = sp_told_single K) ∨ (g = 523 ∧ sp = sp_told_root K) ∨ (g = 528 ∧ sp = sp_told_roots K)
structure Stand (K : PySem.W.Frag) (H : Hp) (kvs : List (Key × V)) (x : Str) (b : Addr) (f : List Int) : Prop where
  nm : Nm x
  val : valV kvs (Sum.inr x) = some (.ref b)
  sq : SqL K H b (f.map V.int)
  len : 0 < f.length ∧ f.length ≤ 13
  bits : Dr.PolyB f 700
inductive Deed (K : PySem.W.Frag) (H : Hp) (kd : Addr) (p : Int) (kvs : List (Key × V)) (Q : VK) : Str → List Kd → Addr → List Str → Prop
  | poly {z : Str} {f : List Int} : Nm z → f ≠ [] → f.length ≤ 13 → (∀ x, x ∈ f → x.natAbs < 10 ^ 60) → (∀ l H1, Same H H1 → H l = none → H1 l = some (.lst (f.map V.int)) → Q (.str "ok") (upd H1 kd (.dK (putK kvs (Sum.inr z) (.ref l))))) → Deed K H kd p kvs Q "poly" [.new, .poly] 420 [z, Tx.shown f]
  | seen {z x : Str} {b : Addr} {f : List Int} {a N : Int} : Nm z → Stand K H kvs x b f → a.natAbs < 10 ^ 60 → (0 ≤ N ∧ N ≤ 60) → (∀ s, Dr.IsSeen f a (p ^ N.toNat) s → ∀ y, y ∈ s → y.natAbs < 10 ^ 60) → (∀ l s H1, Dr.IsSeen f a (p ^ N.toNat) s → Same H H1 → H l = none → H1 l = some (.lst (s.map V.int)) → Q (.str "ok") (upd H1 kd (.dK (putK kvs (Sum.inr z) (.ref l))))) → Deed K H kd p kvs Q "seen" [.new, .name, .number, .depth] 422 [z, x, Tx.tx a, Tx.tx N]
  | single {x : Str} {b : Addr} {f : List Int} {a : Int} {d : Nat} {u : Int} : Stand K H kvs x b f → a.natAbs < 10 ^ 60 → Dr.Single p f a d u → d ≤ 100000 → (∀ H', Same H H' → Q (.str (Tx.tx (d : Int))) H') → Deed K H kd p kvs Q "single" [.name, .number] 429 [x, Tx.tx a]
  | root {x : Str} {b : Addr} {f : List Int} {a N : Int} {d : Nat} {u : Int} : Stand K H kvs x b f → a.natAbs < 10 ^ 60 → (0 ≤ N ∧ N ≤ 60) → Dr.Single p f a d u → (∀ (x : Int) (H' : Hp), Same H H' → ((N ≤ (d : Int) + 1 ∧ x = a % p ^ N.toNat) ∨ ((d : Int) + 1 < N ∧ Dr.Root p f a d N.toNat x)) → Q (.str (Tx.tx x)) H') → Deed K H kd p kvs Q "root" [.name, .number, .depth] 430 [x, Tx.tx a, Tx.tx N]
  | roots {x : Str} {b : Addr} {f : List Int} {N : Int} : Stand K H kvs x b f → (0 ≤ N ∧ N ≤ 60) → (∃ y, y ∈ f ∧ y ≠ 0) → ¬ Dr.Deep p 60 f → (∀ (L M : List Int) (H' : Hp), Dr.Found p N.toNat 60 0 0 f M → L.Perm M → L.Pairwise (· ≤ ·) → Same H H' → (L ≠ [] ∧ ∀ x, x ∈ L → x.natAbs < 10 ^ 190) ∧ ∀ H2, Same H' H2 → Q (.str (Str.join (Str.ofString " ") (L.map Tx.tx))) H2) → Deed K H kd p kvs Q "roots" [.name, .depth] 431 [x, Tx.tx N]
theorem Deed.row {mg : Str → Option Value} {K : PySem.W.Frag} {w : World} {H : Hp} {kd : Addr} {p : Int} {kvs : List (Key × V)} {Q : VK} {dw : Str} {ks : List Kd} {a : Addr} {ws : List Str} (r : Deed K H kd p kvs Q dw ks a ws) (B : Bi mg K w) : atK l_WANTED dw = some (.ref a) ∧ KTup K a (ks.map fun k => V.str k.txt) := by
  cases r with
  | poly => exact ⟨w_WANTED_poly, B.tu_420⟩
  | seen => exact ⟨w_WANTED_seen, B.tu_422⟩
  | single => exact ⟨w_WANTED_single, B.tu_429⟩
  | root => exact ⟨w_WANTED_root, B.tu_430⟩
  | roots => exact ⟨w_WANTED_roots, B.tu_431⟩
theorem Deed.short {K : PySem.W.Frag} {H : Hp} {kd : Addr} {p : Int} {kvs : List (Key × V)} {Q : VK} {dw : Str} {ks : List Kd} {a : Addr} {ws : List Str} (r : Deed K H kd p kvs Q dw ks a ws) : ks.length ≤ 4 := by
  cases r <;> simp
theorem Deed.free {K : PySem.W.Frag} {H : Hp} {kd : Addr} {p : Int} {kvs : List (Key × V)} {Q : VK} {dw : Str} {ks : List Kd} {a : Addr} {ws : List Str} (r : Deed K H kd p kvs Q dw ks a ws) : ∀ w, w ∈ dw :: ws → 32 ∉ w.cps.toList := by
  intro w hw
  cases r with
  | poly hn _ _ _ _ =>
    simp only [List.mem_cons, List.not_mem_nil, or_false] at hw
    rcases hw with rfl | rfl | rfl
    · decide +kernel
    · exact nm_free hn
    · exact Tx.shown_free _
  | seen hn hs _ _ _ _ =>
    simp only [List.mem_cons, List.not_mem_nil, or_false] at hw
    rcases hw with rfl | rfl | rfl | rfl | rfl
    · decide +kernel
    · exact nm_free hn
    · exact nm_free hs.nm
    · exact Tx.tx_free _
    · exact Tx.tx_free _
  | single hs _ _ _ _ =>
    simp only [List.mem_cons, List.not_mem_nil, or_false] at hw
    rcases hw with rfl | rfl | rfl
    · decide +kernel
    · exact nm_free hs.nm
    · exact Tx.tx_free _
  | root hs _ _ _ _ =>
    simp only [List.mem_cons, List.not_mem_nil, or_false] at hw
    rcases hw with rfl | rfl | rfl | rfl
    · decide +kernel
    · exact nm_free hs.nm
    · exact Tx.tx_free _
    · exact Tx.tx_free _
  | roots hs _ _ _ _ =>
    simp only [List.mem_cons, List.not_mem_nil, or_false] at hw
    rcases hw with rfl | rfl | rfl
    · decide +kernel
    · exact nm_free hs.nm
    · exact Tx.tx_free _
theorem Deed.wd {K : PySem.W.Frag} {H : Hp} {kd : Addr} {p : Int} {kvs : List (Key × V)} {Q : VK} {dw : Str} {ks : List Kd} {a : Addr} {ws : List Str} (r : Deed K H kd p kvs Q dw ks a ws) : WdL kvs ks ws := by
  cases r with
  | poly hn h0 hf hb _ => exact .cons (.new hn) (.cons (wd_poly h0 hf hb) .nil)
  | seen hn hs ha hN _ _ => exact .cons (.new hn) (.cons (.name hs.nm hs.val) (.cons (wd_number ha) (.cons (wd_depth hN) .nil)))
  | single hs ha _ _ _ => exact .cons (.name hs.nm hs.val) (.cons (wd_number ha) .nil)
  | root hs ha hN _ _ => exact .cons (.name hs.nm hs.val) (.cons (wd_number ha) (.cons (wd_depth hN) .nil))
  | roots hs hN _ _ _ => exact .cons (.name hs.nm hs.val) (.cons (wd_depth hN) .nil)
theorem sm60 {x : Int} (h : x.natAbs < 10 ^ 60) : Dr.Sm x 200 := Nat.lt_of_lt_of_le h (by decide +kernel)
def sp_say (K : PySem.W.Frag) : Sp := fun vs H Q _ => ∃ (d dx kd : Addr) (p : Int) (kvs : List (Key × V)) (dw : Str) (ks : List Kd) (a : Addr) (ws : List Str), vs = [.ref d, .str (Str.join (Str.ofString " ") (dw :: ws))] ∧ DeskAt K H d dx kd p kvs ∧ p ∈ Dr.primes ∧ kvs.length < 900 ∧ (Str.join (Str.ofString " ") (dw :: ws)).length ≤ 2000 ∧ Deed K H kd p kvs Q dw ks a ws
theorem ok_say (B : Bi mg K w) (t_TOLD : TabOk P w K mg base CX0 67 (Tab_TOLD K)) (t_MADE : TabOk P w K mg base CX0 3 (Tab_MADE K)) (d_words_of : Def P w K mg base "words_of" 1 ["row"] (sp_words_of K)) (d_thing_of : Met P w K mg base CX0 (clK K "Desk") "thing_of" 5 ["self", "wanted", "word"] (sp_thing_of K)) (d_keep : Met P w K mg base CX0 (clK K "Desk") "keep" 3 ["self", "name", "polynomial"] (sp_keep K)) (F : Fun K "say" "Desk.say" s_say f fd) : FnOk P w K mg base CX0 68 f fd ["self", "row"] (sp_say K) := by
  refine F.ok S_say (fun vs H Q E h => ?_) (fun cdv A outer s H vs Q E hr h => ?_)
  · obtain ⟨d, dx, kd, p, kvs, dw, ks, a, ws, rfl, _⟩ := h
    rfl
  obtain ⟨d, dx, kd, p, kvs, dw, ks, at0, ws, rfl, hd, hp, hk, hl, r⟩ := h
  have S := S_say
  refine ⟨_, ((pss_cons (ps_set (i := 2) S.nd rfl (Or.inl rfl) (pe_def d_words_of hr rfl (pa_cons (pv 1) pa_nil)))
    (pss_cons (ps_set (i := 3) S.nd rfl (Or.inl rfl) (pe_ix ix_list (pv 2) pe_int (fun _ _ => rfl)))
    (pss_cons (ps_comp2 [0] ["self"] rfl S.nd (k := 4) rfl rfl rfl rfl ⟨rfl, trivial⟩ ⟨rfl, rfl, rfl, rfl, trivial⟩ rfl rfl (by decide) (by decide) rfl rfl rfl (by decide) (pi_zipT rfl B.b_zip (pe_kget B.kd_WANTED rfl B.gd_WANTED (pv 3) (fun _ _ => rfl)) (pe_slice sl_list (pv 2) (po_some pe_int) po_none)) (fun _ _ _ _ => pts_nil) (fun _ _ _ _ => (pe_met pass0 B.cl_Desk d_thing_of hr (pv 2) (pa_cons (pv 0) (pa_cons (pv 1) pa_nil)))))
    (pss_cons (ps_if (pt_cmp (pc_kin B.kd_MADE rfl B.gd_MADE (pv 3))) (pss_one (ps_ret (pe_met pass0 B.cl_Desk d_keep hr (pv 0) (pa_cons (pe_ix ix_list (pv 2) pe_int (fun _ _ => rfl)) (pa_cons (pe_callV t_MADE (pe_kget B.kd_MADE rfl B.gd_MADE (pv 3) (fun _ _ => rfl)) hr pass0 (pa_cons (pe_fld (pv 0) rfl) (pa_cons (pv 4) pa_nil))) pa_nil))))) pss_nil)
    (pss_cons (ps_if (pt_cmp (pc_kin B.kd_TOLD rfl B.gd_TOLD (pv 3))) (pss_one (ps_ret (pe_callV t_TOLD (pe_kget B.kd_TOLD rfl B.gd_TOLD (pv 3) (fun _ _ => rfl)) hr pass0 (pa_cons (pe_fld (pv 0) rfl) (pa_cons (pv 4) pa_nil))))) pss_nil)
    (pss_cons ps_never
    (pss_one ps_never)))))))), ?_⟩
  obtain ⟨hat, htu⟩ := r.row B
  have hfr := r.free
  have hwd := r.wd
  have hlen := hwd.len
  have hk5 := r.short
  have hsp : Txt.split (Str.join (Str.ofString " ") (dw :: ws)) (Str.ofString " ") = dw :: ws := by
    rw [Tx.space_is]
    exact Tx.split_of (by simp) hfr
  (try dsimp only); (first | refine hX _ _ ?_ | skip); (try dsimp only); (first | refine seqX (fun X hX => ?_) | skip); try walk_at "dr2"; (try simp only [sp_words_of, sp_thing_of, sp_keep]); try walk_at "dr2"
  refine ⟨hl, _, _, hsp, _, hat, _, htu, by rw [List.length_map]; exact hlen, fun l1 H1 g1 n1 k1 => ?_⟩
  (try dsimp only); (first | refine hX _ _ ?_ | skip); (try dsimp only); (first | refine seqX (fun X hX => ?_) | skip); try walk_at "dr2"; (try simp only [sp_words_of, sp_thing_of, sp_keep]); try walk_at "dr2"
  refine ⟨_, SqL.of k1, _, atI_nat (j := 0) rfl, ?_⟩
  (try dsimp only); (first | refine hX _ _ ?_ | skip); (try dsimp only); (first | refine seqX (fun X hX => ?_) | skip); try walk_at "dr2"; (try simp only [sp_words_of, sp_thing_of, sp_keep]); try walk_at "dr2"
  refine ⟨_, hat, _, SqL.of k1, ?_⟩
  intro l2 n_l2; generalize e_l2 : upd _ l2 _ = H2; obtain ⟨g2, k2⟩ := newH e_l2 n_l2; clear e_l2
  have k2 : H2 l2 = some (.lst (ws.map V.str)) := by
    rw [k2, show V.str dw :: ws.map V.str = (dw :: ws).map V.str from rfl, cut_from V.str (dw :: ws) (by decide)]
    rfl
  refine ⟨⟨_, htu.sq _⟩, ⟨_, SqL.of k2⟩, ?_⟩
  have hd2 := (hd.same g1).same g2
  obtain ⟨Pc, hPc⟩ : ∃ Pc : Nat → List V → Hp → Prop, ∀ i ys H3, Pc i ys H3 ↔ (Same H2 H3 ∧ Rl kvs H2 H3 (ks.take i) (ws.take i) ys) := ⟨_, fun _ _ _ => Iff.rfl⟩
  refine comp2ZT (ks.map fun k => V.str k.txt) (ws.map V.str) Pc (by rw [List.length_map]; exact Nat.le_trans hk5 (by decide)) (by rw [List.length_map, List.length_map]; exact hlen) ((hPc _ _ _).mpr ⟨Same.refl _, .nil⟩) (fun i ys H3 pc => ⟨htu.sq _, SqL.of (((hPc _ _ _).mp pc).1 _ _ k2)⟩) (fun i x y ys H3 H4 hx' hy' pc g4 => ?_) (fun ys H3 pc l n_l => ?_)
  · obtain ⟨g3, hrl⟩ := (hPc _ _ _).mp pc
    have hd4 := (hd2.same g3).same g4
    rw [List.getElem?_map] at hx' hy'
    cases ek : ks[i]? with
    | none => rw [ek] at hx'; cases hx'
    | some k =>
      cases ew : ws[i]? with
      | none => rw [ew] at hy'; cases hy'
      | some z =>
        rw [ek] at hx'
        rw [ew] at hy'
        cases hx'
        cases hy'
        (first | refine hX _ _ ?_ | skip); (try dsimp only); try walk_at "dr1"; (try simp only [sp_words_of, sp_thing_of, sp_keep]); try walk_at "dr1"
        refine ⟨_, _, hd4.ins, look_no (by decide +kernel) (by decide +kernel), dx, kd, p, kvs, k, rfl, hd4, hwd.at ek ew, fun v H' g5 rs => (hPc _ _ _).mpr ⟨g3.trans (g4.trans g5), ?_⟩⟩
        rw [take_next ek, take_next ew]
        exact (hrl.same (g4.trans g5)).snoc (rs.same (g3.trans g4) (Same.refl _))
  obtain ⟨g3, hrl⟩ := (hPc _ _ _).mp pc
  rw [List.length_map, List.take_length, hlen, List.take_length] at hrl
  have g5 := newS n_l (o := HO.lst ys)
  have k5 : upd H3 l (HO.lst ys) l = some (HO.lst ys) := upd_same
  generalize upd H3 l (HO.lst ys) = H5 at g5 k5 ⊢
  have hd5 := ((hd2.same g3).same g5)
  have hrl := hrl.same g5
  have G2 := g1.trans g2
  have G5 := G2.trans (g3.trans g5)
  have k15 := g5 _ _ (g3 _ _ (g2 _ _ k1))
  clear pc hPc
  have p2 := Dr.primes_ge hp
  cases r with
  | poly hn h0 hf hb q =>
    obtain ⟨v1, _, rfl, r1, hrl⟩ := hrl.inv
    obtain ⟨v2, _, rfl, r2, hrl⟩ := hrl.inv
    obtain rfl := hrl.inv0
    obtain rfl := r1.new_inv
    obtain ⟨ms, c, rfl, e, nc, kc⟩ := r2.poly_inv
    rw [Tx.shown_poly h0 hf hb] at e
    cases e
    (try dsimp only); (first | refine hX _ _ ?_ | skip); (try dsimp only); (first | refine seqX (fun X hX => ?_) | skip); try walk_at "dr2"; (try simp only [sp_words_of, sp_thing_of, sp_keep]); try walk_at "dr2"
    rw [w_MADE_poly, if_pos (by rfl)]
    refine ⟨_, _, hd5.ins, look_no (by decide +kernel) (by decide +kernel), _, SqL.of k15, _, atI_nat (j := 1) rfl, _, rfl, _, .inl ⟨rfl, rfl⟩, _, _, _, hd5.ins, B.cl_Desk, B.na_prime, _, look_prime, ?_⟩
    unfold sp_made_poly
    refine ⟨p, l, _, _, _, rfl, SqL.of k5, ?_⟩
    refine ⟨dx, kd, _, _, kvs, _, rfl, rfl, hd5.ins, look_kept, hd5.kept, by omega, _, SqL.of kc, by omega, hb, fun H6 g6 => ?_⟩
    exact q _ H6 (G5.trans g6) (none_of G2 nc) (g6 _ _ kc)
  | seen hn hs ha hN hb q =>
    obtain ⟨v1, _, rfl, r1, hrl⟩ := hrl.inv
    obtain ⟨v2, _, rfl, r2, hrl⟩ := hrl.inv
    obtain ⟨v3, _, rfl, r3, hrl⟩ := hrl.inv
    obtain ⟨v4, _, rfl, r4, hrl⟩ := hrl.inv
    obtain rfl := hrl.inv0
    obtain rfl := r1.new_inv
    have e2 := r2.name_inv
    rw [hs.val] at e2
    cases e2
    obtain rfl := r3.number_inv ha
    obtain rfl := r4.depth_inv hN
    (try dsimp only); (first | refine hX _ _ ?_ | skip); (try dsimp only); (first | refine seqX (fun X hX => ?_) | skip); try walk_at "dr2"; (try simp only [sp_words_of, sp_thing_of, sp_keep]); try walk_at "dr2"
    rw [w_MADE_seen, if_pos (by rfl)]
    refine ⟨_, _, hd5.ins, look_no (by decide +kernel) (by decide +kernel), _, SqL.of k15, _, atI_nat (j := 1) rfl, _, rfl, _, .inr ⟨rfl, rfl⟩, _, _, _, hd5.ins, B.cl_Desk, B.na_prime, _, look_prime, ?_⟩
    unfold sp_made_seen
    refine ⟨p, l, _, _, _, _, _, 700, 700, rfl, SqL.of k5, G5.seq hs.sq, by have := hs.len; omega, by omega, by omega, hs.bits, (sm60 ha).mono (by decide), by omega, fun c s H6 h6 n6 g6 k6 => ?_⟩
    have hd6 := hd5.same g6
    have ls := h6.len
    have lf := hs.len
    refine ⟨dx, kd, _, _, kvs, _, rfl, rfl, hd6.ins, look_kept, hd6.kept, by omega, s, SqL.of k6, by omega, hb s h6, fun H7 g7 => ?_⟩
    exact q _ s H7 h6 (G5.trans (g6.trans g7)) (none_of G5 n6) (g7 _ _ k6)
  | single hs ha hsi hd q =>
    obtain ⟨v1, _, rfl, r1, hrl⟩ := hrl.inv
    obtain ⟨v2, _, rfl, r2, hrl⟩ := hrl.inv
    obtain rfl := hrl.inv0
    have e1 := r1.name_inv
    rw [hs.val] at e1
    cases e1
    obtain rfl := r2.number_inv ha
    (try dsimp only); (first | refine hX _ _ ?_ | skip); (try dsimp only); (first | refine seqX (fun X hX => ?_) | skip); try walk_at "dr2"; (try simp only [sp_words_of, sp_thing_of, sp_keep]); try walk_at "dr2"
    rw [w_MADE_single, if_neg (by intro z; cases z)]
    (try dsimp only); (first | refine hX _ _ ?_ | skip); (try dsimp only); (first | refine seqX (fun X hX => ?_) | skip); try walk_at "dr2"; (try simp only [sp_words_of, sp_thing_of, sp_keep]); try walk_at "dr2"
    rw [w_TOLD_single, if_pos (by rfl)]
    refine ⟨_, rfl, _, .inl ⟨rfl, rfl⟩, _, _, _, hd5.ins, B.cl_Desk, B.na_prime, _, look_prime, ?_⟩
    unfold sp_told_single
    exact ⟨p, l, _, _, _, 700, 200, _, _, rfl, SqL.of k5, G5.seq hs.sq, hs.len, hs.bits, sm60 ha, by decide, by omega, hsi, hd, fun H6 g6 => q H6 (G5.trans g6)⟩
  | root hs ha hN hsi q =>
    obtain ⟨v1, _, rfl, r1, hrl⟩ := hrl.inv
    obtain ⟨v2, _, rfl, r2, hrl⟩ := hrl.inv
    obtain ⟨v3, _, rfl, r3, hrl⟩ := hrl.inv
    obtain rfl := hrl.inv0
    have e1 := r1.name_inv
    rw [hs.val] at e1
    cases e1
    obtain rfl := r2.number_inv ha
    obtain rfl := r3.depth_inv hN
    (try dsimp only); (first | refine hX _ _ ?_ | skip); (try dsimp only); (first | refine seqX (fun X hX => ?_) | skip); try walk_at "dr2"; (try simp only [sp_words_of, sp_thing_of, sp_keep]); try walk_at "dr2"
    rw [w_MADE_root, if_neg (by intro z; cases z)]
    (try dsimp only); (first | refine hX _ _ ?_ | skip); (try dsimp only); (first | refine seqX (fun X hX => ?_) | skip); try walk_at "dr2"; (try simp only [sp_words_of, sp_thing_of, sp_keep]); try walk_at "dr2"
    rw [w_TOLD_root, if_pos (by rfl)]
    refine ⟨_, rfl, _, .inr (.inl ⟨rfl, rfl⟩), _, _, _, hd5.ins, B.cl_Desk, B.na_prime, _, look_prime, ?_⟩
    unfold sp_told_root
    exact ⟨p, l, _, _, _, _, 700, 200, _, _, rfl, SqL.of k5, G5.seq hs.sq, hs.len, hp, hs.bits, sm60 ha, by decide, hN, hsi, fun H6 g6 => ⟨fun c => q _ H6 (G5.trans g6) (.inl ⟨c, rfl⟩), fun c r R => q r H6 (G5.trans g6) (.inr ⟨c, R⟩)⟩⟩
  | roots hs hN hne hdp q =>
    obtain ⟨v1, _, rfl, r1, hrl⟩ := hrl.inv
    obtain ⟨v2, _, rfl, r2, hrl⟩ := hrl.inv
    obtain rfl := hrl.inv0
    have e1 := r1.name_inv
    rw [hs.val] at e1
    cases e1
    obtain rfl := r2.depth_inv hN
    (try dsimp only); (first | refine hX _ _ ?_ | skip); (try dsimp only); (first | refine seqX (fun X hX => ?_) | skip); try walk_at "dr2"; (try simp only [sp_words_of, sp_thing_of, sp_keep]); try walk_at "dr2"
    rw [w_MADE_roots, if_neg (by intro z; cases z)]
    (try dsimp only); (first | refine hX _ _ ?_ | skip); (try dsimp only); (first | refine seqX (fun X hX => ?_) | skip); try walk_at "dr2"; (try simp only [sp_words_of, sp_thing_of, sp_keep]); try walk_at "dr2"
    rw [w_TOLD_roots, if_pos (by rfl)]
    refine ⟨_, rfl, _, .inr (.inr ⟨rfl, rfl⟩), _, _, _, hd5.ins, B.cl_Desk, B.na_prime, _, look_prime, ?_⟩
    unfold sp_told_roots
    exact ⟨p, l, _, _, _, 700, rfl, SqL.of k5, G5.seq hs.sq, hs.len, hp, hN, hs.bits, by decide, hne, hdp, fun L M H6 hF pm so g6 => q L M H6 hF pm so (G5.trans g6)⟩
def sp__law_times (K : PySem.W.Frag) : Sp := fun vs H Q _ => ∃ (a b : Addr) (f g : List Int) (m n : Nat), vs = [.ref a, .ref b] ∧ SqL K H a (f.map V.int) ∧ SqL K H b (g.map V.int) ∧ (0 < f.length ∧ f.length ≤ 60 ∧ 0 < g.length ∧ g.length ≤ 60) ∧ Dr.PolyB f m ∧ Dr.PolyB g n ∧ (m ≤ 1000000 ∧ n ≤ 1000000) ∧
  ∀ (c : Addr) (r : List Int) (H' : Hp), Dr.IsProd f g r → Dr.PolyB r (m + n + 12) → H c = none → Same H H' → H' c = some (.lst (r.map V.int)) → Q (.ref c) H'
theorem ok__law_times (B : Bi mg K w) (F : Fun K "_law_times" "_law_times" s__law_times f fd) : FnOk P w K mg base CX0 1 f fd ["f", "g"] (sp__law_times K) := by
  refine F.ok S__law_times (fun vs H Q E h => ?_) (fun cdv A outer s H vs Q E hr h => ?_)
  · obtain ⟨a, b, f, g, m, n, rfl, _⟩ := h
    rfl
  obtain ⟨a, b, f, g, m, n, rfl, hS, hS', hl, hf, hg, hmn, q⟩ := h
  have S := S__law_times
  refine ⟨_, ((pss_cons (ps_set (i := 2) S.nd rfl (Or.inl rfl) (pe_op op_rep (pe_lst (pa_cons pe_int pa_nil)) (pe_op op_sub (pe_op op_add (pe_callB call_len_seq rfl B.b_len PySem.boot_len (pa_cons (pv 0) pa_nil)) (pe_callB call_len_seq rfl B.b_len PySem.boot_len (pa_cons (pv 1) pa_nil))) pe_int)))
    (pss_cons (ps_for PassesOwn.never rfl (pi_range1 rfl B.b_range (pa_cons (pe_callB call_len_seq rfl B.b_len PySem.boot_len (pa_cons (pv 0) pa_nil)) pa_nil)) (pg_name (i := 3) S.nd rfl (Or.inl rfl)) (pss_one (ps_for PassesOwn.never rfl (pi_range1 rfl B.b_range (pa_cons (pe_callB call_len_seq rfl B.b_len PySem.boot_len (pa_cons (pv 1) pa_nil)) pa_nil)) (pg_name (i := 4) S.nd rfl (Or.inl rfl)) (pss_one (ps_asg (pe_op op_add (pe_ix ix_list (pv 2) (pe_op op_add (pv 3) (pv 4)) (fun _ _ => rfl)) (pe_op op_mulW (pe_ix ix_list (pv 0) (pv 3) (fun _ _ => rfl)) (pe_ix ix_list (pv 1) (pv 4) (fun _ _ => rfl)))) (pg_sub (pv 2) (pe_op op_add (pv 3) (pv 4)) set_list))))))
    (pss_one (ps_ret (pv 2)))))), ?_⟩
  (first | refine hX _ _ ?_ | skip); (try dsimp only); try walk_at "dr1"
  refine ⟨by decide, ?_⟩
  intro l0 n_l0; generalize e_l0 : upd _ l0 _ = H1; obtain ⟨g1, k1⟩ := newH e_l0 n_l0; clear e_l0
  refine ⟨_, .inl (g1.seq hS), _, .inl (g1.seq hS'), ?_⟩
  simp only [List.length_map]
  refine ⟨_, k1, by omega, by omega, by simp only [List.length_cons, List.length_nil]; unfold sizeLine; omega, ?_⟩
  intro l n_l; generalize e_l : upd _ l _ = H2; obtain ⟨g2, k2⟩ := newH e_l n_l; clear e_l
  rw [rep_zero] at k2
  have g12 := g1.trans g2
  have nl : H l = none := g1.free n_l
  refine ⟨_, .inl (g12.seq hS), by simp only [List.length_map]; omega, by simp only [List.length_map]; omega, ?_⟩
  obtain ⟨M, hM⟩ : ∃ M : Nat, M = 2 ^ (m + n) := ⟨_, rfl⟩
  obtain ⟨Pv, hPv⟩ : ∃ Pv : Nat → St → Hp → Prop, ∀ i σ H3, Pv i σ H3 ↔ (Same H H3 ∧ ∃ (r : List Int) (t3 t4 : Option V), r.length + 1 = f.length + g.length ∧ (∀ c, c ∈ r → c.natAbs ≤ i * g.length * M) ∧ (∀ x, Dr.pev r x = Dr.pev (f.take i) x * Dr.pev g x) ∧ H3 l = some (.lst (r.map V.int)) ∧ σ = [some (.ref a), some (.ref b), some (.ref l), t3, t4]) := ⟨_, fun _ _ _ => Iff.rfl⟩
  (first | refine hX _ _ ?_ | skip); refine forR Pv ((hPv _ _ _).mpr ⟨g12, _, none, none, by rw [List.length_replicate]; omega, fun c hc => by rw [(List.mem_replicate.mp hc).2]; simp, fun x => by rw [Dr.pev_zeros]; simp [Dr.pev], k2, rfl⟩) ?_ ?_
  · intro i σ H3 hi z
    obtain ⟨g3, r, t3, t4, hrl, hrb, hre, k3, rfl⟩ := (hPv _ _ _).mp z
    simp only [List.length_map, Int.toNat_natCast] at hi
    obtain ⟨c, hc⟩ : ∃ c, f[i]? = some c := ⟨_, List.getElem?_eq_getElem hi⟩
    have ac : atI (f.map V.int) (0 + (i : Int)) = some (.int c) := by
      rw [Int.zero_add]
      exact atI_nat (by rw [List.getElem?_map, hc]; rfl)
    (first | refine hX _ _ ?_ | skip); (try dsimp only); try walk_at "dr1"
    refine ⟨_, .inl (g3.seq hS'), by simp only [List.length_map]; omega, by simp only [List.length_map]; omega, ?_⟩
    obtain ⟨Pw, hPw⟩ : ∃ Pw : Nat → St → Hp → Prop, ∀ j σ H5, Pw j σ H5 ↔ (Same H H5 ∧ ∃ (r : List Int) (t4 : Option V), r.length + 1 = f.length + g.length ∧ (∀ c, c ∈ r → c.natAbs ≤ (i * g.length + j) * M) ∧ (∀ x, Dr.pev r x = Dr.pev (f.take i) x * Dr.pev g x + c * x ^ i * Dr.pev (g.take j) x) ∧ H5 l = some (.lst (r.map V.int)) ∧ σ = [some (.ref a), some (.ref b), some (.ref l), some (.int (0 + (i : Int))), t4]) := ⟨_, fun _ _ _ => Iff.rfl⟩
    (first | refine hX _ _ ?_ | skip); refine forR Pw ((hPw _ _ _).mpr ⟨g3, r, t4, hrl, hrb, fun x => by rw [hre]; simp [Dr.pev], k3, rfl⟩) ?_ ?_
    · intro j σ H5 hj z
      obtain ⟨g5, r, t4, hrl, hrb, hre, k5, rfl⟩ := (hPw _ _ _).mp z
      simp only [List.length_map, Int.toNat_natCast] at hj
      obtain ⟨d, hd⟩ : ∃ d, g[j]? = some d := ⟨_, List.getElem?_eq_getElem hj⟩
      have ad : atI (g.map V.int) (0 + (j : Int)) = some (.int d) := by
        rw [Int.zero_add]
        exact atI_nat (by rw [List.getElem?_map, hd]; rfl)
      obtain ⟨v, e1, e2, e3, _⟩ := get_int (fs := r) (k := 0 + (i : Int) + (0 + (j : Int))) (by omega) (by omega)
      have hcd : (c * d).natAbs ≤ M := by
        rw [hM]
        exact Nat.le_of_lt ((hf c (List.mem_of_getElem? hc)).mul (hg d (List.mem_of_getElem? hd)))
      (first | refine hX _ _ ?_ | skip); (try dsimp only); try walk_at "dr1"
      refine ⟨_, SqL.of k5, _, e2, _, g5.seq hS, _, ac, _, g5.seq hS', _, ad, c, rfl, d, rfl, mulSm (hf c (List.mem_of_getElem? hc)) (hg d (List.mem_of_getElem? hd)) (by omega), v, rfl, _, k5, _, e3, ?_⟩
      rw [set_int]
      have eij : (0 + (i : Int) + (0 + (j : Int))).toNat = i + j := by omega
      rw [eij] at e1 ⊢
      refine (hPw _ _ _).mpr ⟨g5.up nl _, _, _, by rw [List.length_set]; exact hrl, fun e he => ?_, fun x => ?_, upd_same, rfl⟩
      · rcases mem_set he with w | w
        · exact Nat.le_trans (hrb e w) (Nat.mul_le_mul_right _ (Nat.le_succ _))
        · rw [w]
          exact steps (hrb v (List.mem_of_getElem? e1)) hcd
      · rw [Dr.pev_set x (c * d) r (i + j) v e1, hre, Dr.pev_take_succ hd, Dr.pow_add']
        generalize x ^ i = X
        generalize x ^ j = Y
        grind
    · intro σ H5 z
      obtain ⟨g5, r, t4, hrl, hrb, hre, k5, rfl⟩ := (hPw _ _ _).mp z
      simp only [List.length_map, Int.toNat_natCast] at hrb hre
      refine (hPv _ _ _).mpr ⟨g5, r, _, _, hrl, fun c hc => ?_, fun x => ?_, k5, rfl⟩
      · rw [Nat.succ_mul]
        exact hrb c hc
      · rw [hre, List.take_length, Dr.pev_take_succ hc]
        grind
  · intro σ H3 z
    obtain ⟨g3, r, t3, t4, hrl, hrb, hre, k3, rfl⟩ := (hPv _ _ _).mp z
    simp only [List.length_map, Int.toNat_natCast] at hrb hre
    (first | refine hX _ _ ?_ | skip); (try dsimp only); try walk_at "dr1"
    rw [List.take_length] at hre
    refine q l r H3 ⟨hrl, hre⟩ (fun c hc => ?_) nl g3 k3
    have h1 := hrb c hc
    have h2 : f.length * g.length * M ≤ 3600 * M := Nat.mul_le_mul_right _ (Nat.mul_le_mul (show f.length ≤ 60 by omega) (show g.length ≤ 60 by omega))
    show c.natAbs < 2 ^ (m + n + 12)
    rw [Nat.pow_add, ← hM]
    have : (2 : Nat) ^ 12 = 4096 := by decide
    have : 0 < M := by rw [hM]; exact Nat.pow_pos (by decide)
    omega
def cellv (ns : List Int) (k : Int) : Int := if k < ns.length then ns.getD k.toNat 0 else 3 * k * k + 17 * k + 4
def sp__law_cell (K : PySem.W.Frag) : Sp := fun vs H Q _ => ∃ (a : Addr) (ns : List Int) (k : Int), vs = [.ref a, .int k] ∧ SqL K H a (ns.map V.int) ∧ ns.length ≤ 63 ∧ (0 ≤ k ∧ k < 1000) ∧ Q (.int (cellv ns k)) H
theorem ok__law_cell (B : Bi mg K w) (F : Fun K "_law_cell" "_law_cell" s__law_cell f fd) : FnOk P w K mg base CX0 1 f fd ["script", "k"] (sp__law_cell K) := by
  refine F.ok S__law_cell (fun vs H Q E h => ?_) (fun cdv A outer s H vs Q E hr h => ?_)
  · obtain ⟨a, ns, k, rfl, _⟩ := h
    rfl
  obtain ⟨a, ns, k, rfl, hS, hl, hk, q⟩ := h
  have S := S__law_cell
  refine ⟨_, ((pss_cons (ps_if (pt_cmpR op_lt (pv 1) (pe_callB call_len_seq rfl B.b_len PySem.boot_len (pa_cons (pv 0) pa_nil)) (nomark _)) (pss_one (ps_ret (pe_ix ix_list (pv 0) (pv 1) (fun _ _ => rfl)))) pss_nil)
    (pss_one (ps_ret (pe_op op_add (pe_op op_add (pe_op op_mulW (pe_op op_mulW pe_int (pv 1)) (pv 1)) (pe_op op_mulW pe_int (pv 1))) pe_int))))), ?_⟩
  refine ⟨_, rfl, _, rfl, a, _, rfl, .inl hS, _, _, rfl, rfl, _, rfl, ?_⟩
  have hm : (((ns.map V.int).length : Nat) : Int) = (ns.length : Int) := by rw [List.length_map]
  refine ite2 (fun c => ?_) (fun c => ?_)
  · have c' : k < (ns.length : Int) := by rw [← hm]; exact of_decide_eq_true c
    have hk' : k.toNat < ns.length := by omega
    have ek : k = ((k.toNat : Nat) : Int) := by omega
    have g : atI (ns.map V.int) ((k.toNat : Nat) : Int) = some (.int (ns.getD k.toNat 0)) := atI_nat (by rw [List.getElem?_map, List.getElem?_eq_getElem hk', List.getD_eq_getElem?_getD, List.getElem?_eq_getElem hk']; rfl)
    rw [← ek] at g
    refine ⟨_, rfl, _, rfl, a, _, _, _, rfl, rfl, hS, g, ?_⟩
    unfold cellv at q
    rw [if_pos c'] at q
    exact q
  · have c' : ¬ k < (ns.length : Int) := fun z => c (decide_eq_true (by rw [hm]; exact z))
    unfold cellv at q
    rw [if_neg c'] at q
    have b1 : IntMulOk 3 k := IntMulOk.of_left (by decide)
    have b2 : IntMulOk (3 * k) k := IntMulOk.of_right (intBits_le_64 (by omega) (by omega))
    have b3 : IntMulOk 17 k := IntMulOk.of_left (by decide)
    exact ⟨_, rfl, _, _, rfl, rfl, b1, _, rfl, _, _, rfl, rfl, b2, _, rfl, _, _, rfl, rfl, b3, _, _, rfl, rfl, _, _, rfl, rfl, q⟩
theorem cell_bits {ns : List Int} (h : ∀ n, n ∈ ns → Builtin.Int.intBits n ≤ 2 ^ 20) {k : Int} (hk : 0 ≤ k ∧ k < 1000) : Builtin.Int.intBits (cellv ns k) ≤ 2 ^ 20 := by
  unfold cellv
  split
  · have h1 : ns.getD k.toNat 0 ∈ ns := by
      rw [List.getD_eq_getElem?_getD, List.getElem?_eq_getElem (by omega)]
      exact List.getElem_mem _
    exact h _ h1
  · have h1 : 0 ≤ k * k := Int.mul_nonneg hk.1 hk.1
    have h2 : k * k ≤ 1000 * 1000 := Int.mul_le_mul (by omega) (by omega) hk.1 (by omega)
    have h3 : Builtin.Int.intBits (3 * k * k + 17 * k + 4) ≤ 64 := intBits_le_64 (by rw [Int.mul_assoc]; omega) (by rw [Int.mul_assoc]; omega)
    omega
theorem cell_sh {ns : List Int} (h : ∀ n, n ∈ ns → Builtin.Int.intBits n ≤ 2 ^ 20) {k : Int} (hk : 0 ≤ k ∧ k < 1000) : Sh (cellv ns k) := Nat.le_trans (cell_bits h hk) (by decide)
def sp__law_prime (_ : PySem.W.Frag) : Sp := fun vs H Q _ => ∃ (c : Int), vs = [.int c] ∧ ∀ (p : Int) (H' : Hp), p ∈ Dr.primes → Same H H' → Q (.int p) H'
theorem body__law_prime : ∃ (s1 s2 s3 : Stmt) (e1 : List Expr) (p1 p2 p3 p4 p5 p6 p7 p8 p9 p10 p11 p12 p13 p14 p15 p16 p17 p18 p19 p20 p21 p22 p23 p24 p25 : Pos), defBody s__law_prime = [s1, s2, s3] ∧
    s1 = .Assign [.Name "some" p1] (.List e1 p2) p3 ∧ cInts e1 = some Dr.primes ∧
    s2 = .If (.Compare (.BinOp (.Name "cell" p4) .Mod (.Constant (.int 2) 0 p5) p6) [.Eq] [.Constant (.int 0) 0 p7] p8) [.Return (some (.Subscript (.Name "some" p9) (.BinOp (.BinOp (.Name "cell" p10) .FloorDiv (.Constant (.int 2) 0 p11) p12) .Mod (.Constant (.int 4) 0 p13) p14) p15)) p16] [] p17 ∧
    s3 = .Return (some (.Subscript (.Name "some" p18) (.BinOp (.BinOp (.Name "cell" p19) .FloorDiv (.Constant (.int 2) 0 p20) p21) .Mod (.Constant (.int 25) 0 p22) p23) p24)) p25 :=
  ⟨_, _, _, _, _, _, _, _, _, _, _, _, _, _, _, _, _, _, _, _, _, _, _, _, _, _, _, _, _, rfl, rfl, rfl, rfl, rfl⟩
theorem ok__law_prime (B : Bi mg K w) (F : Fun K "_law_prime" "_law_prime" s__law_prime f fd) : FnOk P w K mg base CX0 1 f fd ["cell"] (sp__law_prime K) := by
  refine F.ok S__law_prime (fun vs H Q E h => ?_) (fun cdv A outer s H vs Q E hr h => ?_)
  · obtain ⟨c, rfl, _⟩ := h
    rfl
  obtain ⟨c, rfl, q⟩ := h
  have S := S__law_prime
  obtain ⟨s1, s2, s3, e1, p1, p2, p3, p4, p5, p6, p7, p8, p9, p10, p11, p12, p13, p14, p15, p16, p17, p18, p19, p20, p21, p22, p23, p24, p25, hb, h1, c1, h2, h3⟩ := body__law_prime
  rw [hb]
  refine ⟨_, (pss_cons (ps_setInts (i := 1) h1 c1 S.nd rfl (Or.inl rfl) (Or.inr rfl))
    (pss_cons (ps_eq h2 (ps_if (pt_cmpR op_eq (pe_op op_mod (pv 0) pe_int) pe_int (nomark _)) (pss_one (ps_ret (pe_ix ix_list (pv 1) (pe_op op_mod (pe_op op_fdivW (pv 0) pe_int) pe_int) (fun _ _ => rfl)))) pss_nil))
    (pss_one (ps_eq h3 (ps_ret (pe_ix ix_list (pv 1) (pe_op op_mod (pe_op op_fdivW (pv 0) pe_int) pe_int) (fun _ _ => rfl))))))), ?_⟩
  refine ⟨(by show 25 ≤ sizeLine; decide), fun l hl => ?_⟩
  refine ⟨_, rfl, _, _, rfl, rfl, (show (0 : Int) < 2 by decide), rfl, _, rfl, ?_⟩
  refine ite2 (fun _ => ?_) (fun _ => ?_)
  · have m := mod_in (c / 2) (show (0 : Int) < 4 by decide)
    refine ⟨_, rfl, _, rfl, _, _, rfl, rfl, ⟨by decide, by decide⟩, _, _, rfl, rfl, (show (0 : Int) < 4 by decide), l, _, _, _, rfl, rfl, SqL.of upd_same, atI_ints (ns := Dr.primes) m.1 (by have := m.2; show _ < (25 : Int); omega), ?_⟩
    exact q _ _ (getD_in (ns := Dr.primes) m.1 (by have := m.2; show _ < (25 : Int); omega)) (same_new hl _)
  · have m := mod_in (c / 2) (show (0 : Int) < 25 by decide)
    refine ⟨_, rfl, _, rfl, _, _, rfl, rfl, ⟨by decide, by decide⟩, _, _, rfl, rfl, (show (0 : Int) < 25 by decide), l, _, _, _, rfl, rfl, SqL.of upd_same, atI_ints (ns := Dr.primes) m.1 m.2, ?_⟩
    exact q _ _ (getD_in (ns := Dr.primes) m.1 m.2) (same_new hl _)
def sp__law_power (_ : PySem.W.Frag) : Sp := fun vs H Q _ => ∃ (p e : Int), vs = [.int p, .int e] ∧ (2 ≤ p ∧ p < 1000) ∧ (0 ≤ e ∧ e < 100000) ∧ Q (.int (p ^ e.toNat)) H
theorem ok__law_power (B : Bi mg K w) (F : Fun K "_law_power" "_law_power" s__law_power f fd) : FnOk P w K mg base CX0 1 f fd ["p", "e"] (sp__law_power K) := by
  refine F.ok S__law_power (fun vs H Q E h => ?_) (fun cdv A outer s H vs Q E hr h => ?_)
  · obtain ⟨p, e, rfl, _⟩ := h
    rfl
  obtain ⟨p, e, rfl, hp, he, q⟩ := h
  have S := S__law_power
  refine ⟨_, ((pss_cons (ps_set (i := 2) S.nd rfl (Or.inl rfl) pe_int)
    (pss_cons (ps_for PassesOwn.never rfl (pi_range1 rfl B.b_range (pa_cons (pv 1) pa_nil)) (pg_name (i := 3) S.nd rfl (Or.inl rfl)) (pss_one (ps_set (i := 2) S.nd rfl (Or.inl rfl) (pe_op op_mulW (pv 2) (pv 0)))))
    (pss_one (ps_ret (pv 2)))))), ?_⟩
  refine ⟨_, rfl, e, rfl, by omega, by omega, ?_⟩
  refine for_range (n := e.toNat) (fun i σ H' => H' = H ∧ ∃ t, σ = [some (.int p), some (.int e), some (.int (p ^ i)), t]) ⟨rfl, none, by rw [Int.pow_zero]; rfl⟩ ?_ ?_
  · rintro i σ H' hi ⟨rfl, t, rfl⟩
    refine ⟨_, rfl, _, rfl, _, _, rfl, rfl, IntMulOk.of_right (intBits_le_64 (by omega) (by omega)), rfl, some (.int (0 + (i : Int))), ?_⟩
    rw [Int.pow_succ]
    rfl
  · rintro σ H' ⟨rfl, t, rfl⟩
    exact ⟨_, rfl, q⟩
def sp__law_depth (_ : PySem.W.Frag) : Sp := fun vs H Q _ => ∃ (p x : Int), vs = [.int p, .int x] ∧ (2 ≤ p ∧ p < 1000) ∧ x ≠ 0 ∧ ∀ (d : Nat) (u : Int), Dr.Fac p x d u → Q (.int (d : Int)) H
theorem ok__law_depth (B : Bi mg K w) (F : Fun K "_law_depth" "_law_depth" s__law_depth f fd) : FnOk P w K mg base CX0 1 f fd ["p", "number"] (sp__law_depth K) := by
  refine F.ok S__law_depth (fun vs H Q E h => ?_) (fun cdv A outer s H vs Q E hr h => ?_)
  · obtain ⟨p, x, rfl, _⟩ := h
    rfl
  obtain ⟨p, x, rfl, hp, hx, q⟩ := h
  have S := S__law_depth
  refine ⟨_, ((pss_cons (ps_set (i := 2) S.nd rfl (Or.inl rfl) pe_int)
    (pss_cons (ps_while PassesOwn.never (pt_cmpR op_eq (pe_op op_mod (pv 1) (pv 0)) pe_int (nomark _)) (pss_cons (ps_set (i := 1) S.nd rfl (Or.inl rfl) (pe_op op_fdivW (pv 1) (pv 0)))
    (pss_one (ps_set (i := 2) S.nd rfl (Or.inl rfl) (pe_op op_add (pv 2) pe_int)))))
    (pss_one (ps_ret (pv 2)))))), ?_⟩
  (first | refine hX _ _ ?_ | skip); (try dsimp only); try walk_at "dr1"
  obtain ⟨W, hW⟩ : ∃ W : Nat → St → Hp → Prop, ∀ m σ H', W m σ H' ↔ (H' = H ∧ ∃ (l : Int) (d : Nat), σ = [some (.int p), some (.int l), some (.int (d : Int))] ∧ x = l * p ^ d ∧ l ≠ 0 ∧ m = l.natAbs) := ⟨_, fun _ _ _ => Iff.rfl⟩
  (first | refine hX _ _ ?_ | skip); refine whB W x.natAbs ((hW _ _ _).mpr ⟨rfl, x, 0, rfl, by simp, hx, rfl⟩) ?_
  intro m σ H' z
  obtain ⟨rfl, l, d, rfl, e, l0, rfl⟩ := (hW _ _ _).mp z
  (first | refine hX _ _ ?_ | skip); (try dsimp only); try walk_at "dr1"
  refine ⟨by omega, ite2 (fun c' => ?_) (fun c' => ?_)⟩
  · obtain ⟨t1, t2, t3⟩ := turn_depth hp.1 e l0 c'
    refine ⟨_, fun _ _ h => h, ?_⟩
    (first | refine hX _ _ ?_ | skip); (try dsimp only); try walk_at "dr1"
    exact ⟨log_small hp, _, t3, (hW _ _ _).mpr ⟨rfl, l / p, d + 1, rfl, t1, t2, rfl⟩⟩
  · exact q d l ⟨e, c'⟩
theorem cdv_small {x y : Int} (h : 0 < y ∧ y < 1000000) : CDivW x y := ⟨h.1, by
  have h1 : y.natAbs < 1000000 := by omega
  have h2 : y.natAbs.log2 < 20 := (Nat.log2_lt (by omega)).mpr (Nat.lt_trans h1 (by decide))
  omega⟩
def sp__law_roots (K : PySem.W.Frag) : Sp := fun vs H Q _ => ∃ (p : Int) (a : Addr) (ns : List Int), vs = [.int p, .ref a] ∧ p ∈ Dr.primes ∧ SqL K H a (ns.map V.int) ∧ ns.length ≤ 63 ∧
  ∀ (c : Addr) (rs : List Int) (H' : Hp), rs.Nodup → (1 ≤ rs.length ∧ rs.length ≤ 4) → (∀ x, x ∈ rs → -4000000 ≤ x ∧ x ≤ 4000000) → H c = none → Same H H' → H' c = some (.lst (rs.map V.int)) → Q (.ref c) H'
def above (x : Int) (l : List Int) : Nat := (l.filter fun y => decide (x ≤ y)).length
theorem above_step {x : Int} : ∀ {l : List Int}, x ∈ l → above (x + 1) l < above x l
  | [], h => by cases h
  | y :: l, h => by
    have mono : ∀ l : List Int, above (x + 1) l ≤ above x l := fun l => by
      unfold above
      induction l with
      | nil => simp
      | cons z l ih =>
        simp only [List.filter_cons]
        by_cases c1 : x + 1 ≤ z
        · rw [decide_eq_true c1, decide_eq_true (show x ≤ z by omega)]
          simpa using ih
        · rw [decide_eq_false c1]
          by_cases c2 : x ≤ z
          · rw [decide_eq_true c2]
            simp
            omega
          · rw [decide_eq_false c2]
            simpa using ih
    unfold above
    simp only [List.filter_cons]
    by_cases c1 : x + 1 ≤ y
    · rw [decide_eq_true c1, decide_eq_true (show x ≤ y by omega)]
      rcases List.mem_cons.mp h with z | z
      · omega
      · have := above_step z
        unfold above at this
        simpa using this
    · rw [decide_eq_false c1]
      by_cases c2 : x ≤ y
      · rw [decide_eq_true c2]
        have := mono l
        unfold above at this
        simp
        omega
      · rw [decide_eq_false c2]
        rcases List.mem_cons.mp h with z | z
        · omega
        · have := above_step z
          unfold above at this
          simpa using this
theorem inV_int (n : Int) (ns : List Int) : inV (.int n) (ns.map V.int) = decide (n ∈ ns) := by
  unfold inV
  induction ns with
  | nil => simp
  | cons a r ih =>
    rw [List.map_cons, List.any_cons, ih]
    simp only [eqV, List.mem_cons]
    by_cases h : n = a
    · subst h; simp
    · have : (a == n) = false := by
        rw [beq_eq_false_iff_ne]
        exact fun z => h z.symm
      rw [this]
      simp [h]
theorem ok__law_roots (B : Bi mg K w) (d__law_cell : Def P w K mg base "_law_cell" 1 ["script", "k"] (sp__law_cell K)) (d__law_power : Def P w K mg base "_law_power" 1 ["p", "e"] (sp__law_power K)) (F : Fun K "_law_roots" "_law_roots" s__law_roots f fd) : FnOk P w K mg base CX0 2 f fd ["p", "script"] (sp__law_roots K) := by
  refine F.ok S__law_roots (fun vs H Q E h => ?_) (fun cdv A outer s H vs Q E hr h => ?_)
  · obtain ⟨p, a, ns, rfl, _⟩ := h
    rfl
  obtain ⟨p, a, ns, rfl, hpp, hS, hl, q⟩ := h
  have S := S__law_roots
  have p2 := Dr.primes_ge hpp
  have m4 := mod_in (cellv ns 0 / 50) (show (0 : Int) < 4 by decide)
  refine ⟨_, ((pss_cons (ps_set (i := 2) S.nd rfl (Or.inl rfl) (pe_lst pa_nil))
    (pss_cons (ps_for PassesOwn.never rfl (pi_range3 rfl B.b_range (pa_cons pe_int (pa_cons (pe_callB (call_max2 rfl) rfl B.b_max L2.bt_max (pa_cons pe_int (pa_cons (pe_callB (call_min2 rfl) rfl B.b_min L2.bt_min (pa_cons (pe_callB call_len_seq rfl B.b_len PySem.boot_len (pa_cons (pv 1) pa_nil)) (pa_cons (pe_op op_add pe_int (pe_op op_mulW pe_int (pe_op op_mod (pe_op op_fdivW (pe_def d__law_cell hr rfl (pa_cons (pv 1) (pa_cons pe_int pa_nil))) pe_int) pe_int))) pa_nil))) pa_nil))) (pa_cons pe_int pa_nil)))) (pg_name (i := 3) S.nd rfl (Or.inl rfl)) (pss_cons (ps_set (i := 4) S.nd rfl (Or.inl rfl) (pe_op op_sub (pe_op op_mod (pe_def d__law_cell hr rfl (pa_cons (pv 1) (pa_cons (pv 3) pa_nil))) pe_int) pe_int))
    (pss_cons (ps_join (ps_if (PW.pt (pw_and (pt_cmpR (op_neD hr.units) (pv 2) (pe_lst pa_nil) (nomark _)) (pw_and1 (pt_cmpR op_eq (pe_op op_mod (pe_op op_fdivW (pe_def d__law_cell hr rfl (pa_cons (pv 1) (pa_cons (pv 3) pa_nil))) pe_int) pe_int) pe_int (nomark _))))) (pss_cons (ps_set (i := 5) S.nd rfl (Or.inl rfl) (pe_def d__law_cell hr rfl (pa_cons (pv 1) (pa_cons (pe_op op_add (pv 3) pe_int) pa_nil))))
    (pss_one (ps_set (i := 4) S.nd rfl (Or.inl rfl) (pe_op op_add (pe_ix ix_list (pv 2) pe_int (fun _ _ => rfl)) (pe_op op_mulW (pe_op op_add pe_int (pe_op op_mod (pv 5) pe_int)) (pe_def d__law_power hr rfl (pa_cons (pv 0) (pa_cons (pe_op op_mod (pe_op op_fdivW (pv 5) pe_int) pe_int) pa_nil)))))))) pss_nil))
    (pss_cons (ps_while PassesOwn.never (pt_cmpR op_in_seq (pv 4) (pv 2) rfl) (pss_one (ps_set (i := 4) S.nd rfl (Or.inl rfl) (pe_op op_add (pv 4) pe_int))))
    (pss_one (ps_expr (pe_bm PySem.F.plainAttrs_list PySem.F.slot_list_append PySem.F.type_list_append mt_append (pv 2) (pa_cons (pv 4) pa_nil))))))))
    (pss_one (ps_ret (pv 2)))))), ?_⟩
  (try dsimp only); (first | refine hX _ _ ?_ | skip); (try dsimp only); (first | refine seqX (fun X hX => ?_) | skip); try walk_at "dr2"; (try simp only [sp__law_cell, sp__law_power]); try walk_at "dr2"
  refine ⟨by decide, ?_⟩
  intro l n_l; generalize e_l : upd _ l _ = H1; obtain ⟨g1, k1⟩ := newH e_l n_l; clear e_l
  (try dsimp only); (first | refine hX _ _ ?_ | skip); (try dsimp only); (first | refine seqX (fun X hX => ?_) | skip); try walk_at "dr2"; (try simp only [sp__law_cell, sp__law_power]); try walk_at "dr2"
  refine ⟨_, .inl (g1.seq hS), ns, g1.seq hS, hl, cdv_small ⟨by decide, by decide⟩, IntMulOk.of_left (by decide), by decide, by decide, by split <;> first | omega | (split <;> omega), by split <;> first | omega | (split <;> omega), ?_⟩
  rw [List.length_map]
  have tl : ∀ hi : Int, 6 ≤ hi → hi ≤ 12 → 1 ≤ turns 4 hi 2 ∧ turns 4 hi 2 ≤ 4 := fun hi h1 h2 => by
    unfold turns
    rw [if_pos (by omega)]
    omega
  have t14 := tl (if (if 6 + 2 * (cellv ns 0 / 50 % 4) < (ns.length : Int) then 6 + 2 * (cellv ns 0 / 50 % 4) else (ns.length : Int)) > 6 then (if 6 + 2 * (cellv ns 0 / 50 % 4) < (ns.length : Int) then 6 + 2 * (cellv ns 0 / 50 % 4) else (ns.length : Int)) else 6) (by split <;> omega) (by split <;> split <;> omega)
  generalize turns 4 (if (if 6 + 2 * (cellv ns 0 / 50 % 4) < (ns.length : Int) then 6 + 2 * (cellv ns 0 / 50 % 4) else (ns.length : Int)) > 6 then (if 6 + 2 * (cellv ns 0 / 50 % 4) < (ns.length : Int) then 6 + 2 * (cellv ns 0 / 50 % 4) else (ns.length : Int)) else 6) 2 = many at t14 ⊢
  clear tl m4
  obtain ⟨Pv, hPv⟩ : ∃ Pv : Nat → St → Hp → Prop, ∀ i σ H2, Pv i σ H2 ↔ (Same H H2 ∧ ∃ (rs : List Int) (t3 t4 t5 : Option V), H2 l = some (.lst (rs.map V.int)) ∧ rs.length = i ∧ rs.Nodup ∧ (∀ x, x ∈ rs → -4000000 ≤ x ∧ x ≤ 4000000) ∧ (∀ x, rs[0]? = some x → x ≤ 1000 ∧ -1000 ≤ x) ∧ σ = [some (.int p), some (.ref a), some (.ref l), t3, t4, t5]) := ⟨_, fun _ _ _ => Iff.rfl⟩
  (first | refine hX _ _ ?_ | skip); refine forC Pv ((hPv _ _ _).mpr ⟨g1, [], none, none, none, k1, rfl, List.nodup_nil, (fun x hx => nomatch hx), (fun x hx => nomatch hx), rfl⟩) ?_ ?_
  · intro i σ H2 hi z
    obtain ⟨g2, rs, t3, t4, t5, k2, rl, nd, hb, h0, rfl⟩ := (hPv _ _ _).mp z
    (try dsimp only); (first | refine hX _ _ ?_ | skip); (try dsimp only); (first | refine seqX (fun X hX => ?_) | skip); try walk_at "dr2"; (try simp only [sp__law_cell, sp__law_power]); try walk_at "dr2"
    refine ⟨ns, g2.seq hS, hl, by omega, by omega, ?_⟩
    have m1 := mod_in (cellv ns (4 + (i : Int) * 2)) (show (0 : Int) < 2001 by decide)
    generalize cellv ns (4 + (i : Int) * 2) % 2001 = r0 at m1 ⊢
    (first | refine hX _ _ ?_ | skip); refine seqI ?_
    obtain ⟨R, hR⟩ : ∃ R : St → Hp → Prop, ∀ σ' H3, R σ' H3 ↔ (Same H2 H3 ∧ ∃ (r : Int) (t5 : Option V), (-1000 ≤ r ∧ r ≤ 3999000) ∧ (rs = [] → r ≤ 1000) ∧ σ' = [some (.int p), some (.ref a), some (.ref l), some (.int (4 + (i : Int) * 2)), some (.int r), t5]) := ⟨_, fun _ _ => Iff.rfl⟩
    (first | refine hX _ _ ?_ | skip); refine joinB R ?_ ?_
    · (first | refine hX _ _ ?_ | skip); (try dsimp only); try walk_at "dr1"; (try simp only [sp__law_cell, sp__law_power]); try walk_at "dr1"
      refine ⟨by decide, fun l3 n3 => ?_⟩
      generalize e3 : upd H2 l3 _ = H3
      obtain ⟨g3, k3⟩ := newH e3 n3
      clear e3
      refine neL (ns := rs) (ms := []) (SqL.of (g3 _ _ k2)) (SqL.of k3) ?_
      by_cases c : rs = []
      · rw [decide_eq_true c]
        refine ⟨_, rfl, ?_⟩
        rw [if_neg (by decide)]
        exact (hR _ _).mpr ⟨g3, _, _, by omega, fun _ => by omega, rfl⟩
      · rw [decide_eq_false c]
        refine ⟨_, rfl, ?_⟩
        rw [if_pos (by rfl)]
        refine ⟨ns, (g2.trans g3).seq hS, hl, by omega, by omega, cdv_small ⟨by decide, by decide⟩, ite2 (fun _ => ?_) (fun _ => (hR _ _).mpr ⟨g3, _, _, by omega, fun _ => by omega, rfl⟩)⟩
        obtain ⟨x0, rs', rfl⟩ : ∃ x0 rs', rs = x0 :: rs' := by
          cases rs with
          | nil => exact absurd rfl c
          | cons x0 rs' => exact ⟨_, _, rfl⟩
        have hx0 := h0 x0 rfl
        refine ⟨ns, (g2.trans g3).seq hS, hl, by omega, by omega, _, SqL.of (g3 _ _ k2), _, atI_nat (j := 0) rfl, ?_⟩
        generalize cellv ns (4 + (i : Int) * 2 + 1) = other
        have m4 := mod_in other (show (0 : Int) < 4 by decide)
        have m5 := mod_in (other / 4) (show (0 : Int) < 4 by decide)
        have hpw : 1 ≤ p ^ (other / 4 % 4).toNat ∧ p ^ (other / 4 % 4).toNat ≤ 912673 := by
          generalize other / 4 % 4 = e at m5
          have q1 : (0 : Int) < p ^ e.toNat := Dr.pow_pos (by omega) _
          have : ∀ q, q ∈ Dr.primes → ∀ k : Fin 4, q ^ (k : Nat) ≤ 912673 := by decide +kernel
          have := this p hpp ⟨e.toNat, by omega⟩
          exact ⟨q1, this⟩
        generalize p ^ (other / 4 % 4).toNat = P1 at hpw ⊢
        have hm : 0 ≤ (1 + other % 4) * P1 ∧ (1 + other % 4) * P1 ≤ 4 * 912673 := by
          have h1 := Int.mul_le_mul (show 1 + other % 4 ≤ 4 by omega) hpw.2 (by omega) (by decide)
          have h2 := Int.mul_nonneg (show 0 ≤ 1 + other % 4 by omega) (show 0 ≤ P1 by omega)
          exact ⟨h2, h1⟩
        have okm : IntMulOk (1 + other % 4) P1 := IntMulOk.of_left (intBits_le_64 (by omega) (by omega))
        generalize (1 + other % 4) * P1 = X1 at hm ⊢
        refine ⟨cdv_small ⟨by decide, by decide⟩, by omega, by omega, by omega, by omega, okm, _, rfl, (hR _ _).mpr ⟨g3, _, _, by omega, (fun z => by cases z), rfl⟩⟩
    intro σ' H3 z
    refine byX fun X hX => ?_; obtain ⟨g3, r, t5, hr, hr0, rfl⟩ := (hR _ _).mp z; refine hX ?_; clear hX X
    clear hR z
    have k3 := g3 _ _ k2
    (try dsimp only); (first | refine hX _ _ ?_ | skip); (try dsimp only); (first | refine seqX (fun X hX => ?_) | skip); try walk_at "dr2"; (try simp only [sp__law_cell, sp__law_power]); try walk_at "dr2"
    obtain ⟨W, hW⟩ : ∃ W : Nat → St → Hp → Prop, ∀ m σ' H4, W m σ' H4 ↔ (H4 = H3 ∧ ∃ (r' : Int), (r ≤ r' ∧ r' + above r' rs ≤ r + above r rs) ∧ σ' = [some (.int p), some (.ref a), some (.ref l), some (.int (4 + (i : Int) * 2)), some (.int r'), t5] ∧ m = above r' rs) := ⟨_, fun _ _ _ => Iff.rfl⟩
    (first | refine hX _ _ ?_ | skip); refine whB W (above r rs) ((hW _ _ _).mpr ⟨rfl, r, ⟨Int.le_refl _, Int.le_refl _⟩, rfl, rfl⟩) ?_
    intro m σ' H4 z
    obtain ⟨rfl, r', hr', rfl, rfl⟩ := (hW _ _ _).mp z
    (first | refine hX _ _ ?_ | skip); (try dsimp only); try walk_at "dr1"; (try simp only [sp__law_cell, sp__law_power]); try walk_at "dr1"
    refine ⟨_, .inl (SqL.of k3), rfl, by simp [flatV], ?_⟩
    rw [inV_int]
    have ha : above r rs ≤ rs.length := List.length_filter_le ..
    refine ite2 (fun c2 => ?_) (fun c2 => ?_)
    · rw [decide_eq_true_eq] at c2
      have st := above_step c2
      exact ⟨_, fun _ _ h => h, _, st, (hW _ _ _).mpr ⟨rfl, r' + 1, by omega, rfl, rfl⟩⟩
    · rw [decide_eq_true_eq] at c2
      clear hW z
      (first | refine hX _ _ ?_ | skip); (try dsimp only); try walk_at "dr1"; (try simp only [sp__law_cell, sp__law_power]); try walk_at "dr1"
      have up : Same H (upd H4 l (HO.lst (rs.map V.int ++ [V.int r']))) := (g2.trans g3).up n_l _
      refine ⟨⟨_, SqL.of k3⟩, _, k3, by rw [List.length_map]; exact Nat.lt_of_le_of_lt (show rs.length ≤ 4 by omega) (by decide), (hPv _ _ _).mpr ⟨up, rs ++ [r'], _, _, _, by rw [upd_same, List.map_append]; rfl, by rw [List.length_append, rl]; rfl, ?_, fun x hx => ?_, fun x hx => ?_, rfl⟩⟩
      · exact List.nodup_append.mpr ⟨nd, by simp, fun x hx y hy e => c2 (by rw [List.mem_singleton.mp hy] at e; rw [← e]; exact hx)⟩
      · rcases List.mem_append.mp hx with z | z
        · exact hb x z
        · rw [List.mem_singleton.mp z]
          omega
      · cases rs with
        | nil =>
          cases hx
          have a0 : above r ([] : List Int) = 0 := rfl
          have a1 : above r' ([] : List Int) = 0 := rfl
          have := hr0 rfl
          omega
        | cons x0 rs' => exact h0 x hx
  · intro σ H2 z
    obtain ⟨g2, rs, t3, t4, t5, k2, rl, nd, hb, h0, rfl⟩ := (hPv _ _ _).mp z
    (first | refine hX _ _ ?_ | skip); (try dsimp only); try walk_at "dr1"; (try simp only [sp__law_cell, sp__law_power]); try walk_at "dr1"
    exact q l rs H2 nd (by omega) hb n_l g2 k2
def sp__law_written (K : PySem.W.Frag) : Sp := fun vs H Q _ => ∃ (a : Addr) (ms : List Int), vs = [.ref a] ∧ SqL K H a (ms.map V.int) ∧ ms.length ≤ 14 ∧ (∀ x, x ∈ ms → x.natAbs < 10 ^ 190) ∧ ∀ (L : List Int) (H' : Hp), L.Perm ms → L.Pairwise (· ≤ ·) → Same H H' → Q (.str (Str.join (Str.ofString " ") (L.map Tx.tx))) H'
theorem ok__law_written (B : Bi mg K w) (F : Fun K "_law_written" "_law_written" s__law_written f fd) : FnOk P w K mg base CX0 1 f fd ["rests"] (sp__law_written K) := by
  refine F.ok S__law_written (fun vs H Q E h => ?_) (fun cdv A outer s H vs Q E hr h => ?_)
  · obtain ⟨a, ms, rfl, _⟩ := h
    rfl
  obtain ⟨a, ms, rfl, hS, hl, hb, q⟩ := h
  have S := S__law_written
  refine ⟨_, ((pss_one (ps_ret (pe_bm PySem.F.plainAttrs_str PySem.F.slot_str_join PySem.F.type_str_join mt_join pe_str (pa_cons (pe_comp [] [] rfl rfl trivial trivial rfl rfl (by decide) (by decide) rfl rfl (by decide) (pi_list (pe_callB (call_sortedI rfl) rfl B.b_sorted bt_sorted (pa_cons (pv 0) pa_nil))) (fun _ _ _ _ => pts_nil) (fun _ _ _ _ => (pe_callTy call_str_int rfl B.b_str L2.bt_str (pa_cons (pv 0) pa_nil)))) pa_nil))))), ?_⟩
  (first | refine hX _ _ ?_ | skip); (try dsimp only); try walk_at "dr1"
  refine ⟨rfl, ms, hS, by omega, fun L pm so => ?_⟩
  intro l n_l; generalize e_l : upd _ l _ = H1; obtain ⟨g1, k1⟩ := newH e_l n_l; clear e_l
  refine ⟨⟨_, SqL.of k1⟩, ?_⟩
  have lL : L.length ≤ 14 := by rw [pm.length_eq]; exact hl
  have bL : ∀ x, x ∈ L → x.natAbs < 10 ^ 190 := fun x hx => hb x (pm.mem_iff.mp hx)
  obtain ⟨Pv, hPv⟩ : ∃ Pv : Nat → List V → Hp → Prop, ∀ i ys H', Pv i ys H' ↔ (H' = H1 ∧ ys = ((L.take i).map Tx.tx).map V.str) := ⟨_, fun _ _ _ => Iff.rfl⟩
  (first | refine hX _ _ ?_ | skip); refine compI L Pv (Nat.le_trans lL (by decide)) ((hPv _ _ _).mpr ⟨rfl, rfl⟩) (fun i ys H2 p => ?_) (fun i x ys H2 hx p => ?_) (fun ys H2 p l2 n_l2 => ?_)
  · obtain ⟨rfl, _⟩ := (hPv _ _ _).mp p
    exact SqL.of k1
  · obtain ⟨rfl, rfl⟩ := (hPv _ _ _).mp p
    (first | refine hX _ _ ?_ | skip); (try dsimp only); try walk_at "dr1"
    refine ⟨log_big (bL x (List.mem_of_getElem? hx)), (hPv _ _ _).mpr ⟨rfl, ?_⟩⟩
    rw [take_next hx, List.map_append, List.map_append]
    rfl
  · obtain ⟨rfl, rfl⟩ := (hPv _ _ _).mp p
    rw [List.take_length]
    refine ⟨_, l2, _, rfl, rfl, SqL.of upd_same, ?_, ?_⟩
    · exact join_space (by rw [List.length_map]; exact lL) fun t ht => by
        obtain ⟨x, hx, rfl⟩ := List.mem_map.mp ht
        exact Nat.le_trans (big_len (bL x hx)) (by decide)
    · rw [Tx.join_eq]
      exact q L _ pm so (g1.trans (newS n_l2))
theorem dm_len : ∀ (l : List Int) (k : Int), (Dr.dm k l).length = l.length
  | [], _ => rfl
  | c :: l, k => by simp [Dr.dm, dm_len l (k + 1)]
theorem dm_bits {m : Nat} : ∀ (l : List Int) (k : Int), 0 ≤ k → k + l.length ≤ 60 → Dr.PolyB l m → Dr.PolyB (Dr.dm k l) (m + 6)
  | [], _, _, _, _ => fun c hc => nomatch hc
  | c :: l, k, h0, h1, hb => fun d hd => by
    simp only [List.length_cons] at h1
    rcases List.mem_cons.mp hd with e | e
    · rw [e]
      exact ((sm_of (k := 6) 60 (by omega) (by decide)).mul (hb c (.head _))).mono (by omega)
    · exact dm_bits l (k + 1) (by omega) (by omega) (fun x hx => hb x (.tail _ hx)) d e
def sp__law_slope_worth (K : PySem.W.Frag) : Sp := fun vs H Q _ => ∃ (a : Addr) (f : List Int) (x : Int) (m n : Nat), vs = [.ref a, .int x] ∧ SqL K H a (f.map V.int) ∧ (1 ≤ f.length ∧ f.length ≤ 13) ∧ Dr.PolyB f m ∧ Dr.Sm x n ∧ (m ≤ 1000 ∧ n ≤ 1000) ∧ Q (.int (Dr.pdv f x)) H
theorem ok__law_slope_worth (B : Bi mg K w) (F : Fun K "_law_slope_worth" "_law_slope_worth" s__law_slope_worth f fd) : FnOk P w K mg base CX0 1 f fd ["f", "x"] (sp__law_slope_worth K) := by
  refine F.ok S__law_slope_worth (fun vs H Q E h => ?_) (fun cdv A outer s H vs Q E hr h => ?_)
  · obtain ⟨a, f, x, m, n, rfl, _⟩ := h
    rfl
  obtain ⟨a, f, x, m, n, rfl, hS, hl, hf, hx, hmn, q⟩ := h
  have S := S__law_slope_worth
  refine ⟨_, ((pss_cons (ps_set (i := 2) S.nd rfl (Or.inl rfl) pe_int)
    (pss_cons (ps_for PassesOwn.never rfl (pi_rangeD rfl B.b_range (pa_cons (pe_op op_sub (pe_callB call_len_seq rfl B.b_len PySem.boot_len (pa_cons (pv 0) pa_nil)) pe_int) (pa_cons pe_int (pa_cons (pe_un un_neg pe_int) pa_nil)))) (pg_name (i := 3) S.nd rfl (Or.inl rfl)) (pss_one (ps_set (i := 2) S.nd rfl (Or.inl rfl) (pe_op op_add (pe_op op_mulW (pv 2) (pv 1)) (pe_op op_mulW (pv 3) (pe_ix ix_list (pv 0) (pv 3) (fun _ _ => rfl)))))))
    (pss_one (ps_ret (pv 2)))))), ?_⟩
  (try dsimp only); (first | refine hX _ _ ?_ | skip); (try dsimp only); (first | refine seqX (fun X hX => ?_) | skip); try walk_at "dr2"
  (try dsimp only); (first | refine hX _ _ ?_ | skip); (try dsimp only); (first | refine seqX (fun X hX => ?_) | skip); try walk_at "dr2"
  refine ⟨_, .inl hS, ?_⟩
  rw [List.length_map]
  refine ⟨by omega, by omega, by decide, by decide, ?_⟩
  obtain ⟨Pv, hPv⟩ : ∃ Pv : Nat → St → Hp → Prop, ∀ i σ H2, Pv i σ H2 ↔ (H2 = H ∧ ∃ (t3 : Option V), σ = [some (.ref a), some (.int x), some (.int (Dr.pev (Dr.dm ((f.length - i : Nat) : Int) (f.drop (f.length - i))) x)), t3]) := ⟨_, fun _ _ _ => Iff.rfl⟩
  (first | refine hX _ _ ?_ | skip); refine forC Pv ((hPv _ _ _).mpr ⟨rfl, none, ?_⟩) ?_ ?_
  · rw [Nat.sub_zero, List.drop_length]
    rfl
  · intro i σ H2 hi z
    obtain ⟨rfl, t3, rfl⟩ := (hPv _ _ _).mp z
    have hi : i + 1 < f.length := by omega
    have bT : Dr.Sm (Dr.pev (Dr.dm ((f.length - i : Nat) : Int) (f.drop (f.length - i))) x) (20000) := by
      have h1 := dm_bits (f.drop (f.length - i)) ((f.length - i : Nat) : Int) (by omega) (by rw [List.length_drop]; omega) (hf.drop _)
      have h2 := Dr.Sm.pev hx h1
      rw [dm_len, List.length_drop] at h2
      refine h2.mono ?_
      have := Nat.mul_le_mul (show f.length - (f.length - i) ≤ 13 by omega) (show n + 1 ≤ 1001 by omega)
      omega
    have ek : (f.length : Int) - 1 + (i : Int) * (-1) = ((f.length - (i + 1) : Nat) : Int) := by omega
    have hk : f.length - (i + 1) < f.length := by omega
    have ed : f.drop (f.length - (i + 1)) = f[f.length - (i + 1)] :: f.drop (f.length - i) := by
      rw [List.drop_eq_getElem_cons hk, show f.length - (i + 1) + 1 = f.length - i by omega]
    have bv : Dr.Sm f[f.length - (i + 1)] m := hf _ (List.getElem_mem _)
    have ev : f.getD (f.length - (i + 1)) 0 = f[f.length - (i + 1)] := by
      rw [List.getD_eq_getElem?_getD, List.getElem?_eq_getElem hk]
      rfl
    (first | refine hX _ _ ?_ | skip); (try dsimp only); try walk_at "dr1"
    rw [ek]
    refine ⟨mulSm bT hx (by omega), _, hS, _, atI_ints (by omega) (by omega), _, rfl, IntMulOk.of_left (intBits_le_64 (by omega) (by omega)), (hPv _ _ _).mpr ⟨rfl, some (.int ((f.length - (i + 1) : Nat) : Int)), ?_⟩⟩
    rw [ed]
    simp only [Dr.dm, Dr.pev]
    rw [Int.toNat_natCast, ev, show ((f.length - (i + 1) : Nat) : Int) + 1 = ((f.length - i : Nat) : Int) by omega]
    rw [Int.mul_comm x, Int.add_comm]
  · intro σ H2 z
    obtain ⟨e2, t3, rfl⟩ := (hPv _ _ _).mp z
    (first | refine hX _ _ ?_ | skip); (try dsimp only); try walk_at "dr1"
    subst e2
    have e1 : f.length - ((f.length : Int) - 1 - 0).toNat = 1 := by omega
    rw [e1]
    cases f with
    | nil => simp at hl
    | cons c f =>
      have : Dr.pev (Dr.dm ((1 : Nat) : Int) ((c :: f).drop 1)) x = Dr.pdv (c :: f) x := by
        rw [Dr.pev_dm]
        simp [Dr.pdv]
      rw [this]
      exact q
theorem app_assoc (a b c : Str) : a ++ b ++ c = a ++ (b ++ c) := congrArg Str.mk Array.append_assoc
theorem app_len (a b : Str) : (a ++ b).length = a.length + b.length := Array.size_append
theorem row2 {t a b : Str} (s : Str) (h : t = a ++ Str.ofString " " ++ (b ++ Str.ofString " ")) : t ++ s = Str.join (Str.ofString " ") [a, b, s] := by
  show _ = a ++ Str.ofString " " ++ (b ++ Str.ofString " " ++ s)
  rw [h]
  simp only [app_assoc]
theorem row3 {t a b u : Str} (s : Str) {v : Str} (h : t = a ++ Str.ofString " " ++ (b ++ Str.ofString " ")) (hu : u = Str.ofString " " ++ v) : t ++ s ++ u = Str.join (Str.ofString " ") [a, b, s, v] := by
  show _ = a ++ Str.ofString " " ++ (b ++ Str.ofString " " ++ (s ++ Str.ofString " " ++ v))
  rw [h, hu]
  simp only [app_assoc]
theorem row3' {t a b : Str} (s v : Str) (h : t = a ++ Str.ofString " " ++ (b ++ Str.ofString " ")) : t ++ s ++ Str.ofString " " ++ v = Str.join (Str.ofString " ") [a, b, s, v] := by
  rw [← row3 s h rfl]
  simp only [app_assoc]
theorem row4 {t a b c u : Str} (s : Str) {v : Str} (h : t = a ++ Str.ofString " " ++ (b ++ Str.ofString " " ++ (c ++ Str.ofString " "))) (hu : u = Str.ofString " " ++ v) : t ++ s ++ u = Str.join (Str.ofString " ") [a, b, c, s, v] := by
  show _ = a ++ Str.ofString " " ++ (b ++ Str.ofString " " ++ (c ++ Str.ofString " " ++ (s ++ Str.ofString " " ++ v)))
  rw [h, hu]
  simp only [app_assoc]
theorem t_single : Str.ofString "single a " = ("single" : Str) ++ Str.ofString " " ++ (("a" : Str) ++ Str.ofString " ") := by decide +kernel
theorem t_root : Str.ofString "root a " = ("root" : Str) ++ Str.ofString " " ++ (("a" : Str) ++ Str.ofString " ") := by decide +kernel
theorem t_roots : Str.ofString "roots a " = ("roots" : Str) ++ Str.ofString " " ++ (("a" : Str) ++ Str.ofString " ") := by decide +kernel
theorem t_rootsb : Str.ofString "roots b " = ("roots" : Str) ++ Str.ofString " " ++ (("b" : Str) ++ Str.ofString " ") := by decide +kernel
theorem t_poly : Str.ofString "poly a " = ("poly" : Str) ++ Str.ofString " " ++ (("a" : Str) ++ Str.ofString " ") := by decide +kernel
theorem t_seen : Str.ofString "seen b a " = ("seen" : Str) ++ Str.ofString " " ++ (("b" : Str) ++ Str.ofString " " ++ (("a" : Str) ++ Str.ofString " ")) := by decide +kernel
theorem t_60 : Str.ofString " 60" = Str.ofString " " ++ Tx.tx 60 := by decide +kernel
theorem t_1 : Str.ofString " 1" = Str.ofString " " ++ Tx.tx 1 := by decide +kernel
theorem l_single : (Str.ofString "single a ").length = 9 := by decide +kernel
theorem l_root : (Str.ofString "root a ").length = 7 := by decide +kernel
theorem l_roots : (Str.ofString "roots a ").length = 8 := by decide +kernel
theorem l_rootsb : (Str.ofString "roots b ").length = 8 := by decide +kernel
theorem l_poly : (Str.ofString "poly a ").length = 7 := by decide +kernel
theorem l_seen : (Str.ofString "seen b a ").length = 9 := by decide +kernel
theorem l_60 : (Str.ofString " 60").length = 3 := by decide +kernel
theorem l_1 : (Str.ofString " 1").length = 2 := by decide +kernel
theorem len60 {x : Int} (h : x.natAbs < 10 ^ 60) : (Str.ofString (toString x)).length ≤ 191 := str_big (Nat.lt_of_lt_of_le h (by decide +kernel))
theorem log60 {x : Int} (h : x.natAbs < 10 ^ 60) : x.natAbs.log2 < 1920 := log_big (Nat.lt_of_lt_of_le h (by decide +kernel))
theorem le_line {n : Nat} (h : n ≤ 4000) : n ≤ sizeLine := Nat.le_trans h (by decide)
theorem nm_a : Nm "a" := ⟨by decide +kernel, by decide +kernel, fun c hc => by revert c; decide +kernel⟩
theorem nm_b : Nm "b" := ⟨by decide +kernel, by decide +kernel, fun c hc => by revert c; decide +kernel⟩
theorem Stand.same {K : PySem.W.Frag} {H H' : Hp} {kvs : List (Key × V)} {x : Str} {b : Addr} {f : List Int} (h : Stand K H kvs x b f) (g : Same H H') : Stand K H' kvs x b f := ⟨h.nm, h.val, g.seq h.sq, h.len, h.bits⟩
theorem lt60 {x : Int} {n : Nat} (h : Dr.Sm x n) (hn : n ≤ 199) : x.natAbs < 10 ^ 60 := Nat.lt_of_lt_of_le (h.mono hn) (by decide +kernel)
theorem if_no {A B : Prop} {a b : Str} (e : a = b) (h : B) : if ¬ V.str a = V.str b then A else B := by
  rw [if_neg (not_not_intro (congrArg V.str e))]
  exact h
theorem not_kd {H : Hp} {a kd : Addr} {xs : List V} {kvs : List (Key × V)} (h : H a = some (.lst xs)) (hk : H kd = some (.dK kvs)) : a ≠ kd := fun z => by
  rw [z, hk] at h
  cases h
theorem DeskAt.put {K : PySem.W.Frag} {H : Hp} {d dx kd : Addr} {p : Int} {kvs kvs' : List (Key × V)} (h : DeskAt K H d dx kd p kvs) : DeskAt K (upd H kd (.dK kvs')) d dx kd p kvs' := by
  refine ⟨?_, upd_same⟩
  rw [upd_ne fun z => ?_]
  · exact h.ins
  · have := h.ins
    rw [z, h.kept] at this
    cases this
theorem putK_len (kvs : List (Key × V)) (k : Key) (v : V) : (putK kvs k v).length ≤ kvs.length + 1 := by
  unfold putK
  split
  · rw [List.length_map]; omega
  · rw [List.length_append]; exact Nat.le_refl _
theorem Stand.new {K : PySem.W.Frag} {H : Hp} {kd l : Addr} {kvs kvs0 : List (Key × V)} {x : Str} {f : List Int} (hx : Nm x) (h : H l = some (.lst (f.map V.int))) (hk : H kd = some (.dK kvs0)) (hl : 0 < f.length ∧ f.length ≤ 13) (hb : Dr.PolyB f 700) : Stand K (upd H kd (.dK (putK kvs (Sum.inr x) (.ref l)))) (putK kvs (Sum.inr x) (.ref l)) x l f :=
  ⟨hx, by rw [valV_put, if_pos rfl], SqL.of (by rw [upd_ne (not_kd h hk)]; exact h), hl, hb⟩
theorem rest_lt {p x : Int} {N : Nat} (hp : 2 ≤ p ∧ p < 1000) (hN : N ≤ 60) (h : 0 ≤ x ∧ x < p ^ N) : x.natAbs < 10 ^ 190 := by
  have h2 := pow_bits (p := p) hp N
  have h3 : (2 : Nat) ^ (10 * N + 1) ≤ 2 ^ 601 := Nat.pow_le_pow_right (by decide) (by omega)
  have h4 : (2 : Nat) ^ 601 ≤ 10 ^ 190 := by decide +kernel
  generalize (10 : Nat) ^ 190 = M1 at h4 ⊢
  generalize (2 : Nat) ^ 601 = M2 at h3 h4
  generalize (2 : Nat) ^ (10 * N + 1) = M3 at h2 h3
  omega
theorem rests_lt {p : Int} {N : Nat} {rs : List Int} (hp : 2 ≤ p ∧ p < 1000) (hN : N ≤ 60) : ∀ x, x ∈ rs.map (· % p ^ N) → x.natAbs < 10 ^ 190 := fun x hx => by
  obtain ⟨y, _, rfl⟩ := List.mem_map.mp hx
  exact rest_lt hp hN (mod_in y (Dr.pow_pos hp.1 N))
def sp__law_single (K : PySem.W.Frag) : Sp := fun vs H Q _ => ∃ (d dx kd lf b : Addr) (p r N : Int) (f : List Int) (kvs : List (Key × V)), vs = [.ref d, .int p, .ref lf, .int r, .int N] ∧ DeskAt K H d dx kd p kvs ∧ p ∈ Dr.primes ∧ kvs.length < 900 ∧ SqL K H lf (f.map V.int) ∧ Stand K H kvs "a" b f ∧ (0 ≤ N ∧ N ≤ 60) ∧
  Dr.pev f r = 0 ∧ Dr.pdv f r ≠ 0 ∧ (∀ (d : Nat) (u : Int), Dr.Fac p (Dr.pdv f r) d u → Dr.Sm (p ^ d) 90) ∧ Dr.Sm r 25 ∧ ∀ H', Same H H' → Q (.bl true) H'
theorem ok__law_single (B : Bi mg K w) (d_say : Met P w K mg base CX0 (clK K "Desk") "say" 68 ["self", "row"] (sp_say K)) (d__law_power : Def P w K mg base "_law_power" 1 ["p", "e"] (sp__law_power K)) (d__law_depth : Def P w K mg base "_law_depth" 1 ["p", "number"] (sp__law_depth K)) (d__law_slope_worth : Def P w K mg base "_law_slope_worth" 1 ["f", "x"] (sp__law_slope_worth K)) (F : Fun K "_law_single" "_law_single" s__law_single f fd) : FnOk P w K mg base CX0 69 f fd ["desk", "p", "f", "root", "deep"] (sp__law_single K) := by
  refine F.ok S__law_single (fun vs H Q E h => ?_) (fun cdv A outer s H vs Q E hr h => ?_)
  · obtain ⟨d, dx, kd, lf, b, p, r, N, f, kvs, rfl, _⟩ := h
    rfl
  obtain ⟨d, dx, kd, lf, b, p, r, N, f, kvs, rfl, hd, hpp, hk, hS, st, hN, z0, dv, hb, br, q⟩ := h
  have S := S__law_single
  have p2 := Dr.primes_ge hpp
  have hp : 2 ≤ p ∧ p < 1000 := by omega
  refine ⟨_, ((pss_cons (ps_set (i := 5) S.nd rfl (Or.inl rfl) (pe_def d__law_depth hr rfl (pa_cons (pv 1) (pa_cons (pe_def d__law_slope_worth hr rfl (pa_cons (pv 2) (pa_cons (pv 3) pa_nil))) pa_nil))))
    (pss_cons (ps_if (pt_cmpR op_ne (pe_met pass0 B.cl_Desk d_say hr (pv 0) (pa_cons (pe_op op_add_str pe_str (pe_callTy call_str_int rfl B.b_str L2.bt_str (pa_cons (pv 3) pa_nil))) pa_nil)) (pe_callTy call_str_int rfl B.b_str L2.bt_str (pa_cons (pv 5) pa_nil)) (nomark _)) (pss_one (ps_ret pe_bl)) pss_nil)
    (pss_cons (ps_set (i := 6) S.nd rfl (Or.inl rfl) (pe_callTy call_str_int rfl B.b_str L2.bt_str (pa_cons (pe_op op_mod (pv 3) (pe_def d__law_power hr rfl (pa_cons (pv 1) (pa_cons (pv 4) pa_nil)))) pa_nil)))
    (pss_cons (ps_set (i := 7) S.nd rfl (Or.inl rfl) (pe_callTy call_str_int rfl B.b_str L2.bt_str (pa_cons (pe_op op_add (pv 3) (pe_op op_mulW pe_int (pe_def d__law_power hr rfl (pa_cons (pv 1) (pa_cons (pe_op op_add (pe_op op_mulW pe_int (pv 5)) pe_int) pa_nil))))) pa_nil)))
    (pss_cons (ps_if (PW.pt (pw_or (pt_cmpR op_ne (pe_met pass0 B.cl_Desk d_say hr (pv 0) (pa_cons (pe_op op_add_str (pe_op op_add_str (pe_op op_add_str pe_str (pe_callTy call_str_int rfl B.b_str L2.bt_str (pa_cons (pv 3) pa_nil))) pe_str) (pe_callTy call_str_int rfl B.b_str L2.bt_str (pa_cons (pv 4) pa_nil))) pa_nil)) (pv 6) (nomark _)) (pw_or1 (pt_cmpR op_ne (pe_met pass0 B.cl_Desk d_say hr (pv 0) (pa_cons (pe_op op_add_str pe_str (pv 7)) pa_nil)) (pe_callTy call_str_int rfl B.b_str L2.bt_str (pa_cons (pv 5) pa_nil)) (nomark _))))) (pss_one (ps_ret pe_bl)) pss_nil)
    (pss_one (ps_ret (pe_cmpR op_eq (pe_met pass0 B.cl_Desk d_say hr (pv 0) (pa_cons (pe_op op_add_str (pe_op op_add_str (pe_op op_add_str pe_str (pv 7)) pe_str) (pe_callTy call_str_int rfl B.b_str L2.bt_str (pa_cons (pv 4) pa_nil))) pa_nil)) (pv 6) (nomark _)))))))))), ?_⟩
  (try dsimp only); (first | refine hX _ _ ?_ | skip); (try dsimp only); (first | refine seqX (fun X hX => ?_) | skip); try walk_at "dr2"; (try simp only [sp_say, sp__law_power, sp__law_depth, sp__law_slope_worth]); try walk_at "dr2"
  refine ⟨f, hS, by have := st.len; omega, st.len.2, 700, st.bits, 25, br, by decide, by decide, hp.1, hp.2, dv, fun e u F => ?_⟩
  have be := hb e u F
  have si : Dr.Single p f r e u := ⟨F, by rw [z0]; exact Int.zero_emod _⟩
  have e90 : e < 90 := by
    have h1 := Dr.two_pow_le hp.1 e
    have h2 : (p ^ e).natAbs < 2 ^ 90 := be
    exact (Nat.pow_lt_pow_iff_right (by decide : 1 < 2)).mp (Nat.lt_of_le_of_lt h1 h2)
  have r60 := lt60 br (by decide)
  have lr := len60 r60
  have lN := len60 (small_val hN)
  have qN : 0 < p ^ N.toNat := Dr.pow_pos hp.1 _
  (try dsimp only); (first | refine hX _ _ ?_ | skip); (try dsimp only); (first | refine seqX (fun X hX => ?_) | skip); try walk_at "dr2"; (try simp only [sp_say, sp__law_power, sp__law_depth, sp__law_slope_worth]); try walk_at "dr2"
  refine ⟨_, _, hd.ins, look_no (by decide +kernel) (by decide +kernel), log60 r60, le_line (by rw [l_single]; omega), dx, kd, p, kvs, _, _, _, _, row2 _ t_single, hd, hpp, hk, ?_, .single st r60 si (by omega) fun H1 g1 => ?_⟩
  · rw [← row2 _ t_single, app_len, l_single]
    omega
  refine ⟨log_deep (by omega), rfl, if_no rfl ?_⟩
  have hd := hd.same g1
  have st := st.same g1
  (try dsimp only); (first | refine hX _ _ ?_ | skip); (try dsimp only); (first | refine seqX (fun X hX => ?_) | skip); try walk_at "dr2"; (try simp only [sp_say, sp__law_power, sp__law_depth, sp__law_slope_worth]); try walk_at "dr2"
  refine ⟨hp.1, hp.2, by omega, by omega, qN, ?_⟩
  have mr := mod_in r qN
  refine ⟨log_rest hp (by omega) mr, ?_⟩
  have bq : Dr.Sm (2 * p ^ (2 * e + 1)) 189 := by
    have h1 : Dr.Sm (2 * (p ^ e * p ^ e * p)) (2 + (90 + 90 + 7)) := (sm_of (k := 2) 2 (by decide) (by decide)).mul ((be.mul be).mul (sm_of 97 (by omega) (by decide)))
    rwa [show p ^ e * p ^ e * p = p ^ (2 * e + 1) by rw [Int.pow_succ, Nat.two_mul, Int.pow_add]] at h1
  have bnear : Dr.Sm (r + 2 * p ^ (2 * e + 1)) 190 := (br.add bq).mono (by decide)
  have n60 := lt60 bnear (by decide)
  have en : ((2 : Int) * (e : Int) + 1).toNat = 2 * e + 1 := by omega
  (try dsimp only); (first | refine hX _ _ ?_ | skip); (try dsimp only); (first | refine seqX (fun X hX => ?_) | skip); try walk_at "dr2"; (try simp only [sp_say, sp__law_power, sp__law_depth, sp__law_slope_worth]); try walk_at "dr2"
  refine ⟨IntMulOk.of_left (by decide), hp.1, hp.2, by omega, by omega, IntMulOk.of_left (by decide), by rw [en]; exact log60 n60, ?_⟩
  rw [en]
  have hab : (r + 2 * p ^ (2 * e + 1) - r) % p ^ (e + 1) = 0 := by
    have : r + 2 * p ^ (2 * e + 1) - r = p ^ (e + 1) * (2 * p ^ e) := by
      rw [show 2 * e + 1 = e + 1 + e by omega, Int.pow_add]
      have : 2 * (p ^ (e + 1) * p ^ e) = p ^ (e + 1) * (2 * p ^ e) := Int.mul_left_comm ..
      omega
    rw [this]
    exact Int.mul_emod_right ..
  obtain ⟨v, si2, _⟩ := si.near hp.1 hab
  have low : N ≤ (e : Int) + 1 → (r + 2 * p ^ (2 * e + 1)) % p ^ N.toNat = r % p ^ N.toNat := fun c => by
    refine Dr.emod_same ?_
    obtain ⟨k, ek⟩ := Int.dvd_of_emod_eq_zero hab
    rw [ek, show e + 1 = N.toNat + (e + 1 - N.toNat) by omega, Int.pow_add, Int.mul_assoc]
    exact Int.mul_emod_right ..
  have hab2 : (r - (r + 2 * p ^ (2 * e + 1))) % p ^ (e + 1) = 0 := by
    obtain ⟨k, ek⟩ := Int.dvd_of_emod_eq_zero hab
    rw [show r - (r + 2 * p ^ (2 * e + 1)) = p ^ (e + 1) * (-k) by rw [Int.mul_neg, ← ek]; omega]
    exact Int.mul_emod_right ..
  generalize r + 2 * p ^ (2 * e + 1) = nr at bnear n60 si2 low hab2 ⊢
  have ln := len60 n60
  (try dsimp only); (first | refine hX _ _ ?_ | skip); (try dsimp only); (first | refine seqX (fun X hX => ?_) | skip); try walk_at "dr2"; (try simp only [sp_say, sp__law_power, sp__law_depth, sp__law_slope_worth]); try walk_at "dr2"
  refine ⟨_, _, hd.ins, look_no (by decide +kernel) (by decide +kernel), log60 r60, le_line (by rw [l_root]; omega), le_line (by rw [app_len, l_root, sp_len1]; omega), log60 (small_val hN), le_line (by rw [app_len, app_len, l_root, sp_len1]; omega), dx, kd, p, kvs, _, _, _, _, row3' _ _ t_root, hd, hpp, hk, ?_, .root st r60 hN si fun x H2 g2 hx => ?_⟩
  · rw [← row3' _ _ t_root, app_len, app_len, app_len, l_root, sp_len1]
    omega
  obtain rfl : x = r % p ^ N.toNat := by
    rcases hx with ⟨_, e⟩ | ⟨_, R⟩
    · exact e
    · exact Dr.root_whole hpp si z0 (by rw [Int.sub_self]; exact Int.zero_emod _) R
  clear hx
  have hd := hd.same g2
  have st := st.same g2
  refine ⟨rfl, if_no rfl ?_⟩
  refine ⟨_, _, hd.ins, look_no (by decide +kernel) (by decide +kernel), le_line (by rw [l_single]; omega), dx, kd, p, kvs, _, _, _, _, row2 _ t_single, hd, hpp, hk, ?_, .single st n60 si2 (by omega) fun H3 g3 => ?_⟩
  · rw [← row2 _ t_single, app_len, l_single]
    omega
  refine ⟨log_deep (by omega), rfl, if_no rfl ?_⟩
  have hd := hd.same g3
  have st := st.same g3
  (first | refine hX _ _ ?_ | skip); (try dsimp only); try walk_at "dr1"; (try simp only [sp_say, sp__law_power, sp__law_depth, sp__law_slope_worth]); try walk_at "dr1"
  refine ⟨_, _, hd.ins, look_no (by decide +kernel) (by decide +kernel), le_line (by rw [l_root]; omega), le_line (by rw [app_len, l_root, sp_len1]; omega), log60 (small_val hN), le_line (by rw [app_len, app_len, l_root, sp_len1]; omega), dx, kd, p, kvs, _, _, _, _, row3' _ _ t_root, hd, hpp, hk, ?_, .root st n60 hN si2 fun x H4 g4 hx => ?_⟩
  · rw [← row3' _ _ t_root, app_len, app_len, app_len, l_root, sp_len1]
    omega
  obtain rfl : x = r % p ^ N.toNat := by
    rcases hx with ⟨c, e⟩ | ⟨_, R⟩
    · rw [e]
      exact low c
    · exact Dr.root_whole hpp si2 z0 hab2 R
  refine ⟨rfl, ?_⟩
  have e1 : decide (V.str (Tx.tx (r % p ^ N.toNat)) = V.str (Str.ofString (toString (r % p ^ N.toNat)))) = true := decide_eq_true rfl
  rw [e1]
  exact q H4 (g1.trans (g2.trans (g3.trans g4)))
theorem ok_law (B : Bi mg K w) (d___init__ : MkD P w K mg base (clK K "Desk") 2 ["self", "p"] (sp___init__ K)) (d_say : Met P w K mg base CX0 (clK K "Desk") "say" 68 ["self", "row"] (sp_say K)) (d__law_cell : Def P w K mg base "_law_cell" 1 ["script", "k"] (sp__law_cell K)) (d__law_prime : Def P w K mg base "_law_prime" 1 ["cell"] (sp__law_prime K)) (d__law_times : Def P w K mg base "_law_times" 1 ["f", "g"] (sp__law_times K)) (d__law_power : Def P w K mg base "_law_power" 1 ["p", "e"] (sp__law_power K)) (d__law_roots : Def P w K mg base "_law_roots" 2 ["p", "script"] (sp__law_roots K)) (d__law_written : Def P w K mg base "_law_written" 1 ["rests"] (sp__law_written K)) (d__law_single : Def P w K mg base "_law_single" 69 ["desk", "p", "f", "root", "deep"] (sp__law_single K)) (F : Fun K "law" "law" s_law f fd) : FnOk P w K mg base CX0 70 f fd ["script"] (spLaw K) := by
  refine F.ok S_law (fun vs H Q E h => ?_) (fun cdv A outer s H vs Q E hr h => ?_)
  · obtain ⟨a, ns, rfl, _⟩ := h
    rfl
  obtain ⟨la, ns, rfl, hS, hl, hbits, q⟩ := h
  have S := S_law
  refine ⟨_, ((pss_cons (ps_set (i := 1) S.nd rfl (Or.inr rfl) (pe_def d__law_prime hr rfl (pa_cons (pe_def d__law_cell hr rfl (pa_cons (pv 0) (pa_cons pe_int pa_nil))) pa_nil)))
    (pss_cons (ps_set (i := 2) S.nd rfl (Or.inr rfl) (pe_def d__law_roots hr rfl (pa_cons (pv 1) (pa_cons (pv 0) pa_nil))))
    (pss_cons (ps_set (i := 3) S.nd rfl (Or.inl rfl) (pe_lst (pa_cons (pe_op op_add pe_int (pe_op op_mod (pe_def d__law_cell hr rfl (pa_cons (pv 0) (pa_cons pe_int pa_nil))) pe_int)) pa_nil)))
    (pss_cons (ps_for PassesOwn.never rfl (pi_list (pv 2)) (pg_name (i := 4) S.nd rfl (Or.inl rfl)) (pss_one (ps_set (i := 3) S.nd rfl (Or.inl rfl) (pe_def d__law_times hr rfl (pa_cons (pv 3) (pa_cons (pe_lst (pa_cons (pe_un un_neg (pv 4)) (pa_cons pe_int pa_nil))) pa_nil))))))
    (pss_cons (ps_join (ps_if (pt_cmpR op_eq (pe_op op_mod (pe_def d__law_cell hr rfl (pa_cons (pv 0) (pa_cons pe_int pa_nil))) pe_int) pe_int (nomark _)) (pss_one (ps_set (i := 3) S.nd rfl (Or.inl rfl) (pe_def d__law_times hr rfl (pa_cons (pv 3) (pa_cons (pe_lst (pa_cons pe_int (pa_cons (pe_op op_mulW (pv 1) (pe_op op_add pe_int (pe_op op_mod (pe_op op_fdivW (pe_def d__law_cell hr rfl (pa_cons (pv 0) (pa_cons pe_int pa_nil))) pe_int) pe_int))) pa_nil))) pa_nil))))) pss_nil))
    (pss_cons (ps_set (i := 5) S.nd rfl (Or.inr rfl) (pe_op op_mod (pe_def d__law_cell hr rfl (pa_cons (pv 0) (pa_cons pe_int pa_nil))) pe_int))
    (pss_cons (ps_join (ps_if (pt_cmpR op_gt (pv 1) pe_int (nomark _)) (pss_one (ps_set (i := 5) S.nd rfl (Or.inr rfl) (pe_op op_mod (pe_def d__law_cell hr rfl (pa_cons (pv 0) (pa_cons pe_int pa_nil))) pe_int))) pss_nil))
    (pss_cons (ps_set (i := 6) S.nd rfl (Or.inl rfl) (pe_mk d___init__ hr rfl B.c_Desk (pa_cons (pv 1) pa_nil)))
    (pss_cons (ps_if (pt_cmpR op_ne (pe_met pass0 B.cl_Desk d_say hr (pv 6) (pa_cons (pe_op op_add_str pe_str (pe_bm PySem.F.plainAttrs_str PySem.F.slot_str_join PySem.F.type_str_join mt_join pe_str (pa_cons (pe_comp [] [] rfl rfl trivial trivial rfl rfl (by decide) (by decide) rfl rfl (by decide) (pi_list (pv 3)) (fun _ _ _ _ => pts_nil) (fun _ _ _ _ => (pe_callTy call_str_int rfl B.b_str L2.bt_str (pa_cons (pv 0) pa_nil)))) pa_nil))) pa_nil)) pe_str (nomark _)) (pss_one (ps_ret pe_bl)) pss_nil)
    (pss_cons (ps_for PassesOwn.never rfl (pi_list (pe_lst (pa_cons pe_int (pa_cons (pv 5) (pa_cons (pe_op op_add (pv 5) pe_int) pa_nil))))) (pg_name (i := 7) S.nd rfl (Or.inr rfl)) (pss_one (ps_if (pt_cmpR op_ne (pe_met pass0 B.cl_Desk d_say hr (pv 6) (pa_cons (pe_op op_add_str pe_str (pe_callTy call_str_int rfl B.b_str L2.bt_str (pa_cons (pv 7) pa_nil))) pa_nil)) (pe_def d__law_written hr rfl (pa_cons (pe_comp [7, 1] ["e", "p"] rfl rfl ⟨rfl, rfl, trivial⟩ ⟨rfl, rfl, rfl, rfl, rfl, rfl, rfl, rfl, trivial⟩ rfl rfl (by decide) (by decide) rfl rfl (by decide) (pi_list (pv 2)) (fun _ _ _ _ => pts_nil) (fun _ _ _ _ => (pe_op op_mod (pv 0) (pe_def d__law_power hr rfl (pa_cons (pv 2) (pa_cons (pv 1) pa_nil)))))) pa_nil)) (nomark _)) (pss_one (ps_ret pe_bl)) pss_nil)))
    (pss_cons (ps_for PassesOwn.never rfl (pi_list (pv 2)) (pg_name (i := 4) S.nd rfl (Or.inl rfl)) (pss_one (ps_if (pt_not (pt_val (pe_def d__law_single hr rfl (pa_cons (pv 6) (pa_cons (pv 1) (pa_cons (pv 3) (pa_cons (pv 4) (pa_cons (pv 5) pa_nil)))))))) (pss_one (ps_ret pe_bl)) pss_nil)))
    (pss_cons (ps_if (pt_cmpR op_ne (pe_met pass0 B.cl_Desk d_say hr (pv 6) (pa_cons (pe_op op_add_str (pe_op op_add_str pe_str (pe_callTy call_str_int rfl B.b_str L2.bt_str (pa_cons (pe_ix ix_list (pv 2) pe_int (fun _ _ => rfl)) pa_nil))) pe_str) pa_nil)) (pe_callTy call_str_int rfl B.b_str L2.bt_str (pa_cons (pe_op op_mod (pe_ix ix_list (pv 2) pe_int (fun _ _ => rfl)) (pe_def d__law_power hr rfl (pa_cons (pv 1) (pa_cons pe_int pa_nil)))) pa_nil)) (nomark _)) (pss_one (ps_ret pe_bl)) pss_nil)
    (pss_cons (ps_if (pt_cmpR op_ne (pe_met pass0 B.cl_Desk d_say hr (pv 6) (pa_cons (pe_op op_add_str (pe_op op_add_str pe_str (pe_callTy call_str_int rfl B.b_str L2.bt_str (pa_cons (pe_ix ix_list (pv 2) pe_int (fun _ _ => rfl)) pa_nil))) pe_str) pa_nil)) pe_str (nomark _)) (pss_one (ps_ret pe_bl)) pss_nil)
    (pss_cons (ps_comp [5, 1, 2] ["deep", "p", "roots"] rfl S.nd (k := 8) rfl rfl rfl rfl ⟨rfl, rfl, rfl, trivial⟩ ⟨rfl, rfl, rfl, rfl, rfl, rfl, rfl, rfl, rfl, rfl, rfl, rfl, trivial⟩ rfl rfl (by decide) (by decide) rfl rfl (by decide) (pi_list (pv 2)) (fun _ _ _ _ => (pts_one (pt_cmpR op_eq (pe_op op_mod (pe_op op_sub (pv 0) (pe_ix (ix_listK (K := K) rfl) (pv 3) pe_int (fun _ _ => rfl))) (pv 2)) pe_int (nomark _)))) (fun _ _ _ _ => (pe_op op_mod (pe_op op_fdivW (pe_op op_sub (pv 0) (pe_ix (ix_listK (K := K) rfl) (pv 3) pe_int (fun _ _ => rfl))) (pv 2)) (pe_def d__law_power hr rfl (pa_cons (pv 2) (pa_cons (pv 1) pa_nil))))))
    (pss_one (ps_ret (pe_cmpR op_eq (pe_met pass0 B.cl_Desk d_say hr (pv 6) (pa_cons (pe_op op_add_str pe_str (pe_callTy call_str_int rfl B.b_str L2.bt_str (pa_cons (pv 5) pa_nil))) pa_nil)) (pe_def d__law_written hr rfl (pa_cons (pv 8) pa_nil)) (nomark _))))))))))))))))))), ?_⟩
  (try dsimp only); (first | refine hX _ _ ?_ | skip); (try dsimp only); (first | refine seqX (fun X hX => ?_) | skip); try walk_at "dr2"; (try simp only [sp___init__, sp_say, sp__law_cell, sp__law_prime, sp__law_times, sp__law_power, sp__law_roots, sp__law_written, sp__law_single]); try walk_at "dr2"
  refine ⟨ns, hS, hl, fun p H1 hpp g1 => ?_⟩
  have p2 := Dr.primes_ge hpp
  have hp : 2 ≤ p ∧ p < 1000 := by omega
  (try dsimp only); (first | refine hX _ _ ?_ | skip); (try dsimp only); (first | refine seqX (fun X hX => ?_) | skip); try walk_at "dr2"; (try simp only [sp___init__, sp_say, sp__law_cell, sp__law_prime, sp__law_times, sp__law_power, sp__law_roots, sp__law_written, sp__law_single]); try walk_at "dr2"
  refine ⟨hpp, ns, g1.seq hS, hl, fun lr rs H2 nd lrs brs nr g2 kr => ?_⟩
  have G2 := g1.trans g2
  have m30 := mod_in (cellv ns 2) (show (0 : Int) < 30 by decide)
  (try dsimp only); (first | refine hX _ _ ?_ | skip); (try dsimp only); (first | refine seqX (fun X hX => ?_) | skip); try walk_at "dr2"; (try simp only [sp___init__, sp_say, sp__law_cell, sp__law_prime, sp__law_times, sp__law_power, sp__law_roots, sp__law_written, sp__law_single]); try walk_at "dr2"
  refine ⟨ns, G2.seq hS, hl, by decide, ?_⟩
  have m31 : 1 ≤ 1 + cellv ns 2 % 30 ∧ 1 + cellv ns 2 % 30 ≤ 30 := by omega
  generalize 1 + cellv ns 2 % 30 = c0 at m31 ⊢
  intro l3 n_l3; generalize e_l3 : upd _ l3 _ = H3; obtain ⟨g3, k3⟩ := newH e_l3 n_l3; clear e_l3
  have hc0 : (1 ≤ c0 ∧ c0 ≤ 30) := m31
  have k3 : H3 l3 = some (.lst ([c0].map V.int)) := k3
  have kr3 := g3 _ _ kr
  (try dsimp only); (first | refine hX _ _ ?_ | skip); (try dsimp only); (first | refine seqX (fun X hX => ?_) | skip); try walk_at "dr2"; (try simp only [sp___init__, sp_say, sp__law_cell, sp__law_prime, sp__law_times, sp__law_power, sp__law_roots, sp__law_written, sp__law_single]); try walk_at "dr2"
  refine ⟨⟨_, SqL.of kr3⟩, ?_⟩
  obtain ⟨Pv, hPv⟩ : ∃ Pv : Nat → St → Hp → Prop, ∀ i σ H4, Pv i σ H4 ↔ (Same H3 H4 ∧ ∃ (l : Addr) (f : List Int) (t4 : Option V), H4 l = some (.lst (f.map V.int)) ∧ f.length = i + 1 ∧ (∀ x, Dr.pev f x = c0 * Dr.prodR (rs.take i) x * Dr.pev [1] x) ∧ Dr.Fct p f (Dr.ws (rs.take i)) ∧ Dr.PolyB f (5 + 34 * i) ∧ σ = [some (.ref la), some (.int p), some (.ref lr), some (.ref l), t4, none, none, none, none]) := ⟨_, fun _ _ _ => Iff.rfl⟩
  (first | refine hX _ _ ?_ | skip); refine forI rs Pv ((hPv _ _ _).mpr ⟨Same.refl _, l3, [c0], none, k3, rfl, (fun x => by simp [Dr.pev, Dr.prodR]), Dr.Fct.start hp.1 (by omega), (fun x hx => by rw [List.mem_singleton.mp hx]; exact sm_of 31 (by omega) (by decide)), rfl⟩) (fun i σ H4 z => SqL.of (((hPv _ _ _).mp z).1 _ _ kr3)) ?_ ?_
  · intro i r σ H4 hr z
    obtain ⟨g4, l, f, t4, kf, lf, ev, fct, bf, rfl⟩ := (hPv _ _ _).mp z
    have hi := (List.getElem?_eq_some_iff.mp hr).1
    have br := brs r (List.mem_of_getElem? hr)
    have bg : Dr.PolyB [0 - r, 1] 22 := fun y hy => by
      simp only [List.mem_cons, List.not_mem_nil, or_false] at hy
      rcases hy with e | e <;> rw [e]
      · exact sm_of 4000000 (by omega) (by decide)
      · exact (sm_of (k := 22) 1 (by decide) (by decide))
    (first | refine hX _ _ ?_ | skip); (try dsimp only); try walk_at "dr1"; (try simp only [sp___init__, sp_say, sp__law_cell, sp__law_prime, sp__law_times, sp__law_power, sp__law_roots, sp__law_written, sp__law_single]); try walk_at "dr1"
    refine ⟨by decide, ?_⟩
    intro l5 n_l5; generalize e_l5 : upd _ l5 _ = H5; obtain ⟨g5, k5⟩ := newH e_l5 n_l5; clear e_l5
    have k5 : H5 l5 = some (.lst ([0 - r, 1].map V.int)) := by rw [k5, show 0 - r = -r by omega]; rfl
    refine ⟨f, SqL.of (g5 _ _ kf), [0 - r, 1], SqL.of k5, by omega, by omega, by simp, by simp, _, bf, 22, bg, by omega, by decide, fun c f' H6 hp' b' _ g6 k6 => ?_⟩
    have ln := hp'.len
    simp only [List.length_cons, List.length_nil] at ln
    refine (hPv _ _ _).mpr ⟨g4.trans (g5.trans g6), c, f', _, k6, by omega, fun x => ?_, ?_, fun y hy => (b' y hy).mono (by omega), rfl⟩
    · rw [take_next hr, Dr.prodR_app, hp'.ev, ev]
      show _ * (0 - r + x * (1 + x * 0)) = c0 * (_ * ((x - r) * 1)) * _
      grind
    · have := fct.lin (t := r) (b := 1) hp' (Dr.one_mod hpp)
      rw [take_next hr]
      unfold Dr.ws at this ⊢
      rwa [List.map_append]
  intro σ H4 z
  refine byX fun X hX => ?_; obtain ⟨g4, l4, f0, t4, kf0, lf0, ev0, fct0, bf0, rfl⟩ := (hPv _ _ _).mp z; refine hX ?_; clear hX X
  rw [List.take_length] at ev0 fct0
  clear hPv z k3
  have G4 := G2.trans (g3.trans g4)
  have kr4 := g4 _ _ kr3
  (first | refine hX _ _ ?_ | skip); refine seqI ?_
  obtain ⟨R, hR⟩ : ∃ R : St → Hp → Prop, ∀ σ' H5, R σ' H5 ↔ (Same H4 H5 ∧ ∃ (lf : Addr) (f g : List Int), H5 lf = some (.lst (f.map V.int)) ∧ f.length = rs.length + g.length ∧ (1 ≤ g.length ∧ g.length ≤ 2) ∧ Dr.PolyB g 10 ∧ Dr.Un p g ∧ (∀ x, Dr.pev f x = c0 * Dr.prodR rs x * Dr.pev g x) ∧ Dr.Fct p f (Dr.ws rs) ∧ Dr.PolyB f 190 ∧ σ' = [some (.ref la), some (.int p), some (.ref lr), some (.ref lf), t4, none, none, none, none]) := ⟨_, fun _ _ => Iff.rfl⟩
  (first | refine hX _ _ ?_ | skip); refine joinB R ?_ ?_
  · have un1 : Dr.Un p [1] := ⟨by simp, fun y => by show (1 + y * 0) % p ≠ 0; rw [Int.mul_zero]; exact Dr.one_mod hpp⟩
    have m9 := mod_in (cellv ns 3 / 2) (show (0 : Int) < 9 by decide)
    (first | refine hX _ _ ?_ | skip); (try dsimp only); try walk_at "dr1"; (try simp only [sp___init__, sp_say, sp__law_cell, sp__law_prime, sp__law_times, sp__law_power, sp__law_roots, sp__law_written, sp__law_single]); try walk_at "dr1"
    refine ⟨ns, G4.seq hS, hl, ite2 (fun _ => ?_) (fun _ => (hR _ _).mpr ⟨Same.refl _, l4, f0, [1], kf0, by rw [lf0]; rfl, by decide, (fun x hx => by rw [List.mem_singleton.mp hx]; exact sm_of 1 (by decide) (by decide)), un1, ev0, fct0, (fun y hy => (bf0 y hy).mono (by omega)), rfl⟩)⟩
    refine ⟨ns, G4.seq hS, hl, cdv_small ⟨by decide, by decide⟩, ?_⟩
    have mm : 1 ≤ 1 + cellv ns 3 / 2 % 9 ∧ 1 + cellv ns 3 / 2 % 9 ≤ 9 := by omega
    generalize 1 + cellv ns 3 / 2 % 9 = mu at mm ⊢
    have bpm : Dr.Sm (p * mu) 10 := by
      have h1 := Int.mul_le_mul (show p ≤ 97 by omega) mm.2 (by omega) (by decide)
      have h2 := Int.mul_nonneg (show 0 ≤ p by omega) (show 0 ≤ mu by omega)
      generalize p * mu = X1 at h1 h2
      exact sm_of 873 (by omega) (by decide)
    have bg : Dr.PolyB [1, p * mu] 10 := fun y hy => by
      simp only [List.mem_cons, List.not_mem_nil, or_false] at hy
      rcases hy with e | e <;> rw [e]
      · exact (sm_of (k := 10) 1 (by decide) (by decide))
      · exact bpm
    refine ⟨IntMulOk.of_left (intBits_le_64 (by omega) (by omega)), by decide, ?_⟩
    intro l5 n_l5; generalize e_l5 : upd _ l5 _ = H5; obtain ⟨g5, k5⟩ := newH e_l5 n_l5; clear e_l5
    have k5 : H5 l5 = some (.lst ([1, p * mu].map V.int)) := k5
    refine ⟨f0, SqL.of (g5 _ _ kf0), [1, p * mu], SqL.of k5, by omega, by omega, by simp, by simp, _, bf0, 10, bg, by omega, by decide, fun c f' H6 hp' b' _ g6 k6 => ?_⟩
    have ln := hp'.len
    simp only [List.length_cons, List.length_nil] at ln
    refine (hR _ _).mpr ⟨g5.trans g6, c, f', [1, p * mu], k6, by simp only [List.length_cons, List.length_nil]; omega, by simp, bg, Dr.unit_lin hpp mu, fun x => ?_, fct0.unit hpp hp' (Dr.unit_lin hpp mu), fun y hy => (b' y hy).mono (by omega), rfl⟩
    rw [hp'.ev, ev0]
    simp [Dr.pev]
  intro σ' H5 z
  refine byX fun X hX => ?_; obtain ⟨g5, lf, f, g, kf, lnf, lng, bg, un, ev, fct, bf, rfl⟩ := (hR _ _).mp z; refine hX ?_; clear hX X
  clear hR z ev0 fct0 bf0 kf0 lf0
  have G5 := G4.trans g5
  have kr5 := g5 _ _ kr4
  have m31 := mod_in (cellv ns 1) (show (0 : Int) < 31 by decide)
  have m8 := mod_in (cellv ns 1) (show (0 : Int) < 8 by decide)
  (try dsimp only); (first | refine hX _ _ ?_ | skip); (try dsimp only); (first | refine seqX (fun X hX => ?_) | skip); try walk_at "dr2"; (try simp only [sp___init__, sp_say, sp__law_cell, sp__law_prime, sp__law_times, sp__law_power, sp__law_roots, sp__law_written, sp__law_single]); try walk_at "dr2"
  refine ⟨ns, G5.seq hS, hl, ?_⟩
  (first | refine hX _ _ ?_ | skip); refine seqI ?_
  obtain ⟨R, hR⟩ : ∃ R : St → Hp → Prop, ∀ σ' H6, R σ' H6 ↔ (H6 = H5 ∧ ∃ deep : Int, 0 ≤ deep ∧ deep ≤ 30 ∧ σ' = [some (.ref la), some (.int p), some (.ref lr), some (.ref lf), t4, some (.int deep), none, none, none]) := ⟨_, fun _ _ => Iff.rfl⟩
  (first | refine hX _ _ ?_ | skip); refine joinB R ?_ ?_
  · (first | refine hX _ _ ?_ | skip); (try dsimp only); try walk_at "dr1"; (try simp only [sp___init__, sp_say, sp__law_cell, sp__law_prime, sp__law_times, sp__law_power, sp__law_roots, sp__law_written, sp__law_single]); try walk_at "dr1"
    exact ite2 (fun c => ⟨ns, G5.seq hS, hl, (hR _ _).mpr ⟨rfl, _, by omega, by omega, rfl⟩⟩) (fun c => (hR _ _).mpr ⟨rfl, _, by omega, by omega, rfl⟩)
  intro σ' H6 z
  refine byX fun X hX => ?_; obtain ⟨rfl, deep, hd1, hd2, rfl⟩ := (hR _ _).mp z; refine hX ?_; clear hX X
  clear hR z m31 m8
  (try dsimp only); (first | refine hX _ _ ?_ | skip); (try dsimp only); (first | refine seqX (fun X hX => ?_) | skip); try walk_at "dr2"; (try simp only [sp___init__, sp_say, sp__law_cell, sp__law_prime, sp__law_times, sp__law_power, sp__law_roots, sp__law_written, sp__law_single]); try walk_at "dr2"
  intro d dx nd1 ndx ned
  refine ⟨dx, upd_same, hpp, fun kd H12 nek nk kI kD old => ?_⟩
  rw [upd_ne nek] at nk
  have nkx : kd ≠ dx := fun z => by rw [z, upd_same] at nk; cases nk
  rw [upd_ne nkx] at nk
  have g12 : Same H6 H12 := fun b o hb => by
    have h1 : b ≠ d := fun z => by rw [z, nd1] at hb; cases hb
    have h2 : b ≠ dx := fun z => by rw [z, ndx] at hb; cases hb
    have h3 : b ≠ kd := fun z => by rw [z, nk] at hb; cases hb
    rw [old b h1 h3, upd_ne h1, upd_ne h2]
    exact hb
  have dk : DeskAt K H12 d dx kd p [] := ⟨kI, kD⟩
  have kf := g12 _ _ kf
  have kr := g12 _ _ kr5
  clear old nd1 ndx ned nek nk nkx kI kD
  have lf13 : 0 < f.length ∧ f.length ≤ 13 := by omega
  have f0 : f ≠ [] := fun z => by rw [z] at lf13; exact absurd lf13.1 (by decide)
  have b60 : ∀ x, x ∈ f → x.natAbs < 10 ^ 60 := fun x hx => lt60 (bf x hx) (by decide)
  have lsh : (Tx.shown f).length ≤ 868 := Tx.join_len (ms := f) (by omega) b60
  (try dsimp only); (first | refine hX _ _ ?_ | skip); (try dsimp only); (first | refine seqX (fun X hX => ?_) | skip); try walk_at "dr2"; (try simp only [sp___init__, sp_say, sp__law_cell, sp__law_prime, sp__law_times, sp__law_power, sp__law_roots, sp__law_written, sp__law_single]); try walk_at "dr2"
  refine ⟨_, _, dk.ins, look_no (by decide +kernel) (by decide +kernel), rfl, ⟨_, SqL.of kf⟩, ?_⟩
  obtain ⟨Pc, hPc⟩ : ∃ Pc : Nat → List V → Hp → Prop, ∀ i ys H', Pc i ys H' ↔ (H' = H12 ∧ ys = ((f.take i).map Tx.tx).map V.str) := ⟨_, fun _ _ _ => Iff.rfl⟩
  (first | refine hX _ _ ?_ | skip); refine compI f Pc (Nat.le_trans lf13.2 (by decide)) ((hPc _ _ _).mpr ⟨rfl, rfl⟩) (fun i ys H7 p => ?_) (fun i x ys H7 hx p => ?_) (fun ys H7 p l7 n7 => ?_)
  · rw [((hPc _ _ _).mp p).1]
    exact SqL.of kf
  · obtain ⟨rfl, rfl⟩ := (hPc _ _ _).mp p
    (first | refine hX _ _ ?_ | skip); (try dsimp only); try walk_at "dr1"; (try simp only [sp___init__, sp_say, sp__law_cell, sp__law_prime, sp__law_times, sp__law_power, sp__law_roots, sp__law_written, sp__law_single]); try walk_at "dr1"
    refine ⟨log60 (b60 x (List.mem_of_getElem? hx)), (hPc _ _ _).mpr ⟨rfl, ?_⟩⟩
    rw [take_next hx, List.map_append, List.map_append]
    rfl
  obtain ⟨e7, rfl⟩ := (hPc _ _ _).mp p
  clear hPc p
  rw [List.take_length]
  have g8 := newS n7 (o := HO.lst ((f.map Tx.tx).map V.str))
  have k8 : upd H7 l7 (HO.lst ((f.map Tx.tx).map V.str)) l7 = some (HO.lst ((f.map Tx.tx).map V.str)) := upd_same
  generalize upd H7 l7 (HO.lst ((f.map Tx.tx).map V.str)) = H8 at g8 k8 ⊢
  rw [e7] at g8 n7
  have dk := dk.same g8
  have kf := g8 _ _ kf
  have kr := g8 _ _ kr
  refine ⟨_, l7, f.map Tx.tx, rfl, rfl, SqL.of k8, Tx.join_ok (by omega) b60, _, rfl, le_line (by rw [l_poly]; exact Nat.le_trans (Nat.add_le_add_left lsh 7) (by decide)), dx, kd, p, [], _, _, _, _, row2 _ t_poly, dk, hpp, by decide, ?_, .poly nm_a f0 lf13.2 b60 fun lA H9 g9 n9 k9 => ⟨rfl, if_no rfl ?_⟩⟩
  · rw [← row2 _ t_poly, app_len, l_poly]
    exact Nat.le_trans (Nat.add_le_add_left lsh 7) (by decide)
  have dk9 := dk.same g9
  have kf := g9 _ _ kf
  have kr := g9 _ _ kr
  have st : Stand K _ _ "a" lA f := Stand.new (kvs := []) nm_a k9 dk9.kept lf13 (fun x hx => (bf x hx).mono (by decide))
  have dk := dk9.put (kvs' := putK [] (Sum.inr (Str.ofString "a")) (V.ref lA))
  have kf := (upd_ne (o := HO.dK (putK [] (Sum.inr (Str.ofString "a")) (V.ref lA))) (not_kd kf dk9.kept)).trans kf
  have kr := (upd_ne (o := HO.dK (putK [] (Sum.inr (Str.ofString "a")) (V.ref lA))) (not_kd kr dk9.kept)).trans kr
  have kl : (putK ([] : List (Key × V)) (Sum.inr (Str.ofString "a")) (V.ref lA)).length ≤ 1 := putK_len _ _ _
  generalize upd H9 kd (HO.dK (putK [] (Sum.inr (Str.ofString "a")) (V.ref lA))) = H13 at st dk kf kr ⊢
  generalize putK ([] : List (Key × V)) (Sum.inr (Str.ofString "a")) (V.ref lA) = kvs at st dk kl ⊢
  clear dk9 k9 n9 g9 k8 g8 e7 n7
  have fne : ∃ y, y ∈ f ∧ y ≠ 0 := by
    obtain ⟨C, F, C0, hF, e⟩ := fct.ex
    refine Decidable.byContradiction fun z => ?_
    have zz : ∀ y, y ∈ f → y = 0 := fun y hy => Decidable.byContradiction fun n => z ⟨y, hy, n⟩
    obtain ⟨h1, h2, _⟩ := Dr.whole_at (n := 24) hpp ev un nd (List.getElem_mem (show 0 < rs.length by omega)) (by omega) (sm_of 30 (by omega) (by decide)) (fun y hy => by have := brs y hy; have := brs _ (List.getElem_mem (show 0 < rs.length by omega)); exact sm_of 8000000 (by omega) (by decide))
    refine h2 ?_
    rw [Dr.pdv_zero zz]
  have ndp : ¬ Dr.Deep p 60 f := fun z => ((fct.deep hpp (.inl (by decide))).mp z) (Dr.Apart.whole hpp nd fun x hx => by have := brs x hx; exact Nat.lt_of_le_of_lt (show x.natAbs ≤ 4000000 by omega) (by decide))
  (try dsimp only); (first | refine hX _ _ ?_ | skip); (try dsimp only); (first | refine seqX (fun X hX => ?_) | skip); try walk_at "dr2"; (try simp only [sp___init__, sp_say, sp__law_cell, sp__law_prime, sp__law_times, sp__law_power, sp__law_roots, sp__law_written, sp__law_single]); try walk_at "dr2"
  refine ⟨by decide, ?_⟩
  intro l14 n_l14; generalize e_l14 : upd _ l14 _ = H14; obtain ⟨g14, k14⟩ := newH e_l14 n_l14; clear e_l14
  have k14 : H14 l14 = some (.lst ([0, deep, deep + 3].map V.int)) := k14
  refine ⟨⟨_, SqL.of k14⟩, ?_⟩
  have dk := dk.same g14
  have st := st.same g14
  have kf := g14 _ _ kf
  have kr := g14 _ _ kr
  obtain ⟨Pv, hPv⟩ : ∃ Pv : Nat → St → Hp → Prop, ∀ i σ H5, Pv i σ H5 ↔ (Same H14 H5 ∧ ∃ (t7 : Option V), σ = [some (.ref la), some (.int p), some (.ref lr), some (.ref lf), t4, some (.int deep), some (.ref d), t7, none]) := ⟨_, fun _ _ _ => Iff.rfl⟩
  (first | refine hX _ _ ?_ | skip); refine forI [0, deep, deep + 3] Pv ((hPv _ _ _).mpr ⟨Same.refl _, _, rfl⟩) (fun i σ H5 z => SqL.of (((hPv _ _ _).mp z).1 _ _ k14)) ?_ ?_
  · intro i e σ H5 hx z
    have he : 0 ≤ e ∧ e ≤ 60 := by
      have := List.mem_of_getElem? hx
      simp only [List.mem_cons, List.not_mem_nil, or_false] at this
      omega
    obtain ⟨g5, t7, rfl⟩ := (hPv _ _ _).mp z
    have dk := dk.same g5
    have st := st.same g5
    have kr := g5 _ _ kr
    have le := len60 (small_val he)
    have q0 : 0 < p ^ e.toNat := Dr.pow_pos hp.1 _
    (first | refine hX _ _ ?_ | skip); (try dsimp only); try walk_at "dr1"; (try simp only [sp___init__, sp_say, sp__law_cell, sp__law_prime, sp__law_times, sp__law_power, sp__law_roots, sp__law_written, sp__law_single]); try walk_at "dr1"
    refine ⟨_, _, dk.ins, look_no (by decide +kernel) (by decide +kernel), log60 (small_val he), le_line (by rw [l_roots]; omega), dx, kd, p, kvs, _, _, _, _, row2 _ t_roots, dk, hpp, by omega, ?_, .roots st he fne ndp fun L M H6 hF pm so g6 => ?_⟩
    · rw [← row2 _ t_roots, app_len, l_roots]
      omega
    have pL := pm.trans (Dr.Found.whole hpp fct hF)
    have bR := rests_lt (rs := rs) hp (show e.toNat ≤ 60 by omega)
    refine ⟨⟨fun z => ?_, fun x hx => bR x (pL.mem_iff.mp hx)⟩, fun H7 g7 => ?_⟩
    · have := pL.length_eq
      rw [z, List.length_map] at this
      simp at this
      omega
    have kr := g7 _ _ (g6 _ _ kr)
    refine ⟨⟨_, SqL.of kr⟩, ?_⟩
    obtain ⟨Pc, hPc⟩ : ∃ Pc : Nat → List V → Hp → Prop, ∀ j ys H8, Pc j ys H8 ↔ (H8 = H7 ∧ ys = ((rs.take j).map (· % p ^ e.toNat)).map V.int) := ⟨_, fun _ _ _ => Iff.rfl⟩
    (first | refine hX _ _ ?_ | skip); refine compI rs Pc (Nat.le_trans lrs.2 (by decide)) ((hPc _ _ _).mpr ⟨rfl, rfl⟩) (fun j ys H8 z => by rw [((hPc _ _ _).mp z).1]; exact SqL.of kr) (fun j x ys H8 hx z => ?_) (fun ys H8 z l8 n8 => ?_)
    · obtain ⟨rfl, rfl⟩ := (hPc _ _ _).mp z
      (first | refine hX _ _ ?_ | skip); (try dsimp only); try walk_at "dr1"; (try simp only [sp___init__, sp_say, sp__law_cell, sp__law_prime, sp__law_times, sp__law_power, sp__law_roots, sp__law_written, sp__law_single]); try walk_at "dr1"
      refine ⟨hp.1, hp.2, he.1, by omega, q0, (hPc _ _ _).mpr ⟨rfl, ?_⟩⟩
      rw [take_next hx, List.map_append, List.map_append]
      rfl
    · obtain ⟨rfl, rfl⟩ := (hPc _ _ _).mp z
      rw [List.take_length]
      refine ⟨l8, rfl, rs.map (· % p ^ e.toNat), SqL.of upd_same, by rw [List.length_map]; omega, bR, fun L2 H9 pL2 so2 g9 => ⟨rfl, if_no ?_ ?_⟩⟩
      · rw [sorted_eq so so2 (pL.trans pL2.symm)]
      · exact (hPv _ _ _).mpr ⟨g5.trans (g6.trans (g7.trans ((newS n8).trans g9))), _, rfl⟩
  intro σ H5 z
  refine byX fun X hX => ?_; obtain ⟨g5, t7, rfl⟩ := (hPv _ _ _).mp z; refine hX ?_; clear hX X
  clear hPv z k14
  have dk := dk.same g5
  have st := st.same g5
  have kf := g5 _ _ kf
  have kr := g5 _ _ kr
  (try dsimp only); (first | refine hX _ _ ?_ | skip); (try dsimp only); (first | refine seqX (fun X hX => ?_) | skip); try walk_at "dr2"; (try simp only [sp___init__, sp_say, sp__law_cell, sp__law_prime, sp__law_times, sp__law_power, sp__law_roots, sp__law_written, sp__law_single]); try walk_at "dr2"
  refine ⟨⟨_, SqL.of kr⟩, ?_⟩
  obtain ⟨Pv, hPv⟩ : ∃ Pv : Nat → St → Hp → Prop, ∀ i σ H6, Pv i σ H6 ↔ (Same H5 H6 ∧ ∃ (t4 : Option V), σ = [some (.ref la), some (.int p), some (.ref lr), some (.ref lf), t4, some (.int deep), some (.ref d), t7, none]) := ⟨_, fun _ _ _ => Iff.rfl⟩
  (first | refine hX _ _ ?_ | skip); refine forI rs Pv ((hPv _ _ _).mpr ⟨Same.refl _, _, rfl⟩) (fun i σ H6 z => SqL.of (((hPv _ _ _).mp z).1 _ _ kr)) ?_ ?_
  · intro i r σ H6 hx z
    obtain ⟨g6, t4', rfl⟩ := (hPv _ _ _).mp z
    have hr := List.mem_of_getElem? hx
    have br := brs r hr
    obtain ⟨w0, w1, w2⟩ := Dr.whole_at (n := 23) hpp ev un nd hr (by omega) (sm_of 30 (by omega) (by decide)) (fun y hy => by have := brs y hy; exact sm_of 8000000 (by omega) (by decide))
    have bl : (rs.length - 1) * 23 + 6 ≤ 90 := by omega
    (first | refine hX _ _ ?_ | skip); (try dsimp only); try walk_at "dr1"; (try simp only [sp___init__, sp_say, sp__law_cell, sp__law_prime, sp__law_times, sp__law_power, sp__law_roots, sp__law_written, sp__law_single]); try walk_at "dr1"
    exact ⟨dx, kd, lA, f, kvs, dk.same g6, hpp, by omega, SqL.of (g6 _ _ kf), st.same g6, hd1, by omega, w0, w1, fun d u F => (w2 d u F).mono bl, sm_of 4000000 (by omega) (by decide), fun H7 g7 => (hPv _ _ _).mpr ⟨g6.trans g7, _, rfl⟩⟩
  intro σ H6 z
  refine byX fun X hX => ?_; obtain ⟨g6, t4', rfl⟩ := (hPv _ _ _).mp z; refine hX ?_; clear hX X
  clear hPv z
  have dk := dk.same g6
  have st := st.same g6
  have kf := g6 _ _ kf
  have kr := g6 _ _ kr
  obtain ⟨r0, rs', ers⟩ : ∃ r0 rs', rs = r0 :: rs' := by
    cases rs with
    | nil => simp at lrs
    | cons r0 rs' => exact ⟨_, _, rfl⟩
  (try dsimp only); (first | refine hX _ _ ?_ | skip); (try dsimp only); (first | refine seqX (fun X hX => ?_) | skip); try walk_at "dr2"; (try simp only [sp___init__, sp_say, sp__law_cell, sp__law_prime, sp__law_times, sp__law_power, sp__law_roots, sp__law_written, sp__law_single]); try walk_at "dr2"
  have hr0 : r0 ∈ rs := by rw [ers]; exact .head _
  have br0 := brs r0 hr0
  have r60 : r0.natAbs < 10 ^ 60 := Nat.lt_of_le_of_lt (show r0.natAbs ≤ 4000000 by omega) (by decide +kernel)
  have lr0 := len60 r60
  obtain ⟨w0, w1, w2⟩ := Dr.whole_at (n := 23) hpp ev un nd hr0 (by omega) (sm_of 30 (by omega) (by decide)) (fun y hy => by have := brs y hy; exact sm_of 8000000 (by omega) (by decide))
  obtain ⟨e0, u0, F0⟩ := Dr.fac (p := p) hp.1 w1
  have si : Dr.Single p f r0 e0 u0 := ⟨F0, by rw [w0]; exact Int.zero_emod _⟩
  have at0 : ∀ {xs : List V}, xs = rs.map V.int → atI xs 0 = some (.int r0) := fun {xs} e => by rw [e, ers]; exact atI_nat (j := 0) rfl
  refine ⟨_, _, dk.ins, look_no (by decide +kernel) (by decide +kernel), _, SqL.of kr, _, at0 rfl, _, rfl, log60 r60, le_line (by rw [l_root]; omega), le_line (by rw [app_len, l_root, l_60]; omega), dx, kd, p, kvs, _, _, _, _, row3 _ t_root t_60, dk, hpp, by omega, ?_, .root st r60 (by decide) si fun x H7 g7 hx => ?_⟩
  · rw [← row3 _ t_root t_60, app_len, app_len, l_root, l_60]
    omega
  obtain rfl : x = r0 % p ^ Int.toNat 60 := by
    rcases hx with ⟨_, e⟩ | ⟨_, R⟩
    · exact e
    · exact Dr.root_whole hpp si w0 (by rw [Int.sub_self]; exact Int.zero_emod _) R
  clear hx
  have q60 : 0 < p ^ Int.toNat 60 := Dr.pow_pos hp.1 _
  have dk := dk.same g7
  have st := st.same g7
  have kr := g7 _ _ kr
  refine ⟨_, SqL.of kr, _, at0 rfl, hp.1, hp.2, _, rfl, q60, log_rest hp (by decide) (mod_in r0 q60), rfl, if_no rfl ?_⟩
  have small : ∀ s, Dr.IsSeen f r0 (p ^ Int.toNat 1) s → ∀ y, y ∈ s → y.natAbs < 10 ^ 60 := fun s hs y hy => by
    have e1 : p ^ Int.toNat 1 = p := Int.pow_one p
    rw [e1] at hs
    have hC : Dr.l1 (Dr.sn r0 p g) ≤ 2 ^ 54 := by
      have h1 := Dr.sn_l1 (r := r0) (q := p) bg
      have h2 : (r0.natAbs + p.natAbs + 1) ^ g.length ≤ (2 ^ 22) ^ 2 := Nat.le_trans (Nat.pow_le_pow_left (show r0.natAbs + p.natAbs + 1 ≤ 2 ^ 22 by omega) _) (Nat.pow_le_pow_right (by decide) lng.2)
      have h3 := Nat.mul_le_mul_left (2 ^ 10) h2
      have h4 : 2 ^ 10 * (2 ^ 22) ^ 2 = 2 ^ 54 := by decide
      omega
    have h1 := Dr.seen_small (B := 2 ^ 23) hs ev lnf (by omega) (fun y hy => by have := brs y hy; omega) hC y hy
    have h2 : (2 ^ 23) ^ rs.length ≤ (2 ^ 23) ^ 4 := Nat.pow_le_pow_right (by decide) lrs.2
    have h3 := Nat.mul_le_mul (show c0.natAbs ≤ 30 by omega) (Nat.mul_le_mul_right (2 ^ 54) h2)
    have h4 : 30 * ((2 ^ 23) ^ 4 * 2 ^ 54) < 10 ^ 60 := by decide +kernel
    exact Nat.lt_of_le_of_lt (Nat.le_trans h1 h3) h4
  (try dsimp only); (first | refine hX _ _ ?_ | skip); (try dsimp only); (first | refine seqX (fun X hX => ?_) | skip); try walk_at "dr2"; (try simp only [sp___init__, sp_say, sp__law_cell, sp__law_prime, sp__law_times, sp__law_power, sp__law_roots, sp__law_written, sp__law_single]); try walk_at "dr2"
  refine ⟨_, _, dk.ins, look_no (by decide +kernel) (by decide +kernel), _, SqL.of kr, _, at0 rfl, _, rfl, log60 r60, le_line (by rw [l_seen]; omega), le_line (by rw [app_len, l_seen, l_1]; omega), dx, kd, p, kvs, _, _, _, _, row4 _ t_seen t_1, dk, hpp, by omega, ?_, .seen nm_b st r60 (by decide) small fun lB s H8 hs g8 n8 k8 => ⟨rfl, if_no rfl ?_⟩⟩
  · rw [← row4 _ t_seen t_1, app_len, app_len, l_seen, l_1]
    omega
  have dk9 := dk.same g8
  have kr9 := g8 _ _ kr
  have ls := hs.len
  have sb : Stand K _ _ "b" lB s := Stand.new (kvs := kvs) nm_b k8 dk9.kept (by omega) (fun x hx => (sm60 (small s hs x hx)).mono (by decide))
  have dk := dk9.put (kvs' := putK kvs (Sum.inr (Str.ofString "b")) (V.ref lB))
  have kr := (upd_ne (o := HO.dK (putK kvs (Sum.inr (Str.ofString "b")) (V.ref lB))) (not_kd kr9 dk9.kept)).trans kr9
  have kl2 : (putK kvs (Sum.inr (Str.ofString "b")) (V.ref lB)).length ≤ 2 := Nat.le_trans (putK_len _ _ _) (by omega)
  generalize upd H8 kd (HO.dK (putK kvs (Sum.inr (Str.ofString "b")) (V.ref lB))) = H9 at sb dk kr ⊢
  generalize putK kvs (Sum.inr (Str.ofString "b")) (V.ref lB) = kvs2 at sb dk kl2 ⊢
  rw [show p ^ Int.toNat 1 = p from Int.pow_one p] at hs
  have fs := fct.seenK hpp hs
  rw [Dr.hits_whole] at fs
  have near : ∀ x, x ∈ rs.filter (fun x => decide ((x - r0) % p = 0)) → x ∈ rs ∧ x - r0 = p * ((x - r0) / p) := fun x hx => by
    obtain ⟨h1, h2⟩ := List.mem_filter.mp hx
    have := Int.mul_ediv_add_emod (x - r0) p
    rw [of_decide_eq_true h2, Int.add_zero] at this
    exact ⟨h1, this.symm⟩
  have nds : ((rs.filter fun x => decide ((x - r0) % p = 0)).map fun x => (x - r0) / p).Nodup := by
    unfold List.Nodup
    rw [List.pairwise_map]
    refine (List.Pairwise.filter _ nd).imp_of_mem fun {x y} hx hy ne e => ne ?_
    have h1 := (near x hx).2
    have h2 := (near y hy).2
    rw [e] at h1
    omega
  have ndps : ¬ Dr.Deep p 60 s := fun z => ((fs.deep hpp (.inl (by decide))).mp z) (Dr.Apart.whole hpp nds fun x hx => by
    obtain ⟨y, hy, rfl⟩ := List.mem_map.mp hx
    have := brs y (near y hy).1
    have h2 : ((y - r0) / p).natAbs ≤ (y - r0).natAbs := by
      have := (near y hy).2
      have h3 : (y - r0).natAbs = p.natAbs * ((y - r0) / p).natAbs := by rw [← Int.natAbs_mul, ← this]
      have h4 := Nat.mul_le_mul_right ((y - r0) / p).natAbs (show 1 ≤ p.natAbs by omega)
      omega
    exact Nat.lt_of_le_of_lt (show ((y - r0) / p).natAbs ≤ 8000000 by omega) (by decide))
  have sne : ∃ y, y ∈ s ∧ y ≠ 0 := by
    refine Decidable.byContradiction fun z => ?_
    have zz : ∀ y, y ∈ s → y = 0 := fun y hy => Decidable.byContradiction fun n => z ⟨y, hy, n⟩
    have h1 := Dr.pdv_seen hs.ev 0
    rw [Dr.pdv_zero zz, Int.mul_zero, Int.add_zero] at h1
    exact Int.mul_ne_zero (by omega) w1 h1.symm
  have qd : 0 < p ^ deep.toNat := Dr.pow_pos hp.1 _
  (try dsimp only); (first | refine hX _ _ ?_ | skip); (try dsimp only); (first | refine seqX (fun X hX => ?_) | skip); try walk_at "dr2"; (try simp only [sp___init__, sp_say, sp__law_cell, sp__law_prime, sp__law_times, sp__law_power, sp__law_roots, sp__law_written, sp__law_single]); try walk_at "dr2"
  refine ⟨⟨_, SqL.of kr⟩, ?_⟩
  obtain ⟨Pc, hPc⟩ : ∃ Pc : Nat → List V → Hp → Prop, ∀ j ys H10, Pc j ys H10 ↔ (H10 = H9 ∧ ys = (((rs.take j).filter fun x => decide ((x - r0) % p = 0)).map fun x => (x - r0) / p % p ^ deep.toNat).map V.int) := ⟨_, fun _ _ _ => Iff.rfl⟩
  (first | refine hX _ _ ?_ | skip); refine compI rs Pc (Nat.le_trans lrs.2 (by decide)) ((hPc _ _ _).mpr ⟨rfl, rfl⟩) (fun j ys H10 z => by rw [((hPc _ _ _).mp z).1]; exact SqL.of kr) (fun j x ys H10 hx z => ?_) (fun ys H10 z l10 n10 => ?_)
  · obtain ⟨rfl, rfl⟩ := (hPc _ _ _).mp z
    (first | refine hX _ _ ?_ | skip); (try dsimp only); try walk_at "dr1"; (try simp only [sp___init__, sp_say, sp__law_cell, sp__law_prime, sp__law_times, sp__law_power, sp__law_roots, sp__law_written, sp__law_single]); try walk_at "dr1"
    refine ⟨_, SqL.of kr, _, at0 rfl, _, rfl, by omega, ite2 (fun c => ⟨_, SqL.of kr, _, at0 rfl, _, rfl, cdv_small (by omega), hp.1, hp.2, hd1, by omega, qd, (hPc _ _ _).mpr ⟨rfl, ?_⟩⟩) (fun c => (hPc _ _ _).mpr ⟨rfl, ?_⟩)⟩
    · rw [take_next hx, List.filter_append, List.map_append, List.map_append]
      simp [c]
    · rw [take_next hx, List.filter_append, List.map_append, List.map_append]
      simp [c]
  obtain ⟨e10, rfl⟩ := (hPc _ _ _).mp z
  rw [List.take_length]
  have g10 : Same H9 (upd H10 l10 (HO.lst (((rs.filter fun x => decide ((x - r0) % p = 0)).map fun x => (x - r0) / p % p ^ deep.toNat).map V.int))) := by
    rw [e10] at n10 ⊢
    exact newS n10
  have k10 : upd H10 l10 (HO.lst (((rs.filter fun x => decide ((x - r0) % p = 0)).map fun x => (x - r0) / p % p ^ deep.toNat).map V.int)) l10 = _ := upd_same
  generalize upd H10 l10 (HO.lst (((rs.filter fun x => decide ((x - r0) % p = 0)).map fun x => (x - r0) / p % p ^ deep.toNat).map V.int)) = H11 at g10 k10 ⊢
  have dk := dk.same g10
  have sb := sb.same g10
  have hdeep : 0 ≤ deep ∧ deep ≤ 60 := by omega
  have ldp := len60 (small_val hdeep)
  clear hPc z
  (first | refine hX _ _ ?_ | skip); (try dsimp only); try walk_at "dr1"; (try simp only [sp___init__, sp_say, sp__law_cell, sp__law_prime, sp__law_times, sp__law_power, sp__law_roots, sp__law_written, sp__law_single]); try walk_at "dr1"
  have eD : ((rs.filter fun x => decide ((x - r0) % p = 0)).map fun x => (x - r0) / p % p ^ deep.toNat) = ((rs.filter fun x => decide ((x - r0) % p = 0)).map fun x => (x - r0) / p).map (· % p ^ deep.toNat) := by
    rw [List.map_map]
    rfl
  have hm0 : (r0 - r0) / p ∈ (rs.filter fun x => decide ((x - r0) % p = 0)).map fun x => (x - r0) / p := List.mem_map.mpr ⟨r0, List.mem_filter.mpr ⟨hr0, decide_eq_true (by rw [Int.sub_self]; exact Int.zero_emod _)⟩, rfl⟩
  have lD : ((rs.filter fun x => decide ((x - r0) % p = 0)).map fun x => (x - r0) / p).length ≤ 14 := by
    rw [List.length_map]
    exact Nat.le_trans (List.length_filter_le ..) (by omega)
  rw [eD] at k10
  generalize ((rs.filter fun x => decide ((x - r0) % p = 0)).map fun x => (x - r0) / p) = ds at k10 fs hm0 lD
  have bD := rests_lt (rs := ds) hp (show deep.toNat ≤ 60 by omega)
  refine ⟨_, _, dk.ins, look_no (by decide +kernel) (by decide +kernel), log60 (small_val hdeep), le_line (by rw [l_rootsb]; omega), dx, kd, p, kvs2, _, _, _, _, row2 _ t_rootsb, dk, hpp, by omega, ?_, .roots sb hdeep sne ndps fun L M H12 hF pm so g12 => ?_⟩
  · rw [← row2 _ t_rootsb, app_len, l_rootsb]
    omega
  have pL := pm.trans (Dr.Found.whole hpp fs hF)
  refine ⟨⟨fun z => ?_, fun x hx => bD x (pL.mem_iff.mp hx)⟩, fun H13 g13 => ?_⟩
  · have h1 := pL.length_eq
    rw [z, List.length_map] at h1
    cases ds with
    | nil => cases hm0
    | cons x ds => simp at h1
  refine ⟨ds.map (· % p ^ deep.toNat), SqL.of (g13 _ _ (g12 _ _ k10)), by rw [List.length_map]; exact lD, bD, fun L2 H14 pL2 so2 g14 => ⟨rfl, ?_⟩⟩
  rw [sorted_eq so2 so (pL2.trans pL.symm), decide_eq_true rfl]
  exact q _
theorem all_mk {h : Heap} {fa f1 f2 f3 f4 f5 f6 f7 f8 f9 f10 f11 f12 f13 f14 f15 f16 f17 f18 f19 f20 f21 f22 f23 f24 f25 f26 f27 f28 f29 f30 f31 f32 f33 f34 f35 f36 f37 f38 f39 f40 f41 f42 f43 f44 f45 f46 f47 : Addr} (X : K.In h) (G : h.Ns mainGlobals mg) (hfa : mg "law" = some (.ref fa))
    {od1 an1 od2 an2 od3 an3 od4 an4 od5 an5 od6 an6 od7 an7 od8 an8 od9 an9 od10 an10 od11 an11 od12 an12 od13 an13 od14 an14 od15 an15 od16 an16 od17 an17 od18 an18 od19 an19 od20 an20 od21 an21 od22 an22 od23 an23 od24 an24 od25 an25 od26 an26 od27 an27 od28 an28 od29 an29 od30 an30 od31 an31 od32 an32 od33 an33 od34 an34 od35 an35 od36 an36 od37 an37 od38 an38 od39 an39 od40 an40 od41 an41 od42 an42 od43 an43 od44 an44 od45 an45 od46 an46 od47 an47 : Option Addr} {sl1 sl2 sl3 sl4 sl5 sl6 sl7 sl8 sl9 sl10 sl11 sl12 sl13 sl14 sl15 sl16 sl17 sl18 sl19 sl20 sl21 sl22 sl23 sl24 sl25 sl26 sl27 sl28 sl29 sl30 sl31 sl32 sl33 sl34 sl35 sl36 sl37 sl38 sl39 sl40 sl41 sl42 sl43 sl44 sl45 sl46 sl47 : Array (Option Value)} {oc1 kV1 dc1 pm1 cd1 ct1 oc2 kV2 dc2 pm2 cd2 ct2 oc3 kV3 dc3 pm3 cd3 ct3 oc4 kV4 dc4 pm4 cd4 ct4 oc5 kV5 dc5 pm5 cd5 ct5 oc6 kV6 dc6 pm6 cd6 ct6 oc7 kV7 dc7 pm7 cd7 ct7 oc8 kV8 dc8 pm8 cd8 ct8 oc9 kV9 dc9 pm9 cd9 ct9 oc10 kV10 dc10 pm10 cd10 ct10 oc11 kV11 dc11 pm11 cd11 ct11 oc12 kV12 dc12 pm12 cd12 ct12 oc13 kV13 dc13 pm13 cd13 ct13 oc14 kV14 dc14 pm14 cd14 ct14 oc15 kV15 dc15 pm15 cd15 ct15 oc16 kV16 dc16 pm16 cd16 ct16 oc17 kV17 dc17 pm17 cd17 ct17 oc18 kV18 dc18 pm18 cd18 ct18 oc19 kV19 dc19 pm19 cd19 ct19 oc20 kV20 dc20 pm20 cd20 ct20 oc21 kV21 dc21 pm21 cd21 ct21 oc22 kV22 dc22 pm22 cd22 ct22 oc23 kV23 dc23 pm23 cd23 ct23 oc24 kV24 dc24 pm24 cd24 ct24 oc25 kV25 dc25 pm25 cd25 ct25 oc26 kV26 dc26 pm26 cd26 ct26 oc27 kV27 dc27 pm27 cd27 ct27 oc28 kV28 dc28 pm28 cd28 ct28 oc29 kV29 dc29 pm29 cd29 ct29 oc30 kV30 dc30 pm30 cd30 ct30 oc31 kV31 dc31 pm31 cd31 ct31 oc32 kV32 dc32 pm32 cd32 ct32 oc33 kV33 dc33 pm33 cd33 ct33 oc34 kV34 dc34 pm34 cd34 ct34 oc35 kV35 dc35 pm35 cd35 ct35 oc36 kV36 dc36 pm36 cd36 ct36 oc37 kV37 dc37 pm37 cd37 ct37 oc38 kV38 dc38 pm38 cd38 ct38 oc39 kV39 dc39 pm39 cd39 ct39 oc40 kV40 dc40 pm40 cd40 ct40 oc41 kV41 dc41 pm41 cd41 ct41 oc42 kV42 dc42 pm42 cd42 ct42 oc43 kV43 dc43 pm43 cd43 ct43 oc44 kV44 dc44 pm44 cd44 ct44 oc45 kV45 dc45 pm45 cd45 ct45 oc46 kV46 dc46 pm46 cd46 ct46 oc47 kV47 dc47 pm47 cd47 ct47 : Value}
    (a1 : PySem.W.nsIn K mainGlobals "is_prime" = some (some (.ref f1))) (l1 : K.lookup f1 = some ⟨oc1, od1, .func (PySem.W.fnOf "is_prime" "is_prime" (defArgs s_is_prime) (defBody s_is_prime) (defScope s_is_prime) .none kV1 dc1 pm1 an1 cd1 ct1), sl1⟩) (c1 : PySem.W.codeIn K cd1 "is_prime" = true) (k1 : PySem.W.keepIn K (.ref f1) = true)
    (a2 : PySem.W.nsIn K mainGlobals "depth_of" = some (some (.ref f2))) (l2 : K.lookup f2 = some ⟨oc2, od2, .func (PySem.W.fnOf "depth_of" "depth_of" (defArgs s_depth_of) (defBody s_depth_of) (defScope s_depth_of) .none kV2 dc2 pm2 an2 cd2 ct2), sl2⟩) (c2 : PySem.W.codeIn K cd2 "depth_of" = true) (k2 : PySem.W.keepIn K (.ref f2) = true)
    (a3 : PySem.W.nsIn K mainGlobals "power_of" = some (some (.ref f3))) (l3 : K.lookup f3 = some ⟨oc3, od3, .func (PySem.W.fnOf "power_of" "power_of" (defArgs s_power_of) (defBody s_power_of) (defScope s_power_of) .none kV3 dc3 pm3 an3 cd3 ct3), sl3⟩) (c3 : PySem.W.codeIn K cd3 "power_of" = true) (k3 : PySem.W.keepIn K (.ref f3) = true)
    (a4 : PySem.W.nsIn K mainGlobals "inverse_by_prime" = some (some (.ref f4))) (l4 : K.lookup f4 = some ⟨oc4, od4, .func (PySem.W.fnOf "inverse_by_prime" "inverse_by_prime" (defArgs s_inverse_by_prime) (defBody s_inverse_by_prime) (defScope s_inverse_by_prime) .none kV4 dc4 pm4 an4 cd4 ct4), sl4⟩) (c4 : PySem.W.codeIn K cd4 "inverse_by_prime" = true) (k4 : PySem.W.keepIn K (.ref f4) = true)
    (a5 : PySem.W.nsIn K mainGlobals "inverse_of" = some (some (.ref f5))) (l5 : K.lookup f5 = some ⟨oc5, od5, .func (PySem.W.fnOf "inverse_of" "inverse_of" (defArgs s_inverse_of) (defBody s_inverse_of) (defScope s_inverse_of) .none kV5 dc5 pm5 an5 cd5 ct5), sl5⟩) (c5 : PySem.W.codeIn K cd5 "inverse_of" = true) (k5 : PySem.W.keepIn K (.ref f5) = true)
    (a6 : PySem.W.nsIn K mainGlobals "worth_at" = some (some (.ref f6))) (l6 : K.lookup f6 = some ⟨oc6, od6, .func (PySem.W.fnOf "worth_at" "worth_at" (defArgs s_worth_at) (defBody s_worth_at) (defScope s_worth_at) .none kV6 dc6 pm6 an6 cd6 ct6), sl6⟩) (c6 : PySem.W.codeIn K cd6 "worth_at" = true) (k6 : PySem.W.keepIn K (.ref f6) = true)
    (a7 : PySem.W.nsIn K mainGlobals "degree_of" = some (some (.ref f7))) (l7 : K.lookup f7 = some ⟨oc7, od7, .func (PySem.W.fnOf "degree_of" "degree_of" (defArgs s_degree_of) (defBody s_degree_of) (defScope s_degree_of) .none kV7 dc7 pm7 an7 cd7 ct7), sl7⟩) (c7 : PySem.W.codeIn K cd7 "degree_of" = true) (k7 : PySem.W.keepIn K (.ref f7) = true)
    (a8 : PySem.W.nsIn K mainGlobals "poly_product" = some (some (.ref f8))) (l8 : K.lookup f8 = some ⟨oc8, od8, .func (PySem.W.fnOf "poly_product" "poly_product" (defArgs s_poly_product) (defBody s_poly_product) (defScope s_poly_product) .none kV8 dc8 pm8 an8 cd8 ct8), sl8⟩) (c8 : PySem.W.codeIn K cd8 "poly_product" = true) (k8 : PySem.W.keepIn K (.ref f8) = true)
    (a9 : PySem.W.nsIn K mainGlobals "slope_of" = some (some (.ref f9))) (l9 : K.lookup f9 = some ⟨oc9, od9, .func (PySem.W.fnOf "slope_of" "slope_of" (defArgs s_slope_of) (defBody s_slope_of) (defScope s_slope_of) .none kV9 dc9 pm9 an9 cd9 ct9), sl9⟩) (c9 : PySem.W.codeIn K cd9 "slope_of" = true) (k9 : PySem.W.keepIn K (.ref f9) = true)
    (a10 : PySem.W.nsIn K mainGlobals "seen_from" = some (some (.ref f10))) (l10 : K.lookup f10 = some ⟨oc10, od10, .func (PySem.W.fnOf "seen_from" "seen_from" (defArgs s_seen_from) (defBody s_seen_from) (defScope s_seen_from) .none kV10 dc10 pm10 an10 cd10 ct10), sl10⟩) (c10 : PySem.W.codeIn K cd10 "seen_from" = true) (k10 : PySem.W.keepIn K (.ref f10) = true)
    (a11 : PySem.W.nsIn K mainGlobals "content_of" = some (some (.ref f11))) (l11 : K.lookup f11 = some ⟨oc11, od11, .func (PySem.W.fnOf "content_of" "content_of" (defArgs s_content_of) (defBody s_content_of) (defScope s_content_of) .none kV11 dc11 pm11 an11 cd11 ct11), sl11⟩) (c11 : PySem.W.codeIn K cd11 "content_of" = true) (k11 : PySem.W.keepIn K (.ref f11) = true)
    (a12 : PySem.W.nsIn K mainGlobals "without_content" = some (some (.ref f12))) (l12 : K.lookup f12 = some ⟨oc12, od12, .func (PySem.W.fnOf "without_content" "without_content" (defArgs s_without_content) (defBody s_without_content) (defScope s_without_content) .none kV12 dc12 pm12 an12 cd12 ct12), sl12⟩) (c12 : PySem.W.codeIn K cd12 "without_content" = true) (k12 : PySem.W.keepIn K (.ref f12) = true)
    (a13 : PySem.W.nsIn K mainGlobals "rests_by_prime" = some (some (.ref f13))) (l13 : K.lookup f13 = some ⟨oc13, od13, .func (PySem.W.fnOf "rests_by_prime" "rests_by_prime" (defArgs s_rests_by_prime) (defBody s_rests_by_prime) (defScope s_rests_by_prime) .none kV13 dc13 pm13 an13 cd13 ct13), sl13⟩) (c13 : PySem.W.codeIn K cd13 "rests_by_prime" = true) (k13 : PySem.W.keepIn K (.ref f13) = true)
    (a14 : PySem.W.nsIn K mainGlobals "single_depth" = some (some (.ref f14))) (l14 : K.lookup f14 = some ⟨oc14, od14, .func (PySem.W.fnOf "single_depth" "single_depth" (defArgs s_single_depth) (defBody s_single_depth) (defScope s_single_depth) .none kV14 dc14 pm14 an14 cd14 ct14), sl14⟩) (c14 : PySem.W.codeIn K cd14 "single_depth" = true) (k14 : PySem.W.keepIn K (.ref f14) = true)
    (a15 : PySem.W.nsIn K mainGlobals "root_of" = some (some (.ref f15))) (l15 : K.lookup f15 = some ⟨oc15, od15, .func (PySem.W.fnOf "root_of" "root_of" (defArgs s_root_of) (defBody s_root_of) (defScope s_root_of) .none kV15 dc15 pm15 an15 cd15 ct15), sl15⟩) (c15 : PySem.W.codeIn K cd15 "root_of" = true) (k15 : PySem.W.keepIn K (.ref f15) = true)
    (a16 : PySem.W.nsIn K mainGlobals "deepened" = some (some (.ref f16))) (l16 : K.lookup f16 = some ⟨oc16, od16, .func (PySem.W.fnOf "deepened" "deepened" (defArgs s_deepened) (defBody s_deepened) (defScope s_deepened) .none kV16 dc16 pm16 an16 cd16 ct16), sl16⟩) (c16 : PySem.W.codeIn K cd16 "deepened" = true) (k16 : PySem.W.keepIn K (.ref f16) = true)
    (a17 : PySem.W.nsIn K mainGlobals "roots_within" = some (some (.ref f17))) (l17 : K.lookup f17 = some ⟨oc17, od17, .func (PySem.W.fnOf "roots_within" "roots_within" (defArgs s_roots_within) (defBody s_roots_within) (defScope s_roots_within) .none kV17 dc17 pm17 an17 cd17 ct17), sl17⟩) (c17 : PySem.W.codeIn K cd17 "roots_within" = true) (k17 : PySem.W.keepIn K (.ref f17) = true)
    (a18 : PySem.W.nsIn K mainGlobals "endless_roots" = some (some (.ref f18))) (l18 : K.lookup f18 = some ⟨oc18, od18, .func (PySem.W.fnOf "endless_roots" "endless_roots" (defArgs s_endless_roots) (defBody s_endless_roots) (defScope s_endless_roots) .none kV18 dc18 pm18 an18 cd18 ct18), sl18⟩) (c18 : PySem.W.codeIn K cd18 "endless_roots" = true) (k18 : PySem.W.keepIn K (.ref f18) = true)
    (a19 : PySem.W.nsIn K mainGlobals "is_made_of" = some (some (.ref f19))) (l19 : K.lookup f19 = some ⟨oc19, od19, .func (PySem.W.fnOf "is_made_of" "is_made_of" (defArgs s_is_made_of) (defBody s_is_made_of) (defScope s_is_made_of) .none kV19 dc19 pm19 an19 cd19 ct19), sl19⟩) (c19 : PySem.W.codeIn K cd19 "is_made_of" = true) (k19 : PySem.W.keepIn K (.ref f19) = true)
    (a20 : PySem.W.nsIn K mainGlobals "is_written_number" = some (some (.ref f20))) (l20 : K.lookup f20 = some ⟨oc20, od20, .func (PySem.W.fnOf "is_written_number" "is_written_number" (defArgs s_is_written_number) (defBody s_is_written_number) (defScope s_is_written_number) .none kV20 dc20 pm20 an20 cd20 ct20), sl20⟩) (c20 : PySem.W.codeIn K cd20 "is_written_number" = true) (k20 : PySem.W.keepIn K (.ref f20) = true)
    (a21 : PySem.W.nsIn K mainGlobals "can_be_written" = some (some (.ref f21))) (l21 : K.lookup f21 = some ⟨oc21, od21, .func (PySem.W.fnOf "can_be_written" "can_be_written" (defArgs s_can_be_written) (defBody s_can_be_written) (defScope s_can_be_written) .none kV21 dc21 pm21 an21 cd21 ct21), sl21⟩) (c21 : PySem.W.codeIn K cd21 "can_be_written" = true) (k21 : PySem.W.keepIn K (.ref f21) = true)
    (a22 : PySem.W.nsIn K mainGlobals "read_number" = some (some (.ref f22))) (l22 : K.lookup f22 = some ⟨oc22, od22, .func (PySem.W.fnOf "read_number" "read_number" (defArgs s_read_number) (defBody s_read_number) (defScope s_read_number) .none kV22 dc22 pm22 an22 cd22 ct22), sl22⟩) (c22 : PySem.W.codeIn K cd22 "read_number" = true) (k22 : PySem.W.keepIn K (.ref f22) = true)
    (a23 : PySem.W.nsIn K mainGlobals "read_poly" = some (some (.ref f23))) (l23 : K.lookup f23 = some ⟨oc23, od23, .func (PySem.W.fnOf "read_poly" "read_poly" (defArgs s_read_poly) (defBody s_read_poly) (defScope s_read_poly) .none kV23 dc23 pm23 an23 cd23 ct23), sl23⟩) (c23 : PySem.W.codeIn K cd23 "read_poly" = true) (k23 : PySem.W.keepIn K (.ref f23) = true)
    (a24 : PySem.W.nsIn K mainGlobals "words_of" = some (some (.ref f24))) (l24 : K.lookup f24 = some ⟨oc24, od24, .func (PySem.W.fnOf "words_of" "words_of" (defArgs s_words_of) (defBody s_words_of) (defScope s_words_of) .none kV24 dc24 pm24 an24 cd24 ct24), sl24⟩) (c24 : PySem.W.codeIn K cd24 "words_of" = true) (k24 : PySem.W.keepIn K (.ref f24) = true)
    (a25 : PySem.W.nsIn K mainGlobals "read_name" = some (some (.ref f25))) (l25 : K.lookup f25 = some ⟨oc25, od25, .func (PySem.W.fnOf "read_name" "read_name" (defArgs s_read_name) (defBody s_read_name) (defScope s_read_name) .none kV25 dc25 pm25 an25 cd25 ct25), sl25⟩) (c25 : PySem.W.codeIn K cd25 "read_name" = true) (k25 : PySem.W.keepIn K (.ref f25) = true)
    (a26 : PySem.W.nsIn K mainGlobals "read_depth" = some (some (.ref f26))) (l26 : K.lookup f26 = some ⟨oc26, od26, .func (PySem.W.fnOf "read_depth" "read_depth" (defArgs s_read_depth) (defBody s_read_depth) (defScope s_read_depth) .none kV26 dc26 pm26 an26 cd26 ct26), sl26⟩) (c26 : PySem.W.codeIn K cd26 "read_depth" = true) (k26 : PySem.W.keepIn K (.ref f26) = true)
    (a27 : PySem.W.nsIn K mainGlobals "listed" = some (some (.ref f27))) (l27 : K.lookup f27 = some ⟨oc27, od27, .func (PySem.W.fnOf "listed" "listed" (defArgs s_listed) (defBody s_listed) (defScope s_listed) .none kV27 dc27 pm27 an27 cd27 ct27), sl27⟩) (c27 : PySem.W.codeIn K cd27 "listed" = true) (k27 : PySem.W.keepIn K (.ref f27) = true)
    (a28 : PySem.W.nsIn K mainGlobals "made_poly" = some (some (.ref f28))) (l28 : K.lookup f28 = some ⟨oc28, od28, .func (PySem.W.fnOf "made_poly" "made_poly" (defArgs s_made_poly) (defBody s_made_poly) (defScope s_made_poly) .none kV28 dc28 pm28 an28 cd28 ct28), sl28⟩) (c28 : PySem.W.codeIn K cd28 "made_poly" = true) (k28 : PySem.W.keepIn K (.ref f28) = true)
    (a29 : PySem.W.nsIn K mainGlobals "made_seen" = some (some (.ref f29))) (l29 : K.lookup f29 = some ⟨oc29, od29, .func (PySem.W.fnOf "made_seen" "made_seen" (defArgs s_made_seen) (defBody s_made_seen) (defScope s_made_seen) .none kV29 dc29 pm29 an29 cd29 ct29), sl29⟩) (c29 : PySem.W.codeIn K cd29 "made_seen" = true) (k29 : PySem.W.keepIn K (.ref f29) = true)
    (a30 : PySem.W.nsIn K mainGlobals "told_single" = some (some (.ref f30))) (l30 : K.lookup f30 = some ⟨oc30, od30, .func (PySem.W.fnOf "told_single" "told_single" (defArgs s_told_single) (defBody s_told_single) (defScope s_told_single) .none kV30 dc30 pm30 an30 cd30 ct30), sl30⟩) (c30 : PySem.W.codeIn K cd30 "told_single" = true) (k30 : PySem.W.keepIn K (.ref f30) = true)
    (a31 : PySem.W.nsIn K mainGlobals "told_root" = some (some (.ref f31))) (l31 : K.lookup f31 = some ⟨oc31, od31, .func (PySem.W.fnOf "told_root" "told_root" (defArgs s_told_root) (defBody s_told_root) (defScope s_told_root) .none kV31 dc31 pm31 an31 cd31 ct31), sl31⟩) (c31 : PySem.W.codeIn K cd31 "told_root" = true) (k31 : PySem.W.keepIn K (.ref f31) = true)
    (a32 : PySem.W.nsIn K mainGlobals "told_roots" = some (some (.ref f32))) (l32 : K.lookup f32 = some ⟨oc32, od32, .func (PySem.W.fnOf "told_roots" "told_roots" (defArgs s_told_roots) (defBody s_told_roots) (defScope s_told_roots) .none kV32 dc32 pm32 an32 cd32 ct32), sl32⟩) (c32 : PySem.W.codeIn K cd32 "told_roots" = true) (k32 : PySem.W.keepIn K (.ref f32) = true)
    (l33 : K.lookup f33 = some ⟨oc33, od33, .func (PySem.W.fnOf "__init__" "Desk.__init__" (defArgs s___init__) (defBody s___init__) (defScope s___init__) .none kV33 dc33 pm33 an33 cd33 ct33), sl33⟩) (c33 : PySem.W.codeIn K cd33 "Desk.__init__" = true) (k33 : PySem.W.keepIn K (.ref f33) = true) (n33 : PySem.W.isFn K (.ref f33) = true)
    (l34 : K.lookup f34 = some ⟨oc34, od34, .func (PySem.W.fnOf "say" "Desk.say" (defArgs s_say) (defBody s_say) (defScope s_say) .none kV34 dc34 pm34 an34 cd34 ct34), sl34⟩) (c34 : PySem.W.codeIn K cd34 "Desk.say" = true) (k34 : PySem.W.keepIn K (.ref f34) = true) (n34 : PySem.W.isFn K (.ref f34) = true)
    (l35 : K.lookup f35 = some ⟨oc35, od35, .func (PySem.W.fnOf "thing_of" "Desk.thing_of" (defArgs s_thing_of) (defBody s_thing_of) (defScope s_thing_of) .none kV35 dc35 pm35 an35 cd35 ct35), sl35⟩) (c35 : PySem.W.codeIn K cd35 "Desk.thing_of" = true) (k35 : PySem.W.keepIn K (.ref f35) = true) (n35 : PySem.W.isFn K (.ref f35) = true)
    (l36 : K.lookup f36 = some ⟨oc36, od36, .func (PySem.W.fnOf "standing" "Desk.standing" (defArgs s_standing) (defBody s_standing) (defScope s_standing) .none kV36 dc36 pm36 an36 cd36 ct36), sl36⟩) (c36 : PySem.W.codeIn K cd36 "Desk.standing" = true) (k36 : PySem.W.keepIn K (.ref f36) = true) (n36 : PySem.W.isFn K (.ref f36) = true)
    (l37 : K.lookup f37 = some ⟨oc37, od37, .func (PySem.W.fnOf "keep" "Desk.keep" (defArgs s_keep) (defBody s_keep) (defScope s_keep) .none kV37 dc37 pm37 an37 cd37 ct37), sl37⟩) (c37 : PySem.W.codeIn K cd37 "Desk.keep" = true) (k37 : PySem.W.keepIn K (.ref f37) = true) (n37 : PySem.W.isFn K (.ref f37) = true)
    (a38 : PySem.W.nsIn K mainGlobals "_law_cell" = some (some (.ref f38))) (l38 : K.lookup f38 = some ⟨oc38, od38, .func (PySem.W.fnOf "_law_cell" "_law_cell" (defArgs s__law_cell) (defBody s__law_cell) (defScope s__law_cell) .none kV38 dc38 pm38 an38 cd38 ct38), sl38⟩) (c38 : PySem.W.codeIn K cd38 "_law_cell" = true) (k38 : PySem.W.keepIn K (.ref f38) = true)
    (a39 : PySem.W.nsIn K mainGlobals "_law_prime" = some (some (.ref f39))) (l39 : K.lookup f39 = some ⟨oc39, od39, .func (PySem.W.fnOf "_law_prime" "_law_prime" (defArgs s__law_prime) (defBody s__law_prime) (defScope s__law_prime) .none kV39 dc39 pm39 an39 cd39 ct39), sl39⟩) (c39 : PySem.W.codeIn K cd39 "_law_prime" = true) (k39 : PySem.W.keepIn K (.ref f39) = true)
    (a40 : PySem.W.nsIn K mainGlobals "_law_times" = some (some (.ref f40))) (l40 : K.lookup f40 = some ⟨oc40, od40, .func (PySem.W.fnOf "_law_times" "_law_times" (defArgs s__law_times) (defBody s__law_times) (defScope s__law_times) .none kV40 dc40 pm40 an40 cd40 ct40), sl40⟩) (c40 : PySem.W.codeIn K cd40 "_law_times" = true) (k40 : PySem.W.keepIn K (.ref f40) = true)
    (a41 : PySem.W.nsIn K mainGlobals "_law_power" = some (some (.ref f41))) (l41 : K.lookup f41 = some ⟨oc41, od41, .func (PySem.W.fnOf "_law_power" "_law_power" (defArgs s__law_power) (defBody s__law_power) (defScope s__law_power) .none kV41 dc41 pm41 an41 cd41 ct41), sl41⟩) (c41 : PySem.W.codeIn K cd41 "_law_power" = true) (k41 : PySem.W.keepIn K (.ref f41) = true)
    (a42 : PySem.W.nsIn K mainGlobals "_law_roots" = some (some (.ref f42))) (l42 : K.lookup f42 = some ⟨oc42, od42, .func (PySem.W.fnOf "_law_roots" "_law_roots" (defArgs s__law_roots) (defBody s__law_roots) (defScope s__law_roots) .none kV42 dc42 pm42 an42 cd42 ct42), sl42⟩) (c42 : PySem.W.codeIn K cd42 "_law_roots" = true) (k42 : PySem.W.keepIn K (.ref f42) = true)
    (a43 : PySem.W.nsIn K mainGlobals "_law_depth" = some (some (.ref f43))) (l43 : K.lookup f43 = some ⟨oc43, od43, .func (PySem.W.fnOf "_law_depth" "_law_depth" (defArgs s__law_depth) (defBody s__law_depth) (defScope s__law_depth) .none kV43 dc43 pm43 an43 cd43 ct43), sl43⟩) (c43 : PySem.W.codeIn K cd43 "_law_depth" = true) (k43 : PySem.W.keepIn K (.ref f43) = true)
    (a44 : PySem.W.nsIn K mainGlobals "_law_written" = some (some (.ref f44))) (l44 : K.lookup f44 = some ⟨oc44, od44, .func (PySem.W.fnOf "_law_written" "_law_written" (defArgs s__law_written) (defBody s__law_written) (defScope s__law_written) .none kV44 dc44 pm44 an44 cd44 ct44), sl44⟩) (c44 : PySem.W.codeIn K cd44 "_law_written" = true) (k44 : PySem.W.keepIn K (.ref f44) = true)
    (a45 : PySem.W.nsIn K mainGlobals "_law_slope_worth" = some (some (.ref f45))) (l45 : K.lookup f45 = some ⟨oc45, od45, .func (PySem.W.fnOf "_law_slope_worth" "_law_slope_worth" (defArgs s__law_slope_worth) (defBody s__law_slope_worth) (defScope s__law_slope_worth) .none kV45 dc45 pm45 an45 cd45 ct45), sl45⟩) (c45 : PySem.W.codeIn K cd45 "_law_slope_worth" = true) (k45 : PySem.W.keepIn K (.ref f45) = true)
    (a46 : PySem.W.nsIn K mainGlobals "_law_single" = some (some (.ref f46))) (l46 : K.lookup f46 = some ⟨oc46, od46, .func (PySem.W.fnOf "_law_single" "_law_single" (defArgs s__law_single) (defBody s__law_single) (defScope s__law_single) .none kV46 dc46 pm46 an46 cd46 ct46), sl46⟩) (c46 : PySem.W.codeIn K cd46 "_law_single" = true) (k46 : PySem.W.keepIn K (.ref f46) = true)
    (a47 : PySem.W.nsIn K mainGlobals "law" = some (some (.ref f47))) (l47 : K.lookup f47 = some ⟨oc47, od47, .func (PySem.W.fnOf "law" "law" (defArgs s_law) (defBody s_law) (defScope s_law) .none kV47 dc47 pm47 an47 cd47 ct47), sl47⟩) (c47 : PySem.W.codeIn K cd47 "law" = true) (k47 : PySem.W.keepIn K (.ref f47) = true)
    (z_abs : PySem.W.nsIn K mainGlobals "abs" = some none) (z_all : PySem.W.nsIn K mainGlobals "all" = some none) (z_bool : PySem.W.nsIn K mainGlobals "bool" = some none) (z_enumerate : PySem.W.nsIn K mainGlobals "enumerate" = some none) (z_int : PySem.W.nsIn K mainGlobals "int" = some none) (z_isinstance : PySem.W.nsIn K mainGlobals "isinstance" = some none) (z_len : PySem.W.nsIn K mainGlobals "len" = some none) (z_list : PySem.W.nsIn K mainGlobals "list" = some none) (z_max : PySem.W.nsIn K mainGlobals "max" = some none) (z_min : PySem.W.nsIn K mainGlobals "min" = some none) (z_range : PySem.W.nsIn K mainGlobals "range" = some none) (z_reversed : PySem.W.nsIn K mainGlobals "reversed" = some none) (z_sorted : PySem.W.nsIn K mainGlobals "sorted" = some none) (z_str : PySem.W.nsIn K mainGlobals "str" = some none) (z_sum : PySem.W.nsIn K mainGlobals "sum" = some none) (z_zip : PySem.W.nsIn K mainGlobals "zip" = some none) {t_FIGURES : Tok} (z_FIGURES : PySem.W.nsIn K mainGlobals "FIGURES" = some (some (.str "0123456789" t_FIGURES))) {t_GREATEST_DEPTH : Tok} (z_GREATEST_DEPTH : PySem.W.nsIn K mainGlobals "GREATEST_DEPTH" = some (some (.int 60 t_GREATEST_DEPTH))) {t_GREATEST_PRIME : Tok} (z_GREATEST_PRIME : PySem.W.nsIn K mainGlobals "GREATEST_PRIME" = some (some (.int 97 t_GREATEST_PRIME))) {t_LETTERS : Tok} (z_LETTERS : PySem.W.nsIn K mainGlobals "LETTERS" = some (some (.str "abcdefghijklmnopqrstuvwxyz" t_LETTERS))) {t_MOST_FIGURES : Tok} (z_MOST_FIGURES : PySem.W.nsIn K mainGlobals "MOST_FIGURES" = some (some (.int 60 t_MOST_FIGURES))) {t_MOST_LETTERS : Tok} (z_MOST_LETTERS : PySem.W.nsIn K mainGlobals "MOST_LETTERS" = some (some (.int 8 t_MOST_LETTERS))) {t_MOST_NUMBERS : Tok} (z_MOST_NUMBERS : PySem.W.nsIn K mainGlobals "MOST_NUMBERS" = some (some (.int 13 t_MOST_NUMBERS))) (kd_WANTED : KDict K w 419 l_WANTED) (gd_WANTED : PySem.W.nsIn K mainGlobals "WANTED" = some (some (.ref 419))) (kd_MADE : KDict K w 546 l_MADE) (gd_MADE : PySem.W.nsIn K mainGlobals "MADE" = some (some (.ref 546))) (kd_TOLD : KDict K w 547 l_TOLD) (gd_TOLD : PySem.W.nsIn K mainGlobals "TOLD" = some (some (.ref 547))) (tu_420 : KTup K 420 [.str "new", .str "poly"]) (tu_422 : KTup K 422 [.str "new", .str "name", .str "number", .str "depth"]) (tu_429 : KTup K 429 [.str "name", .str "number"]) (tu_430 : KTup K 430 [.str "name", .str "number", .str "depth"]) (tu_431 : KTup K 431 [.str "name", .str "depth"]) (fa_made_poly : PySem.W.nsIn K mainGlobals "made_poly" = some (some (.ref 469))) (fa_made_seen : PySem.W.nsIn K mainGlobals "made_seen" = some (some (.ref 483))) (fa_told_single : PySem.W.nsIn K mainGlobals "told_single" = some (some (.ref 516))) (fa_told_root : PySem.W.nsIn K mainGlobals "told_root" = some (some (.ref 523))) (fa_told_roots : PySem.W.nsIn K mainGlobals "told_roots" = some (some (.ref 528))) {e_Desk : Addr} (z_Desk : PySem.W.nsIn K mainGlobals "Desk" = some (some (.ref e_Desk))) {e_NoDepth : Addr} (z_NoDepth : PySem.W.nsIn K mainGlobals "NoDepth" = some (some (.ref e_NoDepth))) {e_NoInverse : Addr} (z_NoInverse : PySem.W.nsIn K mainGlobals "NoInverse" = some (some (.ref e_NoInverse))) {e_NoName : Addr} (z_NoName : PySem.W.nsIn K mainGlobals "NoName" = some (some (.ref e_NoName))) {e_NoParts : Addr} (z_NoParts : PySem.W.nsIn K mainGlobals "NoParts" = some (some (.ref e_NoParts))) {e_NoPrime : Addr} (z_NoPrime : PySem.W.nsIn K mainGlobals "NoPrime" = some (some (.ref e_NoPrime))) {e_NoRow : Addr} (z_NoRow : PySem.W.nsIn K mainGlobals "NoRow" = some (some (.ref e_NoRow))) {e_NoSingle : Addr} (z_NoSingle : PySem.W.nsIn K mainGlobals "NoSingle" = some (some (.ref e_NoSingle))) {e_NoSmall : Addr} (z_NoSmall : PySem.W.nsIn K mainGlobals "NoSmall" = some (some (.ref e_NoSmall))) {e_NoText : Addr} (z_NoText : PySem.W.nsIn K mainGlobals "NoText" = some (some (.ref e_NoText))) {e_TooDeep : Addr} (z_TooDeep : PySem.W.nsIn K mainGlobals "TooDeep" = some (some (.ref e_TooDeep))) {e_TooGreat : Addr} (z_TooGreat : PySem.W.nsIn K mainGlobals "TooGreat" = some (some (.ref e_TooGreat))) (x_NoDepth : ExcK K e_NoDepth) (x_NoSingle : ExcK K e_NoSingle) (x_TooDeep : ExcK K e_TooDeep) (cl_Desk : Cls K e_Desk) (mk_Desk : PySem.W.makesIn K e_Desk = true) (kc_Desk : PySem.W.keepIn K (.ref e_Desk) = true) (na_prime : NoAttr K e_Desk "prime") (na_kept : NoAttr K e_Desk "kept") (a33 : PySem.W.findIn K (.ref e_Desk) "__init__" = some (some (.ref f33))) (a34 : PySem.W.findIn K (.ref e_Desk) "say" = some (some (.ref f34))) (a35 : PySem.W.findIn K (.ref e_Desk) "thing_of" = some (some (.ref f35))) (a36 : PySem.W.findIn K (.ref e_Desk) "standing" = some (some (.ref f36))) (a37 : PySem.W.findIn K (.ref e_Desk) "keep" = some (some (.ref f37))) :
    ∃ fd : FuncData, (∀ (s : Shared) (v : Value), BindsTo s fd ⟨[v], []⟩ [("script", v)]) ∧ ∀ base : Heap, K.In base → base.Ns mainGlobals mg → FnOk P w K mg base CX0 70 fa fd ["script"] (spLaw K) := by
  have e := hfa.symm.trans (PySem.W.mg_of X G a47)
  cases e
  have F1 := fun_mk (st := s_is_prime) l1 c1 k1
  have b1 := F1.binds (ps := ["thing"]) fun _ _ _ _ _ _ us hl => by obtain ⟨_, rfl⟩ := us1 hl; rfl
  have F2 := fun_mk (st := s_depth_of) l2 c2 k2
  have b2 := F2.binds (ps := ["p", "x"]) fun _ _ _ _ _ _ us hl => by obtain ⟨_, _, rfl⟩ := us2 hl; rfl
  have F3 := fun_mk (st := s_power_of) l3 c3 k3
  have b3 := F3.binds (ps := ["p", "e"]) fun _ _ _ _ _ _ us hl => by obtain ⟨_, _, rfl⟩ := us2 hl; rfl
  have F4 := fun_mk (st := s_inverse_by_prime) l4 c4 k4
  have b4 := F4.binds (ps := ["p", "x"]) fun _ _ _ _ _ _ us hl => by obtain ⟨_, _, rfl⟩ := us2 hl; rfl
  have F5 := fun_mk (st := s_inverse_of) l5 c5 k5
  have b5 := F5.binds (ps := ["p", "e", "x"]) fun _ _ _ _ _ _ us hl => by obtain ⟨_, _, _, rfl⟩ := us3 hl; rfl
  have F6 := fun_mk (st := s_worth_at) l6 c6 k6
  have b6 := F6.binds (ps := ["f", "x"]) fun _ _ _ _ _ _ us hl => by obtain ⟨_, _, rfl⟩ := us2 hl; rfl
  have F7 := fun_mk (st := s_degree_of) l7 c7 k7
  have b7 := F7.binds (ps := ["f"]) fun _ _ _ _ _ _ us hl => by obtain ⟨_, rfl⟩ := us1 hl; rfl
  have F8 := fun_mk (st := s_poly_product) l8 c8 k8
  have b8 := F8.binds (ps := ["f", "g"]) fun _ _ _ _ _ _ us hl => by obtain ⟨_, _, rfl⟩ := us2 hl; rfl
  have F9 := fun_mk (st := s_slope_of) l9 c9 k9
  have b9 := F9.binds (ps := ["f"]) fun _ _ _ _ _ _ us hl => by obtain ⟨_, rfl⟩ := us1 hl; rfl
  have F10 := fun_mk (st := s_seen_from) l10 c10 k10
  have b10 := F10.binds (ps := ["p", "f", "a", "e"]) fun _ _ _ _ _ _ us hl => by obtain ⟨_, _, _, _, rfl⟩ := us4 hl; rfl
  have F11 := fun_mk (st := s_content_of) l11 c11 k11
  have b11 := F11.binds (ps := ["p", "f"]) fun _ _ _ _ _ _ us hl => by obtain ⟨_, _, rfl⟩ := us2 hl; rfl
  have F12 := fun_mk (st := s_without_content) l12 c12 k12
  have b12 := F12.binds (ps := ["p", "f"]) fun _ _ _ _ _ _ us hl => by obtain ⟨_, _, rfl⟩ := us2 hl; rfl
  have F13 := fun_mk (st := s_rests_by_prime) l13 c13 k13
  have b13 := F13.binds (ps := ["p", "f"]) fun _ _ _ _ _ _ us hl => by obtain ⟨_, _, rfl⟩ := us2 hl; rfl
  have F14 := fun_mk (st := s_single_depth) l14 c14 k14
  have b14 := F14.binds (ps := ["p", "f", "a"]) fun _ _ _ _ _ _ us hl => by obtain ⟨_, _, _, rfl⟩ := us3 hl; rfl
  have F15 := fun_mk (st := s_root_of) l15 c15 k15
  have b15 := F15.binds (ps := ["p", "f", "a", "N"]) fun _ _ _ _ _ _ us hl => by obtain ⟨_, _, _, _, rfl⟩ := us4 hl; rfl
  have F16 := fun_mk (st := s_deepened) l16 c16 k16
  have b16 := F16.binds (ps := ["p", "f", "a", "d", "N"]) fun _ _ _ _ _ _ us hl => by obtain ⟨_, _, _, _, _, rfl⟩ := us5 hl; rfl
  have F17 := fun_mk (st := s_roots_within) l17 c17 k17
  have b17 := F17.binds (ps := ["p", "a", "e", "seen", "N"]) fun _ _ _ _ _ _ us hl => by obtain ⟨_, _, _, _, _, rfl⟩ := us5 hl; rfl
  have F18 := fun_mk (st := s_endless_roots) l18 c18 k18
  have b18 := F18.binds (ps := ["p", "f", "N"]) fun _ _ _ _ _ _ us hl => by obtain ⟨_, _, _, rfl⟩ := us3 hl; rfl
  have F19 := fun_mk (st := s_is_made_of) l19 c19 k19
  have b19 := F19.binds (ps := ["text", "signs"]) fun _ _ _ _ _ _ us hl => by obtain ⟨_, _, rfl⟩ := us2 hl; rfl
  have F20 := fun_mk (st := s_is_written_number) l20 c20 k20
  have b20 := F20.binds (ps := ["text"]) fun _ _ _ _ _ _ us hl => by obtain ⟨_, rfl⟩ := us1 hl; rfl
  have F21 := fun_mk (st := s_can_be_written) l21 c21 k21
  have b21 := F21.binds (ps := ["number"]) fun _ _ _ _ _ _ us hl => by obtain ⟨_, rfl⟩ := us1 hl; rfl
  have F22 := fun_mk (st := s_read_number) l22 c22 k22
  have b22 := F22.binds (ps := ["text"]) fun _ _ _ _ _ _ us hl => by obtain ⟨_, rfl⟩ := us1 hl; rfl
  have F23 := fun_mk (st := s_read_poly) l23 c23 k23
  have b23 := F23.binds (ps := ["text"]) fun _ _ _ _ _ _ us hl => by obtain ⟨_, rfl⟩ := us1 hl; rfl
  have F24 := fun_mk (st := s_words_of) l24 c24 k24
  have b24 := F24.binds (ps := ["row"]) fun _ _ _ _ _ _ us hl => by obtain ⟨_, rfl⟩ := us1 hl; rfl
  have F25 := fun_mk (st := s_read_name) l25 c25 k25
  have b25 := F25.binds (ps := ["word"]) fun _ _ _ _ _ _ us hl => by obtain ⟨_, rfl⟩ := us1 hl; rfl
  have F26 := fun_mk (st := s_read_depth) l26 c26 k26
  have b26 := F26.binds (ps := ["word"]) fun _ _ _ _ _ _ us hl => by obtain ⟨_, rfl⟩ := us1 hl; rfl
  have F27 := fun_mk (st := s_listed) l27 c27 k27
  have b27 := F27.binds (ps := ["texts", "without"]) fun _ _ _ _ _ _ us hl => by obtain ⟨_, _, rfl⟩ := us2 hl; rfl
  have F28 := fun_mk (st := s_made_poly) l28 c28 k28
  have b28 := F28.binds (ps := ["p", "things"]) fun _ _ _ _ _ _ us hl => by obtain ⟨_, _, rfl⟩ := us2 hl; rfl
  have F29 := fun_mk (st := s_made_seen) l29 c29 k29
  have b29 := F29.binds (ps := ["p", "things"]) fun _ _ _ _ _ _ us hl => by obtain ⟨_, _, rfl⟩ := us2 hl; rfl
  have F30 := fun_mk (st := s_told_single) l30 c30 k30
  have b30 := F30.binds (ps := ["p", "things"]) fun _ _ _ _ _ _ us hl => by obtain ⟨_, _, rfl⟩ := us2 hl; rfl
  have F31 := fun_mk (st := s_told_root) l31 c31 k31
  have b31 := F31.binds (ps := ["p", "things"]) fun _ _ _ _ _ _ us hl => by obtain ⟨_, _, rfl⟩ := us2 hl; rfl
  have F32 := fun_mk (st := s_told_roots) l32 c32 k32
  have b32 := F32.binds (ps := ["p", "things"]) fun _ _ _ _ _ _ us hl => by obtain ⟨_, _, rfl⟩ := us2 hl; rfl
  have F33 := fun_mk (st := s___init__) l33 c33 k33
  have b33 := F33.binds (ps := ["self", "p"]) fun _ _ _ _ _ _ us hl => by obtain ⟨_, _, rfl⟩ := us2 hl; rfl
  have F34 := fun_mk (st := s_say) l34 c34 k34
  have b34 := F34.binds (ps := ["self", "row"]) fun _ _ _ _ _ _ us hl => by obtain ⟨_, _, rfl⟩ := us2 hl; rfl
  have F35 := fun_mk (st := s_thing_of) l35 c35 k35
  have b35 := F35.binds (ps := ["self", "wanted", "word"]) fun _ _ _ _ _ _ us hl => by obtain ⟨_, _, _, rfl⟩ := us3 hl; rfl
  have F36 := fun_mk (st := s_standing) l36 c36 k36
  have b36 := F36.binds (ps := ["self", "name"]) fun _ _ _ _ _ _ us hl => by obtain ⟨_, _, rfl⟩ := us2 hl; rfl
  have F37 := fun_mk (st := s_keep) l37 c37 k37
  have b37 := F37.binds (ps := ["self", "name", "polynomial"]) fun _ _ _ _ _ _ us hl => by obtain ⟨_, _, _, rfl⟩ := us3 hl; rfl
  have F38 := fun_mk (st := s__law_cell) l38 c38 k38
  have b38 := F38.binds (ps := ["script", "k"]) fun _ _ _ _ _ _ us hl => by obtain ⟨_, _, rfl⟩ := us2 hl; rfl
  have F39 := fun_mk (st := s__law_prime) l39 c39 k39
  have b39 := F39.binds (ps := ["cell"]) fun _ _ _ _ _ _ us hl => by obtain ⟨_, rfl⟩ := us1 hl; rfl
  have F40 := fun_mk (st := s__law_times) l40 c40 k40
  have b40 := F40.binds (ps := ["f", "g"]) fun _ _ _ _ _ _ us hl => by obtain ⟨_, _, rfl⟩ := us2 hl; rfl
  have F41 := fun_mk (st := s__law_power) l41 c41 k41
  have b41 := F41.binds (ps := ["p", "e"]) fun _ _ _ _ _ _ us hl => by obtain ⟨_, _, rfl⟩ := us2 hl; rfl
  have F42 := fun_mk (st := s__law_roots) l42 c42 k42
  have b42 := F42.binds (ps := ["p", "script"]) fun _ _ _ _ _ _ us hl => by obtain ⟨_, _, rfl⟩ := us2 hl; rfl
  have F43 := fun_mk (st := s__law_depth) l43 c43 k43
  have b43 := F43.binds (ps := ["p", "number"]) fun _ _ _ _ _ _ us hl => by obtain ⟨_, _, rfl⟩ := us2 hl; rfl
  have F44 := fun_mk (st := s__law_written) l44 c44 k44
  have b44 := F44.binds (ps := ["rests"]) fun _ _ _ _ _ _ us hl => by obtain ⟨_, rfl⟩ := us1 hl; rfl
  have F45 := fun_mk (st := s__law_slope_worth) l45 c45 k45
  have b45 := F45.binds (ps := ["f", "x"]) fun _ _ _ _ _ _ us hl => by obtain ⟨_, _, rfl⟩ := us2 hl; rfl
  have F46 := fun_mk (st := s__law_single) l46 c46 k46
  have b46 := F46.binds (ps := ["desk", "p", "f", "root", "deep"]) fun _ _ _ _ _ _ us hl => by obtain ⟨_, _, _, _, _, rfl⟩ := us5 hl; rfl
  have F47 := fun_mk (st := s_law) l47 c47 k47
  have k_Desk : clK K "Desk" = e_Desk := clK_of z_Desk
  have k_NoDepth : clK K "NoDepth" = e_NoDepth := clK_of z_NoDepth
  have k_NoInverse : clK K "NoInverse" = e_NoInverse := clK_of z_NoInverse
  have k_NoName : clK K "NoName" = e_NoName := clK_of z_NoName
  have k_NoParts : clK K "NoParts" = e_NoParts := clK_of z_NoParts
  have k_NoPrime : clK K "NoPrime" = e_NoPrime := clK_of z_NoPrime
  have k_NoRow : clK K "NoRow" = e_NoRow := clK_of z_NoRow
  have k_NoSingle : clK K "NoSingle" = e_NoSingle := clK_of z_NoSingle
  have k_NoSmall : clK K "NoSmall" = e_NoSmall := clK_of z_NoSmall
  have k_NoText : clK K "NoText" = e_NoText := clK_of z_NoText
  have k_TooDeep : clK K "TooDeep" = e_TooDeep := clK_of z_TooDeep
  have k_TooGreat : clK K "TooGreat" = e_TooGreat := clK_of z_TooGreat
  have B : Bi mg K w := ⟨kd_WANTED, PySem.W.mg_of X G gd_WANTED, kd_MADE, PySem.W.mg_of X G gd_MADE, kd_TOLD, PySem.W.mg_of X G gd_TOLD, tu_420, tu_422, tu_429, tu_430, tu_431, PySem.W.mg_of X G fa_made_poly, PySem.W.mg_of X G fa_made_seen, PySem.W.mg_of X G fa_told_single, PySem.W.mg_of X G fa_told_root, PySem.W.mg_of X G fa_told_roots, (by rw [k_Desk]; exact cl_Desk), (by rw [k_Desk]; exact na_prime), (by rw [k_Desk]; exact na_kept), PySem.W.mg_none_of X G z_abs, PySem.W.mg_none_of X G z_all, PySem.W.mg_none_of X G z_bool, PySem.W.mg_none_of X G z_enumerate, PySem.W.mg_none_of X G z_int, PySem.W.mg_none_of X G z_isinstance, PySem.W.mg_none_of X G z_len, PySem.W.mg_none_of X G z_list, PySem.W.mg_none_of X G z_max, PySem.W.mg_none_of X G z_min, PySem.W.mg_none_of X G z_range, PySem.W.mg_none_of X G z_reversed, PySem.W.mg_none_of X G z_sorted, PySem.W.mg_none_of X G z_str, PySem.W.mg_none_of X G z_sum, PySem.W.mg_none_of X G z_zip, ⟨_, PySem.W.mg_of X G z_FIGURES⟩, ⟨_, PySem.W.mg_of X G z_GREATEST_DEPTH⟩, ⟨_, PySem.W.mg_of X G z_GREATEST_PRIME⟩, ⟨_, PySem.W.mg_of X G z_LETTERS⟩, ⟨_, PySem.W.mg_of X G z_MOST_FIGURES⟩, ⟨_, PySem.W.mg_of X G z_MOST_LETTERS⟩, ⟨_, PySem.W.mg_of X G z_MOST_NUMBERS⟩, (by rw [k_Desk]; exact PySem.W.mg_of X G z_Desk), (by rw [k_NoDepth]; exact PySem.W.mg_of X G z_NoDepth), (by rw [k_NoInverse]; exact PySem.W.mg_of X G z_NoInverse), (by rw [k_NoName]; exact PySem.W.mg_of X G z_NoName), (by rw [k_NoParts]; exact PySem.W.mg_of X G z_NoParts), (by rw [k_NoPrime]; exact PySem.W.mg_of X G z_NoPrime), (by rw [k_NoRow]; exact PySem.W.mg_of X G z_NoRow), (by rw [k_NoSingle]; exact PySem.W.mg_of X G z_NoSingle), (by rw [k_NoSmall]; exact PySem.W.mg_of X G z_NoSmall), (by rw [k_NoText]; exact PySem.W.mg_of X G z_NoText), (by rw [k_TooDeep]; exact PySem.W.mg_of X G z_TooDeep), (by rw [k_TooGreat]; exact PySem.W.mg_of X G z_TooGreat), (by rw [k_NoDepth]; exact x_NoDepth), (by rw [k_NoSingle]; exact x_NoSingle), (by rw [k_TooDeep]; exact x_TooDeep)⟩
  refine ⟨PySem.W.fnOf "law" "law" (defArgs s_law) (defBody s_law) (defScope s_law) .none kV47 dc47 pm47 an47 cd47 ct47, fun s v => .of_eq rfl, fun base _ _ => ?_⟩
  have D_is_prime := def_mk (P := P) (w := w) (base := base) F1 (ok_is_prime B  F1) b1 (PySem.W.mg_of X G a1)
  have D_depth_of := def_mk (P := P) (w := w) (base := base) F2 (ok_depth_of B  F2) b2 (PySem.W.mg_of X G a2)
  have D_power_of := def_mk (P := P) (w := w) (base := base) F3 (ok_power_of B  F3) b3 (PySem.W.mg_of X G a3)
  have D_inverse_by_prime := def_mk (P := P) (w := w) (base := base) F4 (ok_inverse_by_prime B  F4) b4 (PySem.W.mg_of X G a4)
  have D_worth_at := def_mk (P := P) (w := w) (base := base) F6 (ok_worth_at B  F6) b6 (PySem.W.mg_of X G a6)
  have D_degree_of := def_mk (P := P) (w := w) (base := base) F7 (ok_degree_of B  F7) b7 (PySem.W.mg_of X G a7)
  have D_poly_product := def_mk (P := P) (w := w) (base := base) F8 (ok_poly_product B  F8) b8 (PySem.W.mg_of X G a8)
  have D_slope_of := def_mk (P := P) (w := w) (base := base) F9 (ok_slope_of B  F9) b9 (PySem.W.mg_of X G a9)
  have D_is_made_of := def_mk (P := P) (w := w) (base := base) F19 (ok_is_made_of B  F19) b19 (PySem.W.mg_of X G a19)
  have D_words_of := def_mk (P := P) (w := w) (base := base) F24 (ok_words_of B  F24) b24 (PySem.W.mg_of X G a24)
  have D_listed := def_mk (P := P) (w := w) (base := base) F27 (ok_listed B  F27) b27 (PySem.W.mg_of X G a27)
  have D_made_poly := def_mk (P := P) (w := w) (base := base) F28 (ok_made_poly B  F28) b28 (PySem.W.mg_of X G a28)
  have D_standing : Met P w K mg base CX0 (clK K "Desk") "standing" 1 ["self", "name"] (sp_standing K) := ⟨⟨f36, _, ok_standing B  F36, b36, (by rw [k_Desk]; exact ⟨a36, n36, k36⟩)⟩⟩
  have D__law_cell := def_mk (P := P) (w := w) (base := base) F38 (ok__law_cell B  F38) b38 (PySem.W.mg_of X G a38)
  have D__law_prime := def_mk (P := P) (w := w) (base := base) F39 (ok__law_prime B  F39) b39 (PySem.W.mg_of X G a39)
  have D__law_times := def_mk (P := P) (w := w) (base := base) F40 (ok__law_times B  F40) b40 (PySem.W.mg_of X G a40)
  have D__law_power := def_mk (P := P) (w := w) (base := base) F41 (ok__law_power B  F41) b41 (PySem.W.mg_of X G a41)
  have D__law_depth := def_mk (P := P) (w := w) (base := base) F43 (ok__law_depth B  F43) b43 (PySem.W.mg_of X G a43)
  have D__law_written := def_mk (P := P) (w := w) (base := base) F44 (ok__law_written B  F44) b44 (PySem.W.mg_of X G a44)
  have D__law_slope_worth := def_mk (P := P) (w := w) (base := base) F45 (ok__law_slope_worth B  F45) b45 (PySem.W.mg_of X G a45)
  have D_inverse_of := def_mk (P := P) (w := w) (base := base) F5 (ok_inverse_of B D_power_of D_inverse_by_prime F5) b5 (PySem.W.mg_of X G a5)
  have D_seen_from := def_mk (P := P) (w := w) (base := base) F10 (ok_seen_from B D_power_of D_poly_product F10) b10 (PySem.W.mg_of X G a10)
  have D_content_of := defE_mk (P := P) (w := w) (base := base) F11 (ok_content_of B D_degree_of F11) b11 (PySem.W.mg_of X G a11)
  have D_rests_by_prime := def_mk (P := P) (w := w) (base := base) F13 (ok_rests_by_prime B D_worth_at F13) b13 (PySem.W.mg_of X G a13)
  have D_single_depth := def_mk (P := P) (w := w) (base := base) F14 (ok_single_depth B D_depth_of D_power_of D_worth_at D_slope_of F14) b14 (PySem.W.mg_of X G a14)
  have D_is_written_number := def_mk (P := P) (w := w) (base := base) F20 (ok_is_written_number B D_is_made_of F20) b20 (PySem.W.mg_of X G a20)
  have D_can_be_written := def_mk (P := P) (w := w) (base := base) F21 (ok_can_be_written B D_power_of F21) b21 (PySem.W.mg_of X G a21)
  have D_read_name := def_mk (P := P) (w := w) (base := base) F25 (ok_read_name B D_is_made_of F25) b25 (PySem.W.mg_of X G a25)
  have D___init__ : MkD P w K mg base (clK K "Desk") 2 ["self", "p"] (sp___init__ K) := ⟨⟨f33, _, ok___init__ B D_is_prime F33, b33, (by rw [k_Desk]; exact ⟨mk_Desk, a33, n33, kc_Desk⟩)⟩⟩
  have D__law_roots := def_mk (P := P) (w := w) (base := base) F42 (ok__law_roots B D__law_cell D__law_power F42) b42 (PySem.W.mg_of X G a42)
  have D_without_content := defE_mk (P := P) (w := w) (base := base) F12 (ok_without_content B D_power_of D_content_of F12) b12 (PySem.W.mg_of X G a12)
  have D_deepened := def_mk (P := P) (w := w) (base := base) F16 (ok_deepened B D_power_of D_inverse_of D_worth_at D_slope_of F16) b16 (PySem.W.mg_of X G a16)
  have D_read_number := def_mk (P := P) (w := w) (base := base) F22 (ok_read_number B D_is_written_number F22) b22 (PySem.W.mg_of X G a22)
  have D_made_seen := def_mk (P := P) (w := w) (base := base) F29 (ok_made_seen B D_seen_from F29) b29 (PySem.W.mg_of X G a29)
  have D_told_single := def_mk (P := P) (w := w) (base := base) F30 (ok_told_single B D_single_depth F30) b30 (PySem.W.mg_of X G a30)
  have D_keep : Met P w K mg base CX0 (clK K "Desk") "keep" 3 ["self", "name", "polynomial"] (sp_keep K) := ⟨⟨f37, _, ok_keep B D_can_be_written F37, b37, (by rw [k_Desk]; exact ⟨a37, n37, k37⟩)⟩⟩
  have T_MADE : TabOk P w K mg base CX0 3 (Tab_MADE K) := tab_or (tab_one B.fa_made_poly D_made_poly.ex) (tab_one B.fa_made_seen D_made_seen.ex)
  have D_root_of := defE_mk (P := P) (w := w) (base := base) F15 (ok_root_of B D_power_of D_single_depth D_deepened F15) b15 (PySem.W.mg_of X G a15)
  have D_read_poly := def_mk (P := P) (w := w) (base := base) F23 (ok_read_poly B D_read_number F23) b23 (PySem.W.mg_of X G a23)
  have D_read_depth := def_mk (P := P) (w := w) (base := base) F26 (ok_read_depth B D_read_number F26) b26 (PySem.W.mg_of X G a26)
  have D_told_root := def_mk (P := P) (w := w) (base := base) F31 (ok_told_root B D_root_of F31) b31 (PySem.W.mg_of X G a31)
  have D_thing_of : Met P w K mg base CX0 (clK K "Desk") "thing_of" 5 ["self", "wanted", "word"] (sp_thing_of K) := ⟨⟨f35, _, ok_thing_of B D_read_number D_read_poly D_read_name D_read_depth D_standing F35, b35, (by rw [k_Desk]; exact ⟨a35, n35, k35⟩)⟩⟩
  have D_roots_within := recE_mk (P := P) (w := w) (base := base) (sp := spN_roots_within K) F17 b17 (PySem.W.mg_of X G a17) 4 (fun n d => ok_roots_within B D_power_of D_worth_at D_slope_of D_seen_from D_without_content D_rests_by_prime D_root_of d F17) 60
  have D_endless_roots := defE_mk (P := P) (w := w) (base := base) F18 (ok_endless_roots B D_roots_within F18) b18 (PySem.W.mg_of X G a18)
  have D_told_roots := def_mk (P := P) (w := w) (base := base) F32 (ok_told_roots B D_endless_roots D_listed F32) b32 (PySem.W.mg_of X G a32)
  have T_TOLD : TabOk P w K mg base CX0 67 (Tab_TOLD K) := tab_or (tab_one B.fa_told_single D_told_single.ex) (tab_or (tab_one B.fa_told_root D_told_root.ex) (tab_one B.fa_told_roots D_told_roots.ex))
  have D_say : Met P w K mg base CX0 (clK K "Desk") "say" 68 ["self", "row"] (sp_say K) := ⟨⟨f34, _, ok_say B T_TOLD T_MADE D_words_of D_thing_of D_keep F34, b34, (by rw [k_Desk]; exact ⟨a34, n34, k34⟩)⟩⟩
  have D__law_single := def_mk (P := P) (w := w) (base := base) F46 (ok__law_single B D_say D__law_power D__law_depth D__law_slope_worth F46) b46 (PySem.W.mg_of X G a46)
  exact ok_law B D___init__ D_say D__law_cell D__law_prime D__law_times D__law_power D__law_roots D__law_written D__law_single F47
end
end K92
namespace PySem.W.Fast
theorem tw17629323903880740864:True:=.intro
theorem tw11384986563720688704:True:=.intro
theorem tw15615885083466899616:True:=.intro
theorem tw4143347253695923360:True:=.intro
theorem tw11536858541194014944:True:=.intro
theorem tw3689162230369642720:True:=.intro
theorem tw14060675871824436480:True:=.intro
theorem tw3662104609996008768:True:=.intro
theorem tw7021616920204169600:True:=.intro
theorem tw16571543290036644256:True:=.intro
theorem tw6030053888273983936:True:=.intro
theorem tw13892956306811508160:True:=.intro
theorem tw5435390486001097216:True:=.intro
theorem tw7599334637245691488:True:=.intro
theorem tw12044861399465722592:True:=.intro
theorem tw3800827726749300448:True:=.intro
theorem tw12837753638044353344:True:=.intro
theorem tw15978105811971780448:True:=.intro
theorem tw5896571809069248384:True:=.intro
theorem tw13075646532413668320:True:=.intro
theorem tw12919667333837498369:True:=.intro
theorem tw6438145766152971361:True:=.intro
theorem tw13375736148534914177:True:=.intro
theorem tw8076826109799865633:True:=.intro
theorem tw12719580806682595649:True:=.intro
theorem tw12766152062428180833:True:=.intro
theorem tw7390232507698577825:True:=.intro
theorem tw6781745352986070497:True:=.intro
theorem tw6215592846989470241:True:=.intro
theorem tw15947609596426122785:True:=.intro
theorem tw49632737733070401:True:=.intro
theorem tw9964818254654219937:True:=.intro
theorem tw1660738770527696577:True:=.intro
theorem tw7423845238080301761:True:=.intro
theorem tw11254328032006957793:True:=.intro
theorem tw7990390678222360321:True:=.intro
theorem tw5951106614850476801:True:=.intro
theorem tw1531562831192166305:True:=.intro
theorem tw13041624858860255169:True:=.intro
theorem tw16357903848886866913:True:=.intro
theorem tw2370906159564397537:True:=.intro
theorem tw11148340654366829537:True:=.intro
theorem tw5417596772061384706:True:=.intro
theorem tw7837580748795598882:True:=.intro
theorem tw7442579627284792386:True:=.intro
theorem tw4127830222743258178:True:=.intro
theorem tw10927824171732790338:True:=.intro
theorem tw13577934847736518882:True:=.intro
theorem tw11699135950294751458:True:=.intro
theorem tw13368454218240647522:True:=.intro
theorem tw2328950597063773570:True:=.intro
theorem tw17374917722745710018:True:=.intro
theorem tw2985246916486976962:True:=.intro
theorem tw11027248565561696738:True:=.intro
theorem tw2914994322696557058:True:=.intro
theorem tw7603614363087455778:True:=.intro
theorem tw16150968825633545762:True:=.intro
theorem tw17420733534511217218:True:=.intro
theorem tw3688751881059836514:True:=.intro
theorem tw7729027901347768930:True:=.intro
theorem tw90212600721912482:True:=.intro
theorem tw821073572408899362:True:=.intro
theorem tw8412921121591178082:True:=.intro
theorem tw9092249578815816546:True:=.intro
theorem tw11600967314903735170:True:=.intro
theorem tw15288568661989520322:True:=.intro
theorem tw8731667648090152930:True:=.intro
theorem tw5510777111463092194:True:=.intro
theorem tw10322743402441370659:True:=.intro
theorem tw18188229948914944099:True:=.intro
theorem tw5748673974141156579:True:=.intro
theorem tw1132118368894511331:True:=.intro
theorem tw7979046636697295139:True:=.intro
theorem tw17494325145739390275:True:=.intro
theorem tw2051280544059156835:True:=.intro
theorem tw15085378593259296195:True:=.intro
theorem tw7476562954449294819:True:=.intro
theorem tw3688271835493576163:True:=.intro
theorem tw17806275270213790179:True:=.intro
theorem tw14757124101924759043:True:=.intro
theorem tw6916058993185390083:True:=.intro
theorem tw1847724956495069731:True:=.intro
theorem tw13709281053142805091:True:=.intro
theorem tw9465858228248014467:True:=.intro
theorem tw735836755110295171:True:=.intro
theorem tw17426781466926829219:True:=.intro
theorem tw10127870531262555843:True:=.intro
theorem tw5494433619305074531:True:=.intro
theorem tw12167022906137877443:True:=.intro
theorem tw4390226928191231971:True:=.intro
theorem tw12851301171376131076:True:=.intro
theorem tw5368675652517950468:True:=.intro
theorem tw1783379593590907940:True:=.intro
theorem tw14972678287318330468:True:=.intro
theorem tw16947993676860060836:True:=.intro
theorem tw13885431912409425060:True:=.intro
theorem tw3334266433597914308:True:=.intro
theorem tw17329355799978482916:True:=.intro
theorem tw16847063291459597572:True:=.intro
theorem tw2697658369048102180:True:=.intro
theorem tw7917702412349984100:True:=.intro
theorem tw10993249258663843236:True:=.intro
theorem tw5898584973722753476:True:=.intro
theorem tw4254525505855219236:True:=.intro
theorem tw18089396580814298692:True:=.intro
theorem tw11388122014691056228:True:=.intro
theorem tw4499351506450989732:True:=.intro
theorem tw3686243027599406820:True:=.intro
theorem tw6850324539392680676:True:=.intro
theorem tw4179041178318434020:True:=.intro
theorem tw4161799329962171172:True:=.intro
theorem tw11707613049808042820:True:=.intro
theorem tw9420260245836652356:True:=.intro
theorem tw9117367645133321060:True:=.intro
theorem tw2808879730294490149:True:=.intro
theorem tw1727324663389935653:True:=.intro
theorem tw3959559412926775461:True:=.intro
theorem tw13178186979155070117:True:=.intro
theorem tw15279138463923664037:True:=.intro
theorem tw8522032726957934885:True:=.intro
theorem tw12466146072901080357:True:=.intro
theorem tw13423451261321490757:True:=.intro
theorem tw14282801155413632389:True:=.intro
theorem tw3462293220391942629:True:=.intro
theorem tw5994030271668160005:True:=.intro
theorem tw10368354562743855685:True:=.intro
theorem tw496259060354960997:True:=.intro
theorem tw9503260721129871109:True:=.intro
theorem tw654168344737098533:True:=.intro
theorem tw14918201486432027429:True:=.intro
theorem tw9741447892671632197:True:=.intro
theorem tw5161663094070433637:True:=.intro
theorem tw5279832815125680037:True:=.intro
theorem tw9576913756147774405:True:=.intro
theorem tw4345060331995681765:True:=.intro
theorem tw3023494011911329765:True:=.intro
theorem tw4983266414878280742:True:=.intro
theorem tw11753671768312875238:True:=.intro
theorem tw14799606211861292262:True:=.intro
theorem tw14926532435822462310:True:=.intro
theorem tw1638480726593655174:True:=.intro
theorem tw7863676254650120614:True:=.intro
theorem tw3618581093187866150:True:=.intro
theorem tw15018088049522320198:True:=.intro
theorem tw10214284658013749126:True:=.intro
theorem tw7496978213898356710:True:=.intro
theorem tw15886843543229440998:True:=.intro
theorem tw7623202083746910215:True:=.intro
theorem tw1998295616679104647:True:=.intro
theorem tw6945351005235899591:True:=.intro
theorem tw6613995280571994343:True:=.intro
theorem tw16706552314295607527:True:=.intro
theorem tw9498322715111558471:True:=.intro
theorem tw9822978084538990919:True:=.intro
theorem tw6224681743243723111:True:=.intro
theorem tw18210522439194249671:True:=.intro
theorem tw1006939934507136455:True:=.intro
theorem tw9652937525109784039:True:=.intro
theorem tw1828907272938093031:True:=.intro
theorem tw18248118688955534919:True:=.intro
theorem tw16051458312564682311:True:=.intro
theorem tw5908139824382375591:True:=.intro
theorem tw1133966443740921543:True:=.intro
theorem tw9741129599467645064:True:=.intro
theorem tw11886311280553498792:True:=.intro
theorem tw6771008421028446440:True:=.intro
theorem tw17325990694490064200:True:=.intro
theorem tw2730050172386111816:True:=.intro
theorem tw17868443591436877160:True:=.intro
theorem tw17846348678391275944:True:=.intro
theorem tw17858125351049432680:True:=.intro
theorem tw5837458386646488712:True:=.intro
theorem tw1586865474416727752:True:=.intro
theorem tw13621031533055208136:True:=.intro
theorem tw12966597992005201608:True:=.intro
theorem tw579565871388681992:True:=.intro
theorem tw12702108114888079304:True:=.intro
theorem tw3254354106438725608:True:=.intro
theorem tw5263416363804687336:True:=.intro
theorem tw9432693475475116073:True:=.intro
theorem tw8073901015429768265:True:=.intro
theorem tw8587251230206481545:True:=.intro
theorem tw14285573477498379497:True:=.intro
theorem tw817524860796581129:True:=.intro
theorem tw7720214487818930537:True:=.intro
theorem tw14322939125726559657:True:=.intro
theorem tw10337015327052958249:True:=.intro
theorem tw2384752701124857481:True:=.intro
theorem tw17297225129372750505:True:=.intro
theorem tw17604911111615426281:True:=.intro
theorem tw5013786546770820841:True:=.intro
theorem tw8200648110766617321:True:=.intro
theorem tw11177918646472701705:True:=.intro
theorem tw201011715572012873:True:=.intro
theorem tw11105110252303692649:True:=.intro
theorem tw12224191746418391913:True:=.intro
theorem tw7518660993040804745:True:=.intro
theorem tw9082117269345202057:True:=.intro
theorem tw399743860181262281:True:=.intro
theorem tw12735398277475354634:True:=.intro
theorem tw9870313763394447370:True:=.intro
theorem tw10122322369551036458:True:=.intro
theorem tw2525178344337429610:True:=.intro
theorem tw9712026798730835082:True:=.intro
theorem tw4701538633201128650:True:=.intro
theorem tw6323992495475461354:True:=.intro
theorem tw15213495654156299626:True:=.intro
theorem tw16231877936092864874:True:=.intro
theorem tw11607469035848427882:True:=.intro
theorem tw11995567938346661322:True:=.intro
theorem tw5872696723108598250:True:=.intro
theorem tw5367812811574683114:True:=.intro
theorem tw6170695832655034954:True:=.intro
theorem tw17718686605074286186:True:=.intro
theorem tw12909235984769993322:True:=.intro
theorem tw790332956200586890:True:=.intro
theorem tw10016384891639198346:True:=.intro
theorem tw5043820666414108362:True:=.intro
theorem tw6396070678374295242:True:=.intro
theorem tw17178222125509813962:True:=.intro
theorem tw3047481645795900106:True:=.intro
theorem tw13703352125553558250:True:=.intro
theorem tw565810102566341386:True:=.intro
theorem tw16908127250015185706:True:=.intro
theorem tw4210399345379500874:True:=.intro
theorem tw13109140008627377066:True:=.intro
theorem tw13132532549216739242:True:=.intro
theorem tw3304674878988516266:True:=.intro
theorem tw10804497481439412138:True:=.intro
theorem tw3581296273867663306:True:=.intro
theorem tw4149343859776215147:True:=.intro
theorem tw8136129507955200107:True:=.intro
theorem tw17801577958363038859:True:=.intro
theorem tw17680676637398362283:True:=.intro
theorem tw1278957720733089003:True:=.intro
theorem tw17147592496694392043:True:=.intro
theorem tw6991122060463225099:True:=.intro
theorem tw15427657025739998603:True:=.intro
theorem tw3498941546731809227:True:=.intro
theorem tw6409148993736086987:True:=.intro
theorem tw15100004823384135211:True:=.intro
theorem tw6490539263929002603:True:=.intro
theorem tw12377236487788839531:True:=.intro
theorem tw18104729697327237835:True:=.intro
theorem tw15910378326600153803:True:=.intro
theorem tw5099762250081954635:True:=.intro
theorem tw13959412485244025707:True:=.intro
theorem tw8534372251553886059:True:=.intro
theorem tw5973582702703532076:True:=.intro
theorem tw1739389169728066700:True:=.intro
theorem tw16164674178040620172:True:=.intro
theorem tw2032522183089684652:True:=.intro
theorem tw16672300509232998668:True:=.intro
theorem tw1521146783314825484:True:=.intro
theorem tw15469088556431457612:True:=.intro
theorem tw224759772145813932:True:=.intro
theorem tw8224326629121545772:True:=.intro
theorem tw2857101337765278284:True:=.intro
theorem tw6891186594147049100:True:=.intro
theorem tw14516188211051595468:True:=.intro
theorem tw3020389770026105548:True:=.intro
theorem tw13076878094910305036:True:=.intro
theorem tw12842599885593656076:True:=.intro
theorem tw7892164993556683596:True:=.intro
theorem tw543199235780421452:True:=.intro
theorem tw10686568625237317548:True:=.intro
theorem tw4998485900824729580:True:=.intro
theorem tw10090319707932945421:True:=.intro
theorem tw12584714216203403373:True:=.intro
theorem tw6490727601216422029:True:=.intro
theorem tw15523230451837009069:True:=.intro
theorem tw11072725007230892269:True:=.intro
theorem tw13867926246837066093:True:=.intro
theorem tw1221894570483925357:True:=.intro
theorem tw5285636632367486317:True:=.intro
theorem tw18017051371963228557:True:=.intro
theorem tw9221878342796420493:True:=.intro
theorem tw7179702816828630445:True:=.intro
theorem tw13406730689062363565:True:=.intro
theorem tw1708567185452614125:True:=.intro
theorem tw13085389525474141869:True:=.intro
theorem tw17732968675495989005:True:=.intro
theorem tw13172862410672604013:True:=.intro
theorem tw4239632536995223405:True:=.intro
theorem tw9931295903105366957:True:=.intro
theorem tw9058513766219837357:True:=.intro
theorem tw6721160059234209773:True:=.intro
theorem tw10722506224596878350:True:=.intro
theorem tw161928247799279790:True:=.intro
theorem tw149542915096822030:True:=.intro
theorem tw10743089757808482606:True:=.intro
theorem tw5730280547027002766:True:=.intro
theorem tw11224683014162923918:True:=.intro
theorem tw12238216366031018638:True:=.intro
theorem tw10018878333024320238:True:=.intro
theorem tw13604670502967873294:True:=.intro
theorem tw3481811584680848142:True:=.intro
theorem tw14988334799837639502:True:=.intro
theorem tw10680348149274025870:True:=.intro
theorem tw13259853474105267118:True:=.intro
theorem tw12970956253475710991:True:=.intro
theorem tw10701204280720111663:True:=.intro
theorem tw4677782844296160335:True:=.intro
theorem tw6283574697297000591:True:=.intro
theorem tw11058346919571194063:True:=.intro
theorem tw7779537851760662767:True:=.intro
theorem tw17747776763619610927:True:=.intro
theorem tw1381181574339815727:True:=.intro
theorem tw1478899648895528303:True:=.intro
theorem tw159895411091455631:True:=.intro
theorem tw14287994274425909935:True:=.intro
theorem tw5657219393622717103:True:=.intro
theorem tw13812961902212677295:True:=.intro
theorem tw7196534920921756399:True:=.intro
theorem tw4998283952638591759:True:=.intro
theorem tw7210842200465424143:True:=.intro
theorem tw5836927455856876303:True:=.intro
theorem tw12568506670125574991:True:=.intro
theorem tw17466486972585590639:True:=.intro
theorem tw2530894953812181871:True:=.intro
theorem tw15253873468682367855:True:=.intro
theorem tw3718798834970462159:True:=.intro
theorem tw3431533990067354575:True:=.intro
theorem tw12653062116300942287:True:=.intro
theorem tw16112315037379579887:True:=.intro
theorem tw10884018171012560879:True:=.intro
theorem tw15976979469799328816:True:=.intro
theorem tw14247778405201238160:True:=.intro
theorem tw4531764058210931984:True:=.intro
theorem tw16763996090633133392:True:=.intro
theorem tw16662073384637666672:True:=.intro
theorem tw11247534428513013168:True:=.intro
theorem tw340287791674016208:True:=.intro
theorem tw6929709644656988624:True:=.intro
theorem tw2562246649531197936:True:=.intro
theorem tw11964632157647912560:True:=.intro
theorem tw5532963084021721744:True:=.intro
theorem tw339439739365108400:True:=.intro
theorem tw5535460444326181552:True:=.intro
theorem tw9086229349934718704:True:=.intro
theorem tw1585926546661487568:True:=.intro
theorem tw12797644618992163953:True:=.intro
theorem tw1681620101202557041:True:=.intro
theorem tw8199172381217805521:True:=.intro
theorem tw2016118207296379089:True:=.intro
theorem tw12250148464430220753:True:=.intro
theorem tw7800586568021627377:True:=.intro
theorem tw17264707566558205425:True:=.intro
theorem tw13352895083125421713:True:=.intro
theorem tw5229846096572245649:True:=.intro
theorem tw6832434033012904657:True:=.intro
theorem tw10271554665863236401:True:=.intro
theorem tw10293896423254839121:True:=.intro
theorem tw15144895073902207921:True:=.intro
theorem tw4805407980162826193:True:=.intro
theorem tw5428699294892849170:True:=.intro
theorem tw7370399076728180786:True:=.intro
theorem tw13921916370701529202:True:=.intro
theorem tw9511127724722336882:True:=.intro
theorem tw5983514983968908530:True:=.intro
theorem tw10977164543442828626:True:=.intro
theorem tw2267229381969503602:True:=.intro
theorem tw3414194692286459282:True:=.intro
theorem tw1306768348806254994:True:=.intro
theorem tw5972864262727857586:True:=.intro
theorem tw11387881815625772498:True:=.intro
theorem tw3112998750244679250:True:=.intro
theorem tw10774533740281396818:True:=.intro
theorem tw3550090353401622130:True:=.intro
theorem tw1925048263341825682:True:=.intro
theorem tw10881376463008548530:True:=.intro
theorem tw2103011070894635698:True:=.intro
theorem tw10329795758701340402:True:=.intro
theorem tw2477414223321165778:True:=.intro
theorem tw5639025628689127410:True:=.intro
theorem tw56943293322738739:True:=.intro
theorem tw7582766897393727603:True:=.intro
theorem tw12832282186193724563:True:=.intro
theorem tw10460508251219453235:True:=.intro
theorem tw5035521551944138035:True:=.intro
theorem tw17506188336399978835:True:=.intro
theorem tw18171831500740624755:True:=.intro
theorem tw5879909581708362163:True:=.intro
theorem tw12167485383634797011:True:=.intro
theorem tw3570568563312362035:True:=.intro
theorem tw11058706128291992115:True:=.intro
theorem tw10041150615155055219:True:=.intro
theorem tw17440350738262903475:True:=.intro
theorem tw548303328384333523:True:=.intro
theorem tw16176036636728821555:True:=.intro
theorem tw6279418570107358003:True:=.intro
theorem tw2820251011686852403:True:=.intro
theorem tw2042500635872585523:True:=.intro
theorem tw12321280665186136915:True:=.intro
theorem tw16321175406940744691:True:=.intro
theorem tw441118408757036052:True:=.intro
theorem tw15165144369346289684:True:=.intro
theorem tw4086748449945273428:True:=.intro
theorem tw7039675134695833716:True:=.intro
theorem tw15997418718368423156:True:=.intro
theorem tw15536816928864536852:True:=.intro
theorem tw13471735718552832276:True:=.intro
theorem tw4550940943128843668:True:=.intro
theorem tw12147077261988571604:True:=.intro
theorem tw2055884139199109620:True:=.intro
theorem tw16547538321664661012:True:=.intro
theorem tw1831578337855404564:True:=.intro
theorem tw11840413917602614836:True:=.intro
theorem tw7901888179826684468:True:=.intro
theorem tw9034237952258966100:True:=.intro
theorem tw6344169474652861044:True:=.intro
theorem tw11143946227413448340:True:=.intro
theorem tw15422374315595606708:True:=.intro
theorem tw532043228193879860:True:=.intro
theorem tw13393938572941880244:True:=.intro
theorem tw573629759242445812:True:=.intro
theorem tw11465855013669745685:True:=.intro
theorem tw5951557913239190741:True:=.intro
theorem tw6180477093273519349:True:=.intro
theorem tw8422093496924618005:True:=.intro
theorem tw8471989324575017301:True:=.intro
theorem tw4842105146703966645:True:=.intro
theorem tw1502432222240063925:True:=.intro
theorem tw505741230321959381:True:=.intro
theorem tw667860551654660565:True:=.intro
theorem tw12754126749700474389:True:=.intro
theorem tw17515674153203118741:True:=.intro
theorem tw16376102360206130933:True:=.intro
theorem tw13595069330625540853:True:=.intro
theorem tw10577383251751098486:True:=.intro
theorem tw11953146049934188662:True:=.intro
theorem tw6261754914813580470:True:=.intro
theorem tw4197661736984373526:True:=.intro
theorem tw7881521561298571574:True:=.intro
theorem tw14097667464338454838:True:=.intro
theorem tw77216775398095190:True:=.intro
theorem tw14123835165303128438:True:=.intro
theorem tw3843339400907744662:True:=.intro
theorem tw706441580833470934:True:=.intro
theorem tw1486834293082490358:True:=.intro
theorem tw3071027798953385494:True:=.intro
theorem tw17523558175278662198:True:=.intro
theorem tw4226924801804065334:True:=.intro
theorem tw3681528339094364726:True:=.intro
theorem tw13021907906371054230:True:=.intro
theorem tw9959367037328386710:True:=.intro
theorem tw13923119320509097846:True:=.intro
theorem tw14583867811576227766:True:=.intro
theorem tw7189214550387644342:True:=.intro
theorem tw1023622652600038358:True:=.intro
theorem tw14534492294677809207:True:=.intro
theorem tw17317035964428482647:True:=.intro
theorem tw16356330151645131895:True:=.intro
theorem tw13394310292003358871:True:=.intro
theorem tw14394648750809319735:True:=.intro
theorem tw5332373671982106999:True:=.intro
theorem tw14577719066755928599:True:=.intro
theorem tw2122301087745197623:True:=.intro
theorem tw15511751679529640503:True:=.intro
theorem tw5464872516719934039:True:=.intro
theorem tw17031013767853125239:True:=.intro
theorem tw6569360454284898071:True:=.intro
theorem tw2455912474657828663:True:=.intro
theorem tw2974339329264460631:True:=.intro
theorem tw1450207965108010871:True:=.intro
theorem tw18063304222836126583:True:=.intro
theorem tw2405729362591067063:True:=.intro
theorem tw9603875366916030552:True:=.intro
theorem tw16135797997603771512:True:=.intro
theorem tw12942858662750171288:True:=.intro
theorem tw8857486647286243544:True:=.intro
theorem tw6890418338902550808:True:=.intro
theorem tw9596455272308358424:True:=.intro
theorem tw7149329692508268856:True:=.intro
theorem tw3440715169530386808:True:=.intro
theorem tw9572129635258686872:True:=.intro
theorem tw393821557200320984:True:=.intro
theorem tw17889450031132703256:True:=.intro
theorem tw6389967476551967288:True:=.intro
theorem tw122856361188697784:True:=.intro
theorem tw15454376086535035608:True:=.intro
theorem tw6859886347685133048:True:=.intro
theorem tw16321186189935331128:True:=.intro
theorem tw10285085277116365656:True:=.intro
theorem tw10350267111837650776:True:=.intro
theorem tw11493936376534571896:True:=.intro
theorem tw12462394852867112856:True:=.intro
theorem tw6058681721759526840:True:=.intro
theorem tw1831192042702629880:True:=.intro
theorem tw16158203182360828920:True:=.intro
theorem tw15508895627520575545:True:=.intro
theorem tw2415695212331514937:True:=.intro
theorem tw9275198957097733209:True:=.intro
theorem tw15448187419620777113:True:=.intro
theorem tw8806558167251886329:True:=.intro
theorem tw9936430430889974073:True:=.intro
theorem tw14027822746978025881:True:=.intro
theorem tw12971524072292830713:True:=.intro
theorem tw11628151775544590905:True:=.intro
theorem tw10578263946580377177:True:=.intro
theorem tw8218306630154672729:True:=.intro
theorem tw16663763364551806553:True:=.intro
theorem tw13180813236760964857:True:=.intro
theorem tw9480065987538301753:True:=.intro
theorem tw3342996896173331289:True:=.intro
theorem tw6136866800292355993:True:=.intro
theorem tw10001700447072673689:True:=.intro
theorem tw10355467868789658553:True:=.intro
theorem tw5147436044321699801:True:=.intro
theorem tw3160329175220042842:True:=.intro
theorem tw9490393468850650202:True:=.intro
theorem tw11316203310182056026:True:=.intro
theorem tw9504477703680737370:True:=.intro
theorem tw9620310151883536538:True:=.intro
theorem tw4708431726258972858:True:=.intro
theorem tw14115559465151471802:True:=.intro
theorem tw5414888048236609786:True:=.intro
theorem tw10750550147114323290:True:=.intro
theorem tw12987701914877787482:True:=.intro
theorem tw5749849992130641338:True:=.intro
theorem tw5864850530071216634:True:=.intro
theorem tw4696787717704651258:True:=.intro
theorem tw10219543840629650010:True:=.intro
theorem tw2409686551839482554:True:=.intro
theorem tw9037214971439284954:True:=.intro
theorem tw9245492480218965722:True:=.intro
theorem tw18064963657525665530:True:=.intro
theorem tw9582231507319066362:True:=.intro
theorem tw1806102318866006842:True:=.intro
theorem tw3848972778016526234:True:=.intro
theorem tw14892996095896647578:True:=.intro
theorem tw12314917335457740827:True:=.intro
theorem tw14266742688276385883:True:=.intro
theorem tw5742647463951937659:True:=.intro
theorem tw17447538770691428475:True:=.intro
theorem tw10187024399185621147:True:=.intro
theorem tw10312696937270645019:True:=.intro
theorem tw11199137320501418267:True:=.intro
theorem tw13668977073624413499:True:=.intro
theorem tw10017667493268798907:True:=.intro
theorem tw564057661750328827:True:=.intro
theorem tw13247912602808818299:True:=.intro
theorem tw14663168103609826939:True:=.intro
theorem tw4557119323470492315:True:=.intro
theorem tw7848821094004670139:True:=.intro
theorem tw3545815154757294811:True:=.intro
theorem tw17092994907357310779:True:=.intro
theorem tw1453943491037870971:True:=.intro
theorem tw891255203282654171:True:=.intro
theorem tw1359365037804795932:True:=.intro
theorem tw8303455402238727292:True:=.intro
theorem tw144956182349871228:True:=.intro
theorem tw2270235079752462620:True:=.intro
theorem tw15208692593440750908:True:=.intro
theorem tw9180334134227078492:True:=.intro
theorem tw14648976602959576444:True:=.intro
theorem tw9486351243099453884:True:=.intro
theorem tw4938929870366558716:True:=.intro
theorem tw4722994208770746972:True:=.intro
theorem tw10943299318805252732:True:=.intro
theorem tw17002987512288852732:True:=.intro
theorem tw8223943264126664476:True:=.intro
theorem tw14566228626664079164:True:=.intro
theorem tw12051027889759205212:True:=.intro
theorem tw10754480437200140124:True:=.intro
theorem tw5788682650958455708:True:=.intro
theorem tw11223615925741798396:True:=.intro
theorem tw10865197223368011772:True:=.intro
theorem tw9110033876116217917:True:=.intro
theorem tw16751014972990409789:True:=.intro
theorem tw1454316119566704701:True:=.intro
theorem tw15036488814192285853:True:=.intro
theorem tw1582953440994814301:True:=.intro
theorem tw1646978571401196893:True:=.intro
theorem tw5668332863355894173:True:=.intro
theorem tw15805941640776108509:True:=.intro
theorem tw6585538865945863709:True:=.intro
theorem tw2458696786061132349:True:=.intro
theorem tw10534788110835434077:True:=.intro
theorem tw15651348496954184317:True:=.intro
theorem tw13311689595532135037:True:=.intro
theorem tw6537162745153031901:True:=.intro
theorem tw12067242481924737757:True:=.intro
theorem tw1730388351915441885:True:=.intro
theorem tw9595575358391661373:True:=.intro
theorem tw13497628642739274589:True:=.intro
theorem tw16508342128077544349:True:=.intro
theorem tw9223865777567476701:True:=.intro
theorem tw16343365112604930013:True:=.intro
theorem tw9914533922709336029:True:=.intro
theorem tw18009995190908323902:True:=.intro
theorem tw2615649954754434110:True:=.intro
theorem tw14808039169341563006:True:=.intro
theorem tw4464750409207612606:True:=.intro
theorem tw4915319210489314494:True:=.intro
theorem tw8490880919232905470:True:=.intro
theorem tw7861856140320570654:True:=.intro
theorem tw3380958399791043934:True:=.intro
theorem tw10640387368658356574:True:=.intro
theorem tw13005597539533884798:True:=.intro
theorem tw18362963198995536254:True:=.intro
theorem tw16015936420666326558:True:=.intro
theorem tw7786338103619366462:True:=.intro
theorem tw9729457564303938174:True:=.intro
theorem tw2542922269946864286:True:=.intro
theorem tw15518885265184192286:True:=.intro
theorem tw16185347178167099230:True:=.intro
theorem tw3757323702696582014:True:=.intro
theorem tw5878802642070616958:True:=.intro
theorem tw12018975056203159454:True:=.intro
theorem tw17600715451278801822:True:=.intro
theorem tw8179567918675576766:True:=.intro
theorem tw1688482153120926718:True:=.intro
theorem tw17420333640585394174:True:=.intro
theorem tw16129404466584534014:True:=.intro
theorem tw14058251029323440223:True:=.intro
theorem tw1243033577473781855:True:=.intro
theorem tw3794833318314255487:True:=.intro
theorem tw12305380085733536927:True:=.intro
theorem tw15804669253096832223:True:=.intro
theorem tw14048188302841080063:True:=.intro
theorem tw10777041433841289471:True:=.intro
theorem tw2488512505131867455:True:=.intro
theorem tw5662424443722324351:True:=.intro
theorem tw1456702803002894751:True:=.intro
theorem tw13627637890641558943:True:=.intro
theorem tw7063829474389404095:True:=.intro
theorem tw6932453002470110687:True:=.intro
theorem tw15314129728666930719:True:=.intro
theorem tw7131621332275207711:True:=.intro
theorem tw10646062887298121247:True:=.intro
theorem tw7731538861145520671:True:=.intro
theorem tw11886077416680443455:True:=.intro
theorem tw4691344359580274271:True:=.intro
theorem tw10878615329311300191:True:=.intro
theorem tw3574081209723085439:True:=.intro
theorem tw14845883321687724671:True:=.intro
theorem tw18367867493324573439:True:=.intro
theorem tw9969541735201355519:True:=.intro
theorem tw7089808858941638527:True:=.intro
theorem tw3655603894909107071:True:=.intro
theorem tw10280620599523573663:True:=.intro
theorem tw2371031699909566431:True:=.intro
theorem tw1416841429909567455:True:=.intro
end PySem.W.Fast
open PySem PySem.W PyProof.Rows
set_option maxRecDepth 100000 in
set_option maxHeartbeats 0 in
theorem PySem.Challenge.cw_deeprests_k92_whole_roots_by_text_holds : PySem.Challenge.rw_deeprests_k92_whole_roots_by_text.Holds := by
  w_on; o_law; k_head; (case hw => w_witness2)
  k_fill
  refine L2.walk_law (l := PySem.Challenge.rw_deeprests_k92_whole_roots_by_text) (k := 70) (CX := fun _ => L2.CX0) rfl rfl ⟨rfl, by decide, by decide⟩ (fun w h Y => PySem.W.kIn_of Y) (fun _ _ _ _ _ z => z) ?F
  case F =>
    intro w mg fa h KX G hmg
    refine' K92.all_mk KX G hmg ?a1 ?l1 ?c1 ?k1 ?a2 ?l2 ?c2 ?k2 ?a3 ?l3 ?c3 ?k3 ?a4 ?l4 ?c4 ?k4 ?a5 ?l5 ?c5 ?k5 ?a6 ?l6 ?c6 ?k6 ?a7 ?l7 ?c7 ?k7 ?a8 ?l8 ?c8 ?k8 ?a9 ?l9 ?c9 ?k9 ?a10 ?l10 ?c10 ?k10 ?a11 ?l11 ?c11 ?k11 ?a12 ?l12 ?c12 ?k12 ?a13 ?l13 ?c13 ?k13 ?a14 ?l14 ?c14 ?k14 ?a15 ?l15 ?c15 ?k15 ?a16 ?l16 ?c16 ?k16 ?a17 ?l17 ?c17 ?k17 ?a18 ?l18 ?c18 ?k18 ?a19 ?l19 ?c19 ?k19 ?a20 ?l20 ?c20 ?k20 ?a21 ?l21 ?c21 ?k21 ?a22 ?l22 ?c22 ?k22 ?a23 ?l23 ?c23 ?k23 ?a24 ?l24 ?c24 ?k24 ?a25 ?l25 ?c25 ?k25 ?a26 ?l26 ?c26 ?k26 ?a27 ?l27 ?c27 ?k27 ?a28 ?l28 ?c28 ?k28 ?a29 ?l29 ?c29 ?k29 ?a30 ?l30 ?c30 ?k30 ?a31 ?l31 ?c31 ?k31 ?a32 ?l32 ?c32 ?k32 ?l33 ?c33 ?k33 ?n33 ?l34 ?c34 ?k34 ?n34 ?l35 ?c35 ?k35 ?n35 ?l36 ?c36 ?k36 ?n36 ?l37 ?c37 ?k37 ?n37 ?a38 ?l38 ?c38 ?k38 ?a39 ?l39 ?c39 ?k39 ?a40 ?l40 ?c40 ?k40 ?a41 ?l41 ?c41 ?k41 ?a42 ?l42 ?c42 ?k42 ?a43 ?l43 ?c43 ?k43 ?a44 ?l44 ?c44 ?k44 ?a45 ?l45 ?c45 ?k45 ?a46 ?l46 ?c46 ?k46 ?a47 ?l47 ?c47 ?k47 ?z_abs ?z_all ?z_bool ?z_enumerate ?z_int ?z_isinstance ?z_len ?z_list ?z_max ?z_min ?z_range ?z_reversed ?z_sorted ?z_str ?z_sum ?z_zip ?z_FIGURES ?z_GREATEST_DEPTH ?z_GREATEST_PRIME ?z_LETTERS ?z_MOST_FIGURES ?z_MOST_LETTERS ?z_MOST_NUMBERS ?kd_WANTED ?gd_WANTED ?kd_MADE ?gd_MADE ?kd_TOLD ?gd_TOLD ?tu_420 ?tu_422 ?tu_429 ?tu_430 ?tu_431 ?fa_made_poly ?fa_made_seen ?fa_told_single ?fa_told_root ?fa_told_roots ?z_Desk ?z_NoDepth ?z_NoInverse ?z_NoName ?z_NoParts ?z_NoPrime ?z_NoRow ?z_NoSingle ?z_NoSmall ?z_NoText ?z_TooDeep ?z_TooGreat ?x_NoDepth ?x_NoSingle ?x_TooDeep ?cl_Desk ?mk_Desk ?kc_Desk ?na_prime ?na_kept ?a33 ?a34 ?a35 ?a36 ?a37
    (case a1 => k_is)
    (case l1 => k_is)
    (case c1 => k_is)
    (case k1 => k_is)
    (case a2 => k_is)
    (case l2 => k_is)
    (case c2 => k_is)
    (case k2 => k_is)
    (case a3 => k_is)
    (case l3 => k_is)
    (case c3 => k_is)
    (case k3 => k_is)
    (case a4 => k_is)
    (case l4 => k_is)
    (case c4 => k_is)
    (case k4 => k_is)
    (case a5 => k_is)
    (case l5 => k_is)
    (case c5 => k_is)
    (case k5 => k_is)
    (case a6 => k_is)
    (case l6 => k_is)
    (case c6 => k_is)
    (case k6 => k_is)
    (case a7 => k_is)
    (case l7 => k_is)
    (case c7 => k_is)
    (case k7 => k_is)
    (case a8 => k_is)
    (case l8 => k_is)
    (case c8 => k_is)
    (case k8 => k_is)
    (case a9 => k_is)
    (case l9 => k_is)
    (case c9 => k_is)
    (case k9 => k_is)
    (case a10 => k_is)
    (case l10 => k_is)
    (case c10 => k_is)
    (case k10 => k_is)
    (case a11 => k_is)
    (case l11 => k_is)
    (case c11 => k_is)
    (case k11 => k_is)
    (case a12 => k_is)
    (case l12 => k_is)
    (case c12 => k_is)
    (case k12 => k_is)
    (case a13 => k_is)
    (case l13 => k_is)
    (case c13 => k_is)
    (case k13 => k_is)
    (case a14 => k_is)
    (case l14 => k_is)
    (case c14 => k_is)
    (case k14 => k_is)
    (case a15 => k_is)
    (case l15 => k_is)
    (case c15 => k_is)
    (case k15 => k_is)
    (case a16 => k_is)
    (case l16 => k_is)
    (case c16 => k_is)
    (case k16 => k_is)
    (case a17 => k_is)
    (case l17 => k_is)
    (case c17 => k_is)
    (case k17 => k_is)
    (case a18 => k_is)
    (case l18 => k_is)
    (case c18 => k_is)
    (case k18 => k_is)
    (case a19 => k_is)
    (case l19 => k_is)
    (case c19 => k_is)
    (case k19 => k_is)
    (case a20 => k_is)
    (case l20 => k_is)
    (case c20 => k_is)
    (case k20 => k_is)
    (case a21 => k_is)
    (case l21 => k_is)
    (case c21 => k_is)
    (case k21 => k_is)
    (case a22 => k_is)
    (case l22 => k_is)
    (case c22 => k_is)
    (case k22 => k_is)
    (case a23 => k_is)
    (case l23 => k_is)
    (case c23 => k_is)
    (case k23 => k_is)
    (case a24 => k_is)
    (case l24 => k_is)
    (case c24 => k_is)
    (case k24 => k_is)
    (case a25 => k_is)
    (case l25 => k_is)
    (case c25 => k_is)
    (case k25 => k_is)
    (case a26 => k_is)
    (case l26 => k_is)
    (case c26 => k_is)
    (case k26 => k_is)
    (case a27 => k_is)
    (case l27 => k_is)
    (case c27 => k_is)
    (case k27 => k_is)
    (case a28 => k_is)
    (case l28 => k_is)
    (case c28 => k_is)
    (case k28 => k_is)
    (case a29 => k_is)
    (case l29 => k_is)
    (case c29 => k_is)
    (case k29 => k_is)
    (case a30 => k_is)
    (case l30 => k_is)
    (case c30 => k_is)
    (case k30 => k_is)
    (case a31 => k_is)
    (case l31 => k_is)
    (case c31 => k_is)
    (case k31 => k_is)
    (case a32 => k_is)
    (case l32 => k_is)
    (case c32 => k_is)
    (case k32 => k_is)
    (case a38 => k_is)
    (case l38 => k_is)
    (case c38 => k_is)
    (case k38 => k_is)
    (case a39 => k_is)
    (case l39 => k_is)
    (case c39 => k_is)
    (case k39 => k_is)
    (case a40 => k_is)
    (case l40 => k_is)
    (case c40 => k_is)
    (case k40 => k_is)
    (case a41 => k_is)
    (case l41 => k_is)
    (case c41 => k_is)
    (case k41 => k_is)
    (case a42 => k_is)
    (case l42 => k_is)
    (case c42 => k_is)
    (case k42 => k_is)
    (case a43 => k_is)
    (case l43 => k_is)
    (case c43 => k_is)
    (case k43 => k_is)
    (case a44 => k_is)
    (case l44 => k_is)
    (case c44 => k_is)
    (case k44 => k_is)
    (case a45 => k_is)
    (case l45 => k_is)
    (case c45 => k_is)
    (case k45 => k_is)
    (case a46 => k_is)
    (case l46 => k_is)
    (case c46 => k_is)
    (case k46 => k_is)
    (case a47 => k_is)
    (case l47 => k_is)
    (case c47 => k_is)
    (case k47 => k_is)
    (case z_abs => k_is)
    (case z_all => kernel_rfl)
    (case z_bool => k_is)
    (case z_enumerate => k_is)
    (case z_int => k_is)
    (case z_isinstance => k_is)
    (case z_len => k_is)
    (case z_list => k_is)
    (case z_max => k_is)
    (case z_min => k_is)
    (case z_range => k_is)
    (case z_reversed => k_is)
    (case z_sorted => k_is)
    (case z_str => k_is)
    (case z_sum => k_is)
    (case z_zip => k_is)
    (case z_FIGURES => k_is)
    (case z_GREATEST_DEPTH => k_is)
    (case z_GREATEST_PRIME => k_is)
    (case z_LETTERS => k_is)
    (case z_MOST_FIGURES => k_is)
    (case z_MOST_LETTERS => k_is)
    (case z_MOST_NUMBERS => k_is)
    (case z_Desk => k_is)
    (case z_NoDepth => k_is)
    (case z_NoInverse => k_is)
    (case z_NoName => k_is)
    (case z_NoParts => k_is)
    (case z_NoPrime => k_is)
    (case z_NoRow => k_is)
    (case z_NoSingle => k_is)
    (case z_NoSmall => k_is)
    (case z_NoText => k_is)
    (case z_TooDeep => k_is)
    (case z_TooGreat => k_is)
    (case x_NoDepth => show PySem.W.excIn _ _ _ _ = true; kernel_rfl)
    (case x_NoSingle => show PySem.W.excIn _ _ _ _ = true; kernel_rfl)
    (case x_TooDeep => show PySem.W.excIn _ _ _ _ = true; kernel_rfl)
    (case kd_WANTED => exact ⟨⟨_, by k_is⟩, by decide, by decide⟩)
    (case gd_WANTED => k_is)
    (case kd_MADE => exact ⟨⟨_, by k_is⟩, by decide, by decide⟩)
    (case gd_MADE => k_is)
    (case kd_TOLD => exact ⟨⟨_, by k_is⟩, by decide, by decide⟩)
    (case gd_TOLD => k_is)
    (case tu_420 => exact ⟨_, _, _, by k_is, rfl, rfl, by decide, .cons ⟨_, rfl⟩ (.cons ⟨_, rfl⟩ (.nil))⟩)
    (case tu_422 => exact ⟨_, _, _, by k_is, rfl, rfl, by decide, .cons ⟨_, rfl⟩ (.cons ⟨_, rfl⟩ (.cons ⟨_, rfl⟩ (.cons ⟨_, rfl⟩ (.nil))))⟩)
    (case tu_429 => exact ⟨_, _, _, by k_is, rfl, rfl, by decide, .cons ⟨_, rfl⟩ (.cons ⟨_, rfl⟩ (.nil))⟩)
    (case tu_430 => exact ⟨_, _, _, by k_is, rfl, rfl, by decide, .cons ⟨_, rfl⟩ (.cons ⟨_, rfl⟩ (.cons ⟨_, rfl⟩ (.nil)))⟩)
    (case tu_431 => exact ⟨_, _, _, by k_is, rfl, rfl, by decide, .cons ⟨_, rfl⟩ (.cons ⟨_, rfl⟩ (.nil))⟩)
    (case fa_made_poly => k_is)
    (case fa_made_seen => k_is)
    (case fa_told_single => k_is)
    (case fa_told_root => k_is)
    (case fa_told_roots => k_is)
    (case cl_Desk => exact ⟨by kernel_rfl, by kernel_rfl, by kernel_rfl, by k_is⟩)
    (case mk_Desk => kernel_rfl)
    (case kc_Desk => k_is)
    (case na_prime => show PySem.W.findIn _ _ _ = some none; kernel_rfl)
    (case na_kept => show PySem.W.findIn _ _ _ = some none; kernel_rfl)
    (case a33 => k_is)
    (case l33 => k_is)
    (case c33 => k_is)
    (case k33 => k_is)
    (case n33 => kernel_rfl)
    (case a34 => k_is)
    (case l34 => k_is)
    (case c34 => k_is)
    (case k34 => k_is)
    (case n34 => kernel_rfl)
    (case a35 => k_is)
    (case l35 => k_is)
    (case c35 => k_is)
    (case k35 => k_is)
    (case n35 => kernel_rfl)
    (case a36 => k_is)
    (case l36 => k_is)
    (case c36 => k_is)
    (case k36 => k_is)
    (case n36 => kernel_rfl)
    (case a37 => k_is)
    (case l37 => k_is)
    (case c37 => k_is)
    (case k37 => k_is)
    (case n37 => kernel_rfl)