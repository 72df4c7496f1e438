import PyProof.Rows.All
import Wide.All
import OpenK.AllK
import Wide.FinOn
import Lean
import PyProof.EqAt
import PyProof.EqKinds
import PyProof.TupleCall
import PySem.Challenge.RW_deeprests_k93_whole_parts_by_text
set_option Elab.async false
set_option linter.all false
set_option maxRecDepth 100000
set_option compiler.extract_closed false
namespace L2
open PySem PySem.Spec PyProof.Rows
abbrev Key := Sum Int Str
def keyIs : Key → Value → Bool
  | .inl k, v => Value.isInt k v
  | .inr x, v => Value.isStrOf x v
def keyH (w : World) : Key → Int
  | .inl k => hashInt k
  | .inr x => hashStr w x
theorem keyIs_shape : ∀ {k : Key} {v : Value}, keyIs k v = true → (∃ i t, k = Sum.inl i ∧ v = Value.int i t) ∨ (∃ x t, k = Sum.inr x ∧ v = Value.str x t)
  | .inl i, v, h => by
    obtain ⟨t, e⟩ := Value.isInt_shape (k := i) (v := v) h
    exact .inl ⟨i, t, rfl, e⟩
  | .inr x, v, h => by
    obtain ⟨t, e⟩ := Value.isStrOf_shape (x := x) (v := v) h
    exact .inr ⟨x, t, rfl, e⟩
theorem keyIs_int (i : Int) (t : Tok) : keyIs (.inl i) (.int i t) = true := by simp [keyIs, Value.isInt]
theorem keyIs_str (x : Str) (t : Tok) : keyIs (.inr x) (.str x t) = true := by simp [keyIs, Value.isStrOf]
theorem key_ll (a b : Int) : decide ((Sum.inl a : Key) = Sum.inl b) = (a == b) := by
  by_cases e : a = b
  · subst e; simp
  · have h : ¬ (Sum.inl a : Key) = Sum.inl b := fun q => e (Sum.inl.inj q)
    rw [decide_eq_false h]
    exact (beq_eq_false_iff_ne.mpr e).symm
theorem key_rr (a b : Str) : decide ((Sum.inr a : Key) = Sum.inr b) = decide (a = b) := by
  by_cases e : a = b
  · subst e; simp
  · have h : ¬ (Sum.inr a : Key) = Sum.inr b := fun q => e (Sum.inr.inj q)
    rw [decide_eq_false h, decide_eq_false e]
theorem key_lr (a : Int) (b : Str) : decide ((Sum.inl a : Key) = Sum.inr b) = false := decide_eq_false (fun q => nomatch q)
theorem key_rl (a : Str) (b : Int) : decide ((Sum.inr a : Key) = Sum.inl b) = false := decide_eq_false (fun q => nomatch q)
def mixKind (prog : Program) (w : World) : PySem.KeyKind prog w Key where
  is := keyIs
  hash := keyH w
  inj := fun v a b ha hb => by
    rcases keyIs_shape ha with ⟨i, t, rfl, rfl⟩ | ⟨x, t, rfl, rfl⟩
    · rcases keyIs_shape hb with ⟨j, u, rfl, e⟩ | ⟨y, u, rfl, e⟩
      · injection e with e1 _; rw [e1]
      · exact nomatch e
    · rcases keyIs_shape hb with ⟨j, u, rfl, e⟩ | ⟨y, u, rfl, e⟩
      · exact nomatch e
      · injection e with e1 _; rw [e1]
  byValue := fun k v h => by
    rcases keyIs_shape h with ⟨i, t, rfl, rfl⟩ | ⟨x, t, rfl, rfl⟩ <;> rfl
  pyHash := fun hv h => by
    rcases keyIs_shape hv with ⟨i, t, rfl, rfl⟩ | ⟨x, t, rfl, rfl⟩
    · exact wpAny_pyHash_int h
    · exact wpAny_pyHash_str h
  eqBool := fun hu hv h => by
    rcases keyIs_shape hu with ⟨i, t, rfl, rfl⟩ | ⟨x, t, rfl, rfl⟩
    · rcases keyIs_shape hv with ⟨j, u, rfl, rfl⟩ | ⟨y, u, rfl, rfl⟩
      · rw [key_ll] at h; exact wpAny_eqBool_int h
      · rw [key_lr] at h; exact SeqAt.EqAt.int_str i t y u _ _ _ _ h
    · rcases keyIs_shape hv with ⟨j, u, rfl, rfl⟩ | ⟨y, u, rfl, rfl⟩
      · rw [key_rl] at h; exact SeqAt.EqAt.str_int x t j u _ _ _ _ h
      · rw [key_rr] at h; exact wpAny_eqBool_str h
  «strs» := fun k x t v h => by
    rcases keyIs_shape h with ⟨i, u, rfl, e⟩ | ⟨y, u, rfl, e⟩
    · exact nomatch e
    · injection e with e1 _
      subst e1
      cases v <;> rfl
theorem mixKind_int (prog : Program) (w : World) (i : Int) (t : Tok) : (mixKind prog w).is (.inl i) (.int i t) = true := keyIs_int i t
theorem mixKind_str (prog : Program) (w : World) (x : Str) (t : Tok) : (mixKind prog w).is (.inr x) (.str x t) = true := keyIs_str x t
end L2
namespace L2
open PySem PySem.Spec PyProof.Rows
inductive V where
  | non | bl (b : Bool) | int (i : Int) | str (x : Str) | byt (b : Array UInt8) | flt (b : UInt64) | ref (a : Addr) | ty (n : String)
  deriving DecidableEq
def RelV : V → Value → Prop
  | .non, u => u = Value.none
  | .bl b, u => u = Value.bool b
  | .int i, u => ∃ t, u = Value.int i t
  | .str x, u => ∃ t, u = Value.str x t
  | .byt b, u => ∃ t, u = Value.bytes b t
  | .flt b, u => ∃ t, u = Value.float b t
  | .ref a, u => u = Value.ref a
  | .ty n, u => u = Value.type n
abbrev Vals : List V → List Value → Prop := Paired RelV
theorem Vals.length {xs : List V} {us : List Value} (r : Vals xs us) : xs.length = us.length := Paired.length r
theorem Vals.get : ∀ {xs : List V} {us : List Value} {i : Nat} {x : V}, Vals xs us → xs[i]? = some x → ∃ u, us[i]? = some u ∧ RelV x u
  | _, _, _, _, .nil, e => by simp at e
  | _, _, 0, _, .cons r _, e => by simp at e; subst e; exact ⟨_, rfl, r⟩
  | _, _, i + 1, x, .cons _ t, e => by
    obtain ⟨u, h1, h2⟩ := Vals.get (i := i) (x := x) t (by simpa using e)
    exact ⟨u, by simpa using h1, h2⟩
theorem Vals.set {x : V} {u : Value} (r : RelV x u) : ∀ {xs : List V} {us : List Value} (i : Nat), Vals xs us → Vals (xs.set i x) (us.set i u)
  | _, _, _, .nil => .nil
  | _, _, 0, .cons _ t => .cons r t
  | _, _, i + 1, .cons q t => .cons q (Vals.set r i t)
theorem Vals.append : ∀ {xs ys : List V} {us ws : List Value}, Vals xs us → Vals ys ws → Vals (xs ++ ys) (us ++ ws)
  | _, _, _, _, .nil, s => s
  | _, _, _, _, .cons r t, s => .cons r (Vals.append t s)
theorem Vals.take : ∀ {xs : List V} {us : List Value} (n : Nat), Vals xs us → Vals (xs.take n) (us.take n)
  | _, _, 0, _ => .nil
  | _, _, _ + 1, .nil => .nil
  | _, _, n + 1, .cons r t => .cons r (Vals.take n t)
theorem Vals.drop : ∀ {xs : List V} {us : List Value} (n : Nat), Vals xs us → Vals (xs.drop n) (us.drop n)
  | _, _, 0, r => r
  | _, _, _ + 1, .nil => .nil
  | _, _, n + 1, .cons _ t => Vals.drop n t
def RelO : Option V → Option Value → Prop
  | some v, some u => RelV v u
  | none, none => True
  | _, _ => False
def KV {κ : Type} : List (κ × V) → List (κ × Value) → Prop := Paired fun (p : κ × V) (q : κ × Value) => p.1 = q.1 ∧ RelV p.2 q.2
def kV : Key → V
  | .inl i => .int i
  | .inr x => .str x
inductive HO where
  | lst (xs : List V)
  | tup (xs : List V)
  | dK (kvs : List (Key × V)) | dT (kvs : List (List Key × V))
  | set (S : Int → Bool) (n : Nat)
  | ins (C dx : Addr) (fs : List (Str × V))
  | own (x : Addr)
  | xd (fs : List (Str × V))
  | met (f x : Addr)
  | rng (lo hi : Int)
  | frz (o : Obj) (u : HO)
  | tbl (ps : Array Value)
  | ext (φ : Heap → Prop)
abbrev Hp := Addr → Option HO
def upd (H : Hp) (a : Addr) (o : HO) : Hp := fun b => if b = a then some o else H b
theorem upd_same {H : Hp} {a : Addr} {o : HO} : upd H a o a = some o := by unfold upd; rw [if_pos rfl]
theorem upd_ne {H : Hp} {a b : Addr} {o : HO} (h : b ≠ a) : upd H a o b = H b := by unfold upd; rw [if_neg h]
theorem ne_of {H : Hp} {a b : Addr} {o u : HO} (h : H a = some o) (h' : H b = some u) (d : o ≠ u) : a ≠ b := by
  intro e; subst e; rw [h] at h'; exact d (Option.some.inj h')
theorem ne_of_none {H : Hp} {a b : Addr} {o : HO} (h : H a = some o) (h' : H b = none) : a ≠ b := by
  intro e; subst e; rw [h] at h'; cases h'
section
variable (P : Program) (w : World)
def ObjOk (H : Hp) (h : Heap) (a : Addr) : HO → Prop
  | .lst xs => xs.length ≤ sizeLine ∧ ∃ (its : List Value) (n : Nat), Vals xs its ∧ h.get? a = some { cls := .type "list", data := .seq its.toArray n }
  | .tup xs => xs.length ≤ sizeLine ∧ ∃ its : List Value, Vals xs its ∧ IsTup h a its.toArray
  | .dK kvs => kvs.length ≤ sizeLine ∧ (a == sysModules) = false ∧ ∃ vs, KV kvs vs ∧ h.DictOf (mixKind P w) a vs
  | .dT kvs => kvs.length ≤ sizeLine ∧ (a == sysModules) = false ∧ ∃ xs : List (List Key × Addr × Value),
      Paired (fun (p : List Key × V) (q : List Key × Addr × Value) => p.1 = q.1 ∧ H q.2.1 = some (.tup (p.1.map kV)) ∧ RelV p.2 q.2.2) kvs xs ∧
      ∃ o es ep, h.get? a = some o ∧ o.ExactDict ∧ o.data = .dict es ep ∧ es.toList = xs.map (entryOfKey (tupleKind (mixKind P w))) ∧ (xs.map (·.1)).Nodup
  | .set S n => h.SetOf (intKind P w) a S n
  | .ins C dx fs => H dx = some (.own a) ∧ fs.length ≤ 1000 ∧ dx ≠ a ∧ h.get? a = some (PySem.W.instObj C dx) ∧
      ∃ mA, h.Ns1 dx mA ∧ (∀ f, RelO (fs.lookup f) (mA f)) ∧ PySem.Within mA (fs.map (·.1))
  | .own _ => ∃ o, h.get? a = some o
  | .xd fs => ∃ mA, h.Ns1 a mA ∧ ∀ f, RelO (fs.lookup f) (mA f)
  | .rng lo hi => ∃ t u v, h.get? a = some { cls := .type "range", data := .fields #[.int lo t, .int hi u, .int 1 v] }
  | .frz o u => h.get? a = some o ∧ ObjOk H h a u
  | .tbl ps => h.get? a = some { cls := .none, data := .fields ps }
  | .met f x => h.get? a = some (PySem.W.methodObj (.ref f) (.ref x))
  | .ext φ => φ h ∧ (∃ o, h.get? a = some o) ∧ ∀ h1 h2 : Heap, φ h1 → (∀ o, h1.get? a = some o → h2.get? a = some o) → φ h2
def HOk (H : Hp) (h : Heap) : Prop := ∀ a o, H a = some o → ObjOk P w H h a o
end
section
variable {P : Program} {w : World} {H H' : Hp} {h h' : Heap} {a : Addr} {o : HO}
theorem ObjOk.lt (x : ObjOk P w H h a o) : a < h.objs.size := by
  cases o with
  | lst xs => obtain ⟨_, _, _, _, e⟩ := x; exact Heap.lt_size e
  | tup xs => obtain ⟨_, _, _, p⟩ := x; exact p.lt
  | dK kvs => obtain ⟨_, _, _, _, o, _, _, e, _⟩ := x; exact Heap.lt_size e
  | dT kvs => obtain ⟨_, _, _, _, o, _, _, e, _⟩ := x; exact Heap.lt_size e
  | set S n => obtain ⟨o, _, _, _, e, _⟩ := x; exact Heap.lt_size e
  | ins C dx fs => obtain ⟨_, _, _, e, _⟩ := x; exact Heap.lt_size e
  | own y => obtain ⟨_, e⟩ := x; exact Heap.lt_size e
  | xd fs => obtain ⟨_, ⟨_, _, _, e, _⟩, _⟩ := x; exact Heap.lt_size e
  | rng lo hi => obtain ⟨_, _, _, e⟩ := x; exact Heap.lt_size e
  | frz ob u => obtain ⟨e, _⟩ := x; exact Heap.lt_size e
  | tbl ps => exact Heap.lt_size (show h.get? a = some _ from x)
  | met f y => exact Heap.lt_size (show h.get? a = some _ from x)
  | ext φ => obtain ⟨_, ⟨_, e⟩, _⟩ := x; exact Heap.lt_size e
theorem Paired.mapP {α β : Type} {F G : α → β → Prop} : ∀ {l₁ : List α} {l₂ : List β}, Paired F l₁ l₂ → (∀ a b, F a b → G a b) → Paired G l₁ l₂
  | _, _, .nil, _ => .nil
  | _, _, .cons r t, f => .cons (f _ _ r) (Paired.mapP t f)
theorem ObjOk.stay (x : ObjOk P w H h a o) (k : ∀ b u, (b = a ∨ H b = some (.own a)) → h.get? b = some u → h'.get? b = some u)
    (ho : ∀ b, H b = some (.own a) → H' b = some (.own a)) (ht : ∀ b xs, H b = some (.tup xs) → H' b = some (.tup xs)) : ObjOk P w H' h' a o := by
  induction o with
  | lst xs => obtain ⟨z, its, n, r, e⟩ := x; exact ⟨z, its, n, r, k _ _ (.inl rfl) e⟩
  | tup xs => obtain ⟨z, its, r, ob, e, c⟩ := x; exact ⟨z, its, r, ob, k _ _ (.inl rfl) e, c⟩
  | dK kvs => obtain ⟨z, y, vs, r, ob, es, ep, e, c⟩ := x; exact ⟨z, y, vs, r, ob, es, ep, k _ _ (.inl rfl) e, c⟩
  | dT kvs =>
    obtain ⟨z, y, xs, r, ob, es, ep, e, c⟩ := x
    exact ⟨z, y, xs, Paired.mapP r fun p q z => ⟨z.1, ht _ _ z.2.1, z.2.2⟩, ob, es, ep, k _ _ (.inl rfl) e, c⟩
  | set S n => obtain ⟨ob, es, ep, t, e, c⟩ := x; exact ⟨ob, es, ep, t, k _ _ (.inl rfl) e, c⟩
  | ins C dx fs =>
    obtain ⟨d, z, ne, e, mA, ⟨od, es, ep, e2, c⟩, r⟩ := x
    exact ⟨ho _ d, z, ne, k _ _ (.inl rfl) e, mA, ⟨od, es, ep, k _ _ (.inr d) e2, c⟩, r⟩
  | own y => obtain ⟨ob, e⟩ := x; exact ⟨ob, k _ _ (.inl rfl) e⟩
  | xd fs => obtain ⟨mA, ⟨od, es, ep, e, c⟩, r⟩ := x; exact ⟨mA, ⟨od, es, ep, k _ _ (.inl rfl) e, c⟩, r⟩
  | rng lo hi => obtain ⟨t, u, v, e⟩ := x; exact ⟨t, u, v, k _ _ (.inl rfl) e⟩
  | frz ob u ih => obtain ⟨e, q⟩ := x; exact ⟨k _ _ (.inl rfl) e, ih q⟩
  | tbl ps =>
    have e : h.get? a = some { cls := .none, data := .fields ps } := x
    show h'.get? a = some { cls := .none, data := .fields ps }
    exact k a _ (.inl rfl) e
  | met f y =>
    have e : h.get? a = some (PySem.W.methodObj (.ref f) (.ref y)) := x
    show h'.get? a = some (PySem.W.methodObj (.ref f) (.ref y))
    exact k a _ (.inl rfl) e
  | ext φ => obtain ⟨p, ⟨o, e⟩, st⟩ := x; exact ⟨st _ _ p fun o q => k _ _ (.inl rfl) q, ⟨o, k _ _ (.inl rfl) e⟩, st⟩
theorem HOk.lt (x : HOk P w H h) (e : H a = some o) : a < h.objs.size := (x a o e).lt
theorem HOk.fresh (x : HOk P w H h) (e : h.objs.size ≤ a) : H a = none := by
  cases q : H a with
  | none => rfl
  | some u => exact absurd (Nat.lt_of_lt_of_le (x.lt q) e) (Nat.lt_irrefl _)
theorem HOk.kept (x : HOk P w H h) (k : ∀ b u, h.get? b = some u → h'.get? b = some u) : HOk P w H h' := fun a o e =>
  (x a o e).stay (fun b u _ q => k b u q) (fun _ q => q) fun _ _ q => q
theorem HOk.laid (x : HOk P w H h) (k : ∀ b u, h.get? b = some u → h'.get? b = some u) (hp : h.objs.size ≤ a) (new : ObjOk P w (upd H a o) h' a o) : HOk P w (upd H a o) h' := fun b u e => by
  have hn := x.fresh hp
  by_cases hb : b = a
  · subst hb; rw [upd_same] at e; cases e; exact new
  · rw [upd_ne hb] at e
    exact (x b u e).stay (fun c v _ q => k c v q) (fun c q => by rw [upd_ne (ne_of_none q hn)]; exact q) fun c xs q => by rw [upd_ne (ne_of_none q hn)]; exact q
end
def Rd (H : Hp) (a : Addr) (u : HO) : Prop := H a = some u ∨ ∃ o, H a = some (.frz o u)
theorem Rd.ok {P : Program} {w : World} {H : Hp} {h : Heap} {a : Addr} {u : HO} (r : Rd H a u) (x : HOk P w H h) : ObjOk P w H h a u := by
  rcases r with r | ⟨o, r⟩
  · exact x a u r
  · obtain ⟨_, q⟩ := x a _ r
    exact q
def Mut : Option HO → Prop
  | some (.lst _) => True
  | some (.dK _) => True
  | some (.dT _) => True
  | some (.set _ _) => True
  | some (.ins _ _ _) => True
  | some (.ext _) => True
  | _ => False
section
variable {P : Program} {w : World} {H : Hp} {h h' : Heap} {x e : Addr} {o' : HO}
theorem HOk.write (ok : HOk P w H h) (mu : Mut (H x)) (he : e = x ∨ H e = some (.own x)) (k : ∀ b u, b ≠ e → h.get? b = some u → h'.get? b = some u) (heo : ∃ u, h'.get? e = some u)
    (new : ObjOk P w (upd H x o') h' x o') : HOk P w (upd H x o') h' := fun b u q => by
  have nown : ∀ c y, H c = some (.own y) → c ≠ x := fun c y r z => by subst z; rw [r] at mu; exact mu
  have ntup : ∀ c xs, H c = some (.tup xs) → c ≠ x := fun c xs r z => by subst z; rw [r] at mu; exact mu
  by_cases hb : b = x
  · subst hb; rw [upd_same] at q; cases q; exact new
  · rw [upd_ne hb] at q
    by_cases hbe : b = e
    · have q' : H b = some (.own x) := by
        rcases he with z | z
        · exact absurd (hbe.trans z) hb
        · rw [hbe]; exact z
      rw [q] at q'; cases q'
      obtain ⟨v, hv⟩ := heo
      exact ⟨v, by rw [hbe]; exact hv⟩
    · refine (ok b u q).stay (fun c v hc r => k c v ?_ r) (fun c r => by rw [upd_ne (nown c b r)]; exact r) fun c xs r => by rw [upd_ne (ntup c xs r)]; exact r
      rcases hc with rfl | hc
      · exact hbe
      · rintro rfl
        rcases he with z | z
        · exact nown c b hc z
        · rw [hc] at z; cases z; exact hb rfl
end
structure Un (fs ex : List Addr) (H H' : Hp) (h h' : Heap) : Prop where
  keep : ∀ b o, h.get? b = some o → H b = none → b ∉ fs → b ∉ ex → h'.get? b = some o
  slot : ∀ b o, h.get? b = some o → H b = none → b ∈ fs → b ∉ ex → ∃ sl, h'.get? b = some { o with slots := sl }
  free : ∀ b o, h.get? b = some o → H b = none → b ∉ ex → H' b = none
  there : ∀ b o, h.get? b = some o → b ∉ ex → ∃ o', h'.get? b = some o'
  tups : ∀ b xs, H b = some (.tup xs) → H' b = some (.tup xs)
  frzs : ∀ b o u, H b = some (.frz o u) → H' b = some (.frz o u)
  tbls : ∀ b ps, H b = some (.tbl ps) → ∃ more, H' b = some (.tbl (ps ++ more))
section
variable {fs fs' ex ex' : List Addr} {H H1 H2 : Hp} {h h1 h2 h' : Heap} {a x e : Addr} {o : HO}
theorem Un.any (u : Un fs ex H H1 h h1) {b : Addr} {ob : Obj} (q : h.get? b = some ob) (n : H b = none) (hx : b ∉ ex) : ∃ sl, h1.get? b = some { ob with slots := sl } := by
  by_cases hb : b ∈ fs
  · exact u.slot b ob q n hb hx
  · exact ⟨ob.slots, u.keep b ob q n hb hx⟩
theorem Un.kept (k : ∀ b u, h.get? b = some u → h'.get? b = some u) : Un fs ex H H h h' :=
  ⟨fun b ob q _ _ _ => k b ob q, fun b ob q _ _ _ => ⟨ob.slots, k b ob q⟩, fun _ _ _ n _ => n, fun b ob q _ => ⟨ob, k b ob q⟩, fun _ _ q => q, fun _ _ _ q => q, fun _ ps q => ⟨#[], by rw [q]; simp⟩⟩
theorem Un.refl : Un fs ex H H h h := Un.kept fun _ _ q => q
theorem Un.laid (k : ∀ b u, h.get? b = some u → h'.get? b = some u) (hp : h.objs.size ≤ a) (hn : H a = none) : Un fs ex H (upd H a o) h h' where
  keep := fun b u q _ _ _ => k b u q
  slot := fun b u q _ _ _ => ⟨u.slots, k b u q⟩
  free := fun b u q n _ => by rw [upd_ne (Nat.ne_of_lt (Nat.lt_of_lt_of_le (Heap.lt_size q) hp))]; exact n
  there := fun b u q _ => ⟨u, k b u q⟩
  tups := fun b xs q => by rw [upd_ne (ne_of_none q hn)]; exact q
  frzs := fun b u xs q => by rw [upd_ne (ne_of_none q hn)]; exact q
  tbls := fun b ps q => ⟨#[], by rw [upd_ne (ne_of_none q hn), q]; simp⟩
theorem Un.write (mu : Mut (H x)) (he : e = x ∨ H e = some (.own x)) (k : ∀ b u, b ≠ e → h.get? b = some u → h'.get? b = some u) (heo : ∃ u, h'.get? e = some u) : Un fs ex H (upd H x o) h h' := by
  have hx : ∀ b, H b = none → b ≠ x := fun b n z => by subst z; rw [n] at mu; exact mu
  have hb : ∀ b, H b = none → b ≠ e := fun b n z => by
    subst z
    rcases he with r | r
    · exact hx b n r
    · rw [n] at r; cases r
  have hm : ∀ b u, H b = some u → ¬ Mut (some u) → b ≠ x := fun b u q nm z => by subst z; rw [q] at mu; exact nm mu
  refine ⟨fun b u q n _ _ => k b u (hb b n) q, fun b u q n _ _ => ⟨u.slots, k b u (hb b n) q⟩, fun b u q n _ => by rw [upd_ne (hx b n)]; exact n, fun b u q _ => ?_,
    fun b xs q => by rw [upd_ne (hm b _ q fun z => z)]; exact q, fun b u xs q => by rw [upd_ne (hm b _ q fun z => z)]; exact q, fun b ps q => ⟨#[], by rw [upd_ne (hm b _ q fun z => z), q]; simp⟩⟩
  by_cases hbe : b = e
  · subst hbe; exact heo
  · exact ⟨u, k b u hbe q⟩
end
def trk (h : Heap) (H : Hp) : List Addr := (List.range h.objs.size).filter fun a => (H a).isSome
def hidT (h : Heap) (H : Hp) : Heap := PySem.W.hideAll h (trk h H)
theorem hidT_size (h : Heap) (H : Hp) : (hidT h H).objs.size = h.objs.size := PySem.W.hideAll_size _ _
theorem hidT_get {h : Heap} {H : Hp} {b : Addr} {o : Obj} (e : h.get? b = some o) (n : H b = none) : (hidT h H).get? b = some o :=
  PySem.W.hideAll_get _ e fun hm => by
    have q : (H b).isSome = true := (List.mem_filter.mp hm).2
    rw [n] at q; simp at q
theorem of_hidT {h : Heap} {H : Hp} {b : Addr} {o : Obj} (e : (hidT h H).get? b = some o) : h.get? b = some o ∧ H b = none := by
  have e' : h.get? b = some o := PySem.W.of_hideAll (trk h H) e
  refine ⟨e', ?_⟩
  cases q : H b with
  | none => rfl
  | some x =>
    have hm : b ∈ trk h H := List.mem_filter.mpr ⟨List.mem_range.mpr (Heap.lt_size e'), by simp [q]⟩
    have z : (hidT h H).get? b = none := PySem.W.hideAll_none (trk h H) hm
    rw [z] at e; cases e
def allNews (g h : Heap) (L : Addr) : List (Addr × Obj) := (List.range h.objs.size).filterMap fun a => if a = L ∨ (g.get? a).isSome = true then none else (h.get? a).map fun o => (a, o)
def rest (g h : Heap) (L d : Addr) : List (Addr × Obj) := (allNews g h L).filter fun p => decide (p.1 ≠ d)
end L2
namespace L2
open PySem PySem.Spec PyProof.Rows
structure Mod (K : PySem.W.Frag) (mg : Str → Option Value) (base : Heap) : Prop where
  kin : K.In base
  glob : base.Ns mainGlobals mg
  blt : ∃ mb, base.Ns builtinsNs mb ∧ ∀ x : Str, x ≠ "__name__" → mb x = bootBuiltins x
  nolimit : base.NoLimit
/-- the context: a def's body (or a comprehension's block) running. base: fixed through the whole law; s₀, H₀: the entry; outer: the frames whose slots others may change (a def's callers); stack: all frames that run;
   ex: iterators that were made ahead of the entry and are walked here (a comprehension's); fn: the names whose cells were made at the entry (a def: all; a comprehension's block: its own); calm: not within an except suite; pn: pins that every state bears; xe: what is wanted of an exception that leaves the code -/
structure Cx where
  prog : Program
  w : World
  K : PySem.W.Frag
  mg : Str → Option Value
  base : Heap
  A : Around
  N : List Str
  s₀ : Shared
  H₀ : Hp
  env : Env
  outer : List Env
  stack : List Env
  ex : List Addr
  fn : Str → Bool
  calm : Bool
  pn : List (Addr × Obj)
  xe : Value → Shared → Prop
def frs (l : List Env) : List Addr := l.filterMap (·.frame)
abbrev Cx.fs (X : Cx) : List Addr := frs X.outer
def Vis (sc : Scope) (x : Str) : Prop := sc.names.lookup x = some .local ∨ sc.names.lookup x = some .cell ∨ sc.names.lookup x = some .free
def Loc (sc : Scope) (x : Str) : Prop := sc.names.lookup x = some .local ∨ sc.names.lookup x = some .cell
def Look (env : Env) (h : Heap) (m : Str → Option Value) (x : Str) (u : Value) : Prop :=
  (env.kindOf x = some .local ∧ m x = some u) ∨ ((env.kindOf x = some .cell ∨ env.kindOf x = some .free) ∧ ∃ c, env.cells.lookup x = some c ∧ h.IsCell c (some u))
structure Cx.Ok (X : Cx) : Prop where
  mod : Mod X.K X.mg X.base
  kind : X.env.scope.kind = .function
  glob : X.env.globals = mainGlobals
  blt : X.env.builtins = builtinsNs
  above : X.s₀.heap.objs.size ≤ X.env.locals
  inj : ∀ x y c, X.env.cells.lookup x = some c → X.env.cells.lookup y = some c → x = y
  has : ∀ x, (X.env.kindOf x = some .cell ∨ X.env.kindOf x = some .free) → ∃ c, X.env.cells.lookup x = some c
  cab : ∀ x c, X.fn x = true → X.env.cells.lookup x = some c → X.s₀.heap.objs.size ≤ c
  hd : X.calm = true → X.A.handled = none
  frames : X.A.frames = some X.stack
  stk : X.stack = X.outer ∨ (X.stack = X.env :: X.outer ∧ X.env.frame = some X.env.locals)
  exf : ∀ b ∈ X.ex, b ≠ X.env.locals ∧ ∀ x c, X.env.cells.lookup x = some c → c ≠ b
  bs : ∀ b o, X.base.get? b = some o → X.s₀.heap.get? b = some o ∧ X.H₀ b = none
  bsz : X.base.objs.size ≤ X.s₀.heap.objs.size
  noex : ∀ b o, X.base.get? b = some o → b ∉ X.ex
  exfs : ∀ b ∈ X.ex, b ∉ X.fs
  funs : X.s₀.heap.FunFrames X.base X.outer
  frf : ∀ b ∈ X.fs, X.H₀ b = none
structure Inv (X : Cx) (pins : List (Addr × Obj)) (σ : List (Option V)) (H : Hp) (s : Shared) : Prop where
  ok : X.Ok
  os : s.os = X.s₀.os
  bare : AllBare s.gens
  base : Un X.fs X.ex X.H₀ H X.s₀.heap s.heap
  loc : ∃ m, s.heap.Ns X.env.locals m ∧ ∀ (i : Nat) (x : Str) (v : V), X.N[i]? = some x → σ[i]? = some (some v) → Vis X.env.scope x → ∃ u, RelV v u ∧ Look X.env s.heap m x u
  cell : ∀ x c, X.env.cells.lookup x = some c → ∃ v, s.heap.IsCell c v
  free : H X.env.locals = none
  freeC : ∀ x c, X.env.cells.lookup x = some c → H c = none
  pin : ∀ p ∈ X.pn ++ pins, s.heap.get? p.1 = some p.2 ∧ H p.1 = none ∧ p.1 ≠ X.env.locals ∧ p.1 ∉ X.fs ∧ ∀ v, p.2.data ≠ .cell v
  hok : HOk X.prog X.w H s.heap
  len : σ.length = X.N.length
section
variable {X : Cx} {pins : List (Addr × Obj)} {σ : List (Option V)} {H H' : Hp} {s : Shared} {h' : Heap}
theorem Cx.Ok.nofr (ok : X.Ok) {b : Addr} {o : Obj} (e : X.base.get? b = some o) : b ∉ X.fs := fun hb => by
  have := (ok.funs.mem hb).1
  rw [e] at this; cases this
theorem Inv.bs (I : Inv X pins σ H s) : ∀ b o, X.base.get? b = some o → s.heap.get? b = some o ∧ H b = none := fun b o e =>
  ⟨I.base.keep b o (I.ok.bs b o e).1 (I.ok.bs b o e).2 (I.ok.nofr e) (I.ok.noex b o e), I.base.free b o (I.ok.bs b o e).1 (I.ok.bs b o e).2 (I.ok.noex b o e)⟩
theorem Inv.bk (I : Inv X pins σ H s) : ∀ b o, X.base.get? b = some o → s.heap.get? b = some o := fun b o e => (I.bs b o e).1
theorem Inv.mod (I : Inv X pins σ H s) : Mod X.K X.mg X.base := I.ok.mod
theorem Inv.kIn (I : Inv X pins σ H s) : X.K.In s.heap := I.ok.mod.kin.keeps I.bk
theorem Inv.lt (I : Inv X pins σ H s) : X.env.locals < s.heap.objs.size := let ⟨_, hn, _⟩ := I.loc; hn.lt
theorem Inv.sz (I : Inv X pins σ H s) : X.s₀.heap.objs.size ≤ s.heap.objs.size := Nat.le_trans I.ok.above (Nat.le_of_lt I.lt)
theorem Inv.nofs (I : Inv X pins σ H s) {a : Addr} (h : s.heap.objs.size ≤ a) : a ∉ X.fs := fun hb => by
  obtain ⟨_, o, ho, _⟩ := I.ok.funs.mem hb
  exact absurd (Nat.lt_of_lt_of_le (Heap.lt_size ho) (Nat.le_trans I.sz h)) (Nat.lt_irrefl _)
theorem Inv.cne (I : Inv X pins σ H s) : ∀ x c, X.env.cells.lookup x = some c → c ≠ X.env.locals := fun x c e z => by
  obtain ⟨v, o, ho, hd⟩ := I.cell x c e
  obtain ⟨m, ⟨o', es, ep, ho', hd', _⟩, _⟩ := I.loc
  rw [z, ho'] at ho; cases ho; rw [hd'] at hd; cases hd
theorem Inv.funs (I : Inv X pins σ H s) : s.heap.FunFrames X.base X.outer := by
  have all : ∀ (l : List Env), (∀ b ∈ frs l, b ∈ X.fs) → X.s₀.heap.FunFrames X.base l → s.heap.FunFrames X.base l := by
    intro l
    induction l with
    | nil => intro _ _; trivial
    | cons env r ih =>
      intro hs hl
      obtain ⟨hk, ⟨L, o, hf, hn, ho, hd⟩, hr⟩ := hl
      have hL : L ∈ X.fs := hs L (by unfold frs; rw [List.filterMap_cons, hf]; exact List.mem_cons_self)
      obtain ⟨sl, e⟩ := I.base.slot L o ho (I.ok.frf L hL) hL fun z => I.ok.exfs L z hL
      exact ⟨hk, ⟨L, _, hf, hn, e, hd⟩, ih (fun b hb => hs b (by unfold frs; rw [List.filterMap_cons, hf]; exact List.mem_cons_of_mem _ hb)) hr⟩
  exact all X.outer (fun _ hb => hb) I.ok.funs
theorem Inv.stack (I : Inv X pins σ H s) : s.heap.FunFrames X.base X.stack := by
  rcases I.ok.stk with e | ⟨e, hf⟩
  · rw [e]; exact I.funs
  · rw [e]
    obtain ⟨m, hn, _⟩ := I.loc
    refine .cons (by rw [I.ok.kind]; decide) hf hn ?_ I.funs
    exact Heap.get?_none_of_le (Nat.le_trans I.ok.bsz I.ok.above)
theorem Inv.stkSub (I : Inv X pins σ H s) : ∀ b ∈ frs X.stack, b ∈ X.env.locals :: X.fs := fun b hb => by
  rcases I.ok.stk with e | ⟨e, hf⟩
  · rw [e] at hb; exact List.mem_cons_of_mem _ hb
  · rw [e] at hb
    unfold frs at hb
    rw [List.filterMap_cons, hf] at hb
    exact hb
theorem Inv.stkFree (I : Inv X pins σ H s) : ∀ b ∈ frs X.stack, H b = none := fun b hb => by
  rcases List.mem_cons.mp (I.stkSub b hb) with e | hb
  · rw [e]; exact I.free
  · obtain ⟨_, o, ho, _⟩ := I.ok.funs.mem hb
    exact I.base.free b o ho (I.ok.frf b hb) fun z => I.ok.exfs b z hb
theorem Inv.step {g' : Array GenState} {t' : Nat} {d' : Drawn} {ch : List Addr} (I : Inv X pins σ H s)
    (hch : ∀ b ∈ ch, (b ∈ X.ex ∨ X.s₀.heap.objs.size ≤ b) ∧ b ≠ X.env.locals ∧ (∀ x c, X.env.cells.lookup x = some c → c ≠ b) ∧ ∀ p ∈ X.pn ++ pins, p.1 ≠ b)
    (keep : ∀ b o, b ≠ X.env.locals → b ∉ X.fs → b ∉ ch → s.heap.get? b = some o → H b = none → h'.get? b = some o)
    (slot : ∀ b o, b ≠ X.env.locals → b ∈ X.fs → b ∉ ch → s.heap.get? b = some o → H b = none → ∃ sl, h'.get? b = some { o with slots := sl }) (free : ∀ b o, b ∉ ch → s.heap.get? b = some o → H b = none → H' b = none)
    (there : ∀ b o, b ∉ ch → s.heap.get? b = some o → ∃ o', h'.get? b = some o')
    (tups : ∀ b xs, H b = some (.tup xs) → H' b = some (.tup xs)) (frzs : ∀ b o u, H b = some (.frz o u) → H' b = some (.frz o u)) (tbls : ∀ b ps, H b = some (.tbl ps) → ∃ more, H' b = some (.tbl (ps ++ more)))
    (ns : ∀ m, s.heap.Ns X.env.locals m → h'.Ns X.env.locals m) (hok : HOk X.prog X.w H' h') (hg : AllBare g') :
    Inv X pins σ H' { s with heap := h', gens := g', drawn := d', toks := t' } := by
  have neL : ∀ b o, X.s₀.heap.get? b = some o → b ≠ X.env.locals := fun b o e => Nat.ne_of_lt (Nat.lt_of_lt_of_le (Heap.lt_size e) I.ok.above)
  have neC : ∀ b o, X.s₀.heap.get? b = some o → b ∉ X.ex → b ∉ ch := fun b o e hx hb => by
    rcases (hch b hb).1 with z | z
    · exact hx z
    · exact absurd (Nat.lt_of_lt_of_le (Heap.lt_size e) z) (Nat.lt_irrefl _)
  have cellK : ∀ x c, X.env.cells.lookup x = some c → ∀ v, s.heap.IsCell c v → h'.IsCell c v := fun x c e v ⟨o, ho, hd⟩ => by
    have nch : c ∉ ch := fun z => (hch c z).2.2.1 x c e rfl
    by_cases hc : c ∈ X.fs
    · obtain ⟨sl, q⟩ := slot c o (I.cne x c e) hc nch ho (I.freeC x c e)
      exact ⟨_, q, hd⟩
    · exact ⟨o, keep c o (I.cne x c e) hc nch ho (I.freeC x c e), hd⟩
  refine ⟨I.ok, I.os, hg, ⟨fun b o e n hb hx => ?_, fun b o e n hb hx => ?_, fun b o e n hx => ?_, fun b o e hx => ?_, fun b xs e => tups b xs (I.base.tups b xs e), fun b o xs e => frzs b o xs (I.base.frzs b o xs e), fun b ps e => ?_⟩, ?_, fun x c e => ?_, ?_, fun x c e => ?_, fun p hp => ?_, hok, I.len⟩
  · exact keep b o (neL b o e) hb (neC b o e hx) (I.base.keep b o e n hb hx) (I.base.free b o e n hx)
  · obtain ⟨sl, e1⟩ := I.base.slot b o e n hb hx
    obtain ⟨sl', e2⟩ := slot b _ (neL b o e) hb (neC b o e hx) e1 (I.base.free b o e n hx)
    exact ⟨sl', e2⟩
  · obtain ⟨o', e1⟩ := I.base.there b o e hx
    exact free b o' (neC b o e hx) e1 (I.base.free b o e n hx)
  · obtain ⟨o', e1⟩ := I.base.there b o e hx
    exact there b o' (neC b o e hx) e1
  · obtain ⟨m1, e1⟩ := I.base.tbls b ps e
    obtain ⟨m2, e2⟩ := tbls b _ e1
    exact ⟨m1 ++ m2, by rw [e2, Array.append_assoc]⟩
  · obtain ⟨m, hn, hl⟩ := I.loc
    refine ⟨m, ns m hn, fun i x v e1 e2 e3 => ?_⟩
    obtain ⟨u, r, l⟩ := hl i x v e1 e2 e3
    refine ⟨u, r, ?_⟩
    rcases l with l | ⟨k, c, e, z⟩
    · exact .inl l
    · exact .inr ⟨k, c, e, cellK x c e _ z⟩
  · obtain ⟨v, z⟩ := I.cell x c e
    exact ⟨v, cellK x c e v z⟩
  · obtain ⟨m, ⟨o, _, _, ho, _⟩, _⟩ := I.loc
    exact free _ o (fun z => (hch _ z).2.1 rfl) ho I.free
  · obtain ⟨v, o, ho, hd⟩ := I.cell x c e
    exact free c o (fun z => (hch c z).2.2.1 x c e rfl) ho (I.freeC x c e)
  · obtain ⟨e, n, ne, nf, d⟩ := I.pin p hp
    have nch : p.1 ∉ ch := fun z => (hch p.1 z).2.2.2 p hp rfl
    exact ⟨keep p.1 p.2 ne nf nch e n, free p.1 p.2 nch e n, ne, nf, d⟩
theorem Inv.un {t' : Nat} (I : Inv X pins σ H s) (u : Un X.fs [] H H' s.heap h') (hok : HOk X.prog X.w H' h') : Inv X pins σ H' { s with heap := h', toks := t' } := by
  obtain ⟨m, ⟨o, es, ep, ho, r⟩, _⟩ := id I.loc
  obtain ⟨sl, hL⟩ := u.any ho I.free (by simp)
  exact I.step (g' := s.gens) (d' := s.drawn) (ch := []) (fun _ z => nomatch z) (fun b o _ hb _ e n => u.keep b o e n hb (by simp)) (fun b o _ hb _ e n => u.slot b o e n hb (by simp)) (fun b o _ e n => u.free b o e n (by simp)) (fun b o _ e => u.there b o e (by simp)) u.tups u.frzs u.tbls (fun m' hm => by
    obtain ⟨o', es', ep', ho', r'⟩ := hm
    rw [ho] at ho'; cases ho'
    exact ⟨_, es', ep', hL, r'⟩) hok I.bare
theorem Inv.call {g' : Array GenState} {t' : Nat} {d' : Drawn} {ch : List Addr} (I : Inv X pins σ H s) (u : Un (frs X.stack) ch H H' s.heap h') (hok : HOk X.prog X.w H' h') (hg : AllBare g')
    (hch : ∀ b ∈ ch, (b ∈ X.ex ∨ X.s₀.heap.objs.size ≤ b) ∧ b ≠ X.env.locals ∧ (∀ x c, X.env.cells.lookup x = some c → c ≠ b) ∧ ∀ p ∈ X.pn ++ pins, p.1 ≠ b) :
    Inv X pins σ H' { s with heap := h', gens := g', drawn := d', toks := t' } := by
  obtain ⟨m, ⟨o, es, ep, ho, r⟩, _⟩ := id I.loc
  obtain ⟨sl, hL⟩ := u.any ho I.free fun z => (hch _ z).2.1 rfl
  exact I.step (ch := ch) hch (fun b o hL hb hc e n => u.keep b o e n (fun z => (List.mem_cons.mp (I.stkSub b z)).elim hL hb) hc) (fun b o _ _ hc e n => u.any e n hc) (fun b o hc e n => u.free b o e n hc) (fun b o hc e => u.there b o e hc) u.tups u.frzs u.tbls (fun m' hm => by
    obtain ⟨o', es', ep', ho', r'⟩ := hm
    rw [ho] at ho'; cases ho'
    exact ⟨_, es', ep', hL, r'⟩) hok hg
theorem Inv.turned {t' : Nat} {it : Addr} (I : Inv X pins σ H s) (k : ∀ b o, b ≠ it → s.heap.get? b = some o → h'.get? b = some o) (hn : H it = none) (hL : it ≠ X.env.locals)
    (h1 : it ∈ X.ex ∨ X.s₀.heap.objs.size ≤ it) (h2 : ∀ x c, X.env.cells.lookup x = some c → c ≠ it) (h3 : ∀ p ∈ X.pn ++ pins, p.1 ≠ it) : Inv X pins σ H { s with heap := h', toks := t' } := by
  have nit : ∀ b u, H b = some u → b ≠ it := fun b u e z => by rw [z, hn] at e; cases e
  refine I.step (g' := s.gens) (d' := s.drawn) (ch := [it]) (fun b hb => ?_) (fun b o _ _ hc e _ => k b o (fun z => hc (by simp [z])) e) (fun b o _ _ hc e _ => ⟨o.slots, k b o (fun z => hc (by simp [z])) e⟩) (fun _ _ _ _ n => n)
    (fun b o hc e => ⟨o, k b o (fun z => hc (by simp [z])) e⟩) (fun _ _ e => e) (fun _ _ _ e => e) (fun b ps e => ⟨#[], by rw [e]; simp⟩) (fun m hm => ?_) (fun b u e => ?_) I.bare
  · have e : b = it := by simpa using hb
    subst e
    exact ⟨h1, hL, h2, h3⟩
  · obtain ⟨o, es, ep, ho, r⟩ := hm
    exact ⟨o, es, ep, k _ o (Ne.symm hL) ho, r⟩
  · refine (I.hok b u e).stay (fun c v hc q => k c v ?_ q) (fun _ q => q) fun _ _ q => q
    rcases hc with z | z
    · rw [z]; exact nit b u e
    · exact nit c _ z
theorem Inv.tok (I : Inv X pins σ H s) (t : Nat) : Inv X pins σ H { s with toks := t } := I.un (h' := s.heap) (t' := t) Un.refl I.hok
theorem Inv.kept {t' : Nat} (I : Inv X pins σ H s) (k : ∀ b u, s.heap.get? b = some u → h'.get? b = some u) : Inv X pins σ H { s with heap := h', toks := t' } := I.un (Un.kept k) (I.hok.kept k)
theorem Inv.laid {a : Addr} {o : HO} {t' : Nat} (I : Inv X pins σ H s) (k : ∀ b u, s.heap.get? b = some u → h'.get? b = some u) (hp : s.heap.objs.size ≤ a) (new : ObjOk X.prog X.w (upd H a o) h' a o) :
    Inv X pins σ (upd H a o) { s with heap := h', toks := t' } := I.un (Un.laid k hp (I.hok.fresh hp)) (I.hok.laid k hp new)
theorem Inv.write {x e : Addr} {o : HO} {t' : Nat} (I : Inv X pins σ H s) (mu : Mut (H x)) (he : e = x ∨ H e = some (.own x)) (k : ∀ b u, b ≠ e → s.heap.get? b = some u → h'.get? b = some u) (heo : ∃ u, h'.get? e = some u)
    (new : ObjOk X.prog X.w (upd H x o) h' x o) : Inv X pins σ (upd H x o) { s with heap := h', toks := t' } := I.un (Un.write mu he k heo) (I.hok.write mu he k heo new)
theorem Inv.pins_of {pins' : List (Addr × Obj)} (I : Inv X pins σ H s) (h : ∀ p ∈ pins', s.heap.get? p.1 = some p.2 ∧ H p.1 = none ∧ p.1 ≠ X.env.locals ∧ p.1 ∉ X.fs ∧ ∀ v, p.2.data ≠ .cell v) : Inv X pins' σ H s :=
  ⟨I.ok, I.os, I.bare, I.base, I.loc, I.cell, I.free, I.freeC, fun p hp => (List.mem_append.mp hp).elim (fun z => I.pin p (List.mem_append_left _ z)) (h p), I.hok, I.len⟩
theorem nodup_ix {N : List Str} (hN : N.Nodup) {i j : Nat} {x : Str} (a : N[i]? = some x) (b : N[j]? = some x) : i = j := by
  obtain ⟨h1, e1⟩ := List.getElem?_eq_some_iff.mp a
  obtain ⟨h2, e2⟩ := List.getElem?_eq_some_iff.mp b
  exact (List.getElem_inj hN).mp (e1.trans e2.symm)
theorem store_ok2 {M : Model} {A : Around} {E : Value → Shared → Prop} {i : Nat} {x : Str} {v : V} {u : Value} {Q : Unit → Shared → Prop} (I : Inv X pins σ H s) (hN : X.N.Nodup) (hi : X.N[i]? = some x) (hx : Loc X.env.scope x) (r : RelV v u)
    (h : ∀ s', Inv X pins (σ.set i (some v)) H s' → (∃ a, Heap.SameBut a s.heap s'.heap ∧ (a = X.env.locals ∨ X.env.cells.lookup x = some a)) → Q () s') (hf : X.fn x = true ∨ X.env.scope.names.lookup x = some .local := by first | exact .inl rfl | exact .inr rfl | assumption) : wpAny M A (storeName X.env x u) Q E s := by
  obtain ⟨m, hn, hl⟩ := id I.loc
  have hcls : (X.env.scope.kind == .class || (X.env.scope.kind == .module && X.env.locals != X.env.globals)) = false := by rw [I.ok.kind]; rfl
  have hiσ : i < σ.length := by rw [I.len]; exact (List.getElem?_eq_some_iff.mp hi).1
  have cne := I.cne
  have tracked : ∀ {a : Addr} {h' : Heap}, (∃ o, s.heap.get? a = some o ∧ H a = none) → Heap.SameBut a s.heap h' → HOk X.prog X.w H h' := fun {a h'} ha hs b ob e => by
    obtain ⟨_, _, hfree⟩ := ha
    refine (I.hok b ob e).stay (fun c w' hc q => (hs.2 c ?_).trans q) (fun _ q => q) fun _ _ q => q
    rintro rfl
    rcases hc with rfl | hc
    · rw [hfree] at e; cases e
    · rw [hfree] at hc; cases hc
  rcases hx with hk | hk
  · refine wpAny_storeName_local hk hn (fun h' hn' hs => ?_) hcls
    obtain ⟨oL, _, _, hoL, _⟩ := id hn
    refine h _ ⟨I.ok, I.os, I.bare, ⟨fun b o e n hb hx => ?_, fun b o e n hb hx => ?_, I.base.free, fun b o e hx => ?_, I.base.tups, I.base.frzs, I.base.tbls⟩, ⟨_, hn', fun j y v' e1 e2 e3 => ?_⟩, fun y c e => ?_, I.free, I.freeC, fun p hp => ?_, tracked ⟨oL, hoL, I.free⟩ hs, by simpa using I.len⟩ ⟨_, hs, .inl rfl⟩
    · exact (hs.2 b (Nat.ne_of_lt (Nat.lt_of_lt_of_le (Heap.lt_size e) I.ok.above))).trans (I.base.keep b o e n hb hx)
    · obtain ⟨sl, e1⟩ := I.base.slot b o e n hb hx
      exact ⟨sl, (hs.2 b (Nat.ne_of_lt (Nat.lt_of_lt_of_le (Heap.lt_size e) I.ok.above))).trans e1⟩
    · obtain ⟨o', e1⟩ := I.base.there b o e hx
      exact ⟨o', (hs.2 b (Nat.ne_of_lt (Nat.lt_of_lt_of_le (Heap.lt_size e) I.ok.above))).trans e1⟩
    · by_cases hj : j = i
      · subst hj
        rw [hi] at e1; cases e1
        rw [List.getElem?_set_self hiσ] at e2
        cases e2
        exact ⟨u, r, .inl ⟨hk, by simp⟩⟩
      · rw [List.getElem?_set_ne (Ne.symm hj)] at e2
        obtain ⟨u', r', q⟩ := hl j y v' e1 e2 e3
        refine ⟨u', r', ?_⟩
        rcases q with ⟨k, e⟩ | ⟨k, c, e, z⟩
        · refine .inl ⟨k, ?_⟩
          have : y ≠ x := fun e => hj (nodup_ix hN e1 (e ▸ hi))
          simp [this, e]
        · exact .inr ⟨k, c, e, z.sameBut hs (cne y c e)⟩
    · obtain ⟨w', z⟩ := I.cell y c e
      exact ⟨w', z.sameBut hs (cne y c e)⟩
    · obtain ⟨e, n, ne, nf, d⟩ := I.pin p hp
      exact ⟨(hs.2 p.1 ne).trans e, n, ne, nf, d⟩
  · have hfn : X.fn x = true := by
      rcases hf with z | z
      · exact z
      · rw [z] at hk; cases hk
    obtain ⟨c, hc⟩ := I.ok.has x (.inl hk)
    obtain ⟨w', z⟩ := I.cell x c hc
    refine wpAny_storeName_cell I.ok.kind hk hc z (fun h' hc' hs => ?_)
    obtain ⟨oc, hoc, hocd⟩ := id z
    refine h { s with heap := h' } ⟨I.ok, I.os, I.bare, ⟨fun b o e n hb hx => ?_, fun b o e n hb hx => ?_, I.base.free, fun b o e hx => ?_, I.base.tups, I.base.frzs, I.base.tbls⟩, ⟨m, hn.sameBut hs (Ne.symm (cne x c hc)), fun j y v' e1 e2 e3 => ?_⟩, fun y c' e => ?_, I.free, I.freeC, fun p hp => ?_, tracked ⟨oc, hoc, I.freeC x c hc⟩ hs, by simpa using I.len⟩ ⟨c, hs, .inr hc⟩
    · exact (hs.2 b (Nat.ne_of_lt (Nat.lt_of_lt_of_le (Heap.lt_size e) (I.ok.cab x c hfn hc)))).trans (I.base.keep b o e n hb hx)
    · obtain ⟨sl, e1⟩ := I.base.slot b o e n hb hx
      exact ⟨sl, (hs.2 b (Nat.ne_of_lt (Nat.lt_of_lt_of_le (Heap.lt_size e) (I.ok.cab x c hfn hc)))).trans e1⟩
    · obtain ⟨o', e1⟩ := I.base.there b o e hx
      exact ⟨o', (hs.2 b (Nat.ne_of_lt (Nat.lt_of_lt_of_le (Heap.lt_size e) (I.ok.cab x c hfn hc)))).trans e1⟩
    · by_cases hj : j = i
      · subst hj
        rw [hi] at e1; cases e1
        rw [List.getElem?_set_self hiσ] at e2
        cases e2
        exact ⟨u, r, .inr ⟨.inl hk, c, hc, hc'⟩⟩
      · rw [List.getElem?_set_ne (Ne.symm hj)] at e2
        obtain ⟨u', r', q⟩ := hl j y v' e1 e2 e3
        refine ⟨u', r', ?_⟩
        rcases q with q | ⟨k, c', e, z'⟩
        · exact .inl q
        · refine .inr ⟨k, c', e, z'.sameBut hs ?_⟩
          rintro rfl
          exact hj (nodup_ix hN e1 (I.ok.inj _ _ _ e hc ▸ hi))
    · by_cases hcc : c' = c
      · subst hcc; exact ⟨_, hc'⟩
      · obtain ⟨w2, z2⟩ := I.cell y c' e
        exact ⟨w2, z2.sameBut hs hcc⟩
    · obtain ⟨e, n, ne, nf, d⟩ := I.pin p hp
      refine ⟨(hs.2 p.1 ?_).trans e, n, ne, nf, d⟩
      intro q
      rw [q, hoc] at e
      have q' : oc = p.2 := Option.some.inj e
      exact d w' (by rw [← q']; exact hocd)
theorem store_ok {M : Model} {A : Around} {E : Value → Shared → Prop} {i : Nat} {x : Str} {v : V} {u : Value} {Q : Unit → Shared → Prop} (I : Inv X pins σ H s) (hN : X.N.Nodup) (hi : X.N[i]? = some x) (hx : Loc X.env.scope x) (r : RelV v u)
    (h : ∀ s', Inv X pins (σ.set i (some v)) H s' → Q () s') (hf : X.fn x = true ∨ X.env.scope.names.lookup x = some .local := by first | exact .inl rfl | exact .inr rfl | assumption) : wpAny M A (storeName X.env x u) Q E s :=
  store_ok2 I hN hi hx r (fun s' I' _ => h s' I') hf
theorem Inv.call' {s' : Shared} {ch : List Addr} (I : Inv X pins σ H s) (ho : s'.os = s.os) (u : Un (frs X.stack) ch H H' s.heap s'.heap) (hok : HOk X.prog X.w H' s'.heap) (hg : AllBare s'.gens)
    (hch : ∀ b ∈ ch, (b ∈ X.ex ∨ X.s₀.heap.objs.size ≤ b) ∧ b ≠ X.env.locals ∧ (∀ x c, X.env.cells.lookup x = some c → c ≠ b) ∧ ∀ p ∈ X.pn ++ pins, p.1 ≠ b) : Inv X pins σ H' s' := by
  obtain ⟨h', g', d', t', o'⟩ := s'
  have e : o' = s.os := ho
  subst e
  exact I.call (g' := g') (t' := t') (d' := d') u hok hg hch
end
abbrev XK := Value → Option Addr → Hp → Prop
abbrev St := List (Option V)
abbrev VK := V → Hp → Prop
abbrev TE := St → Hp → VK → Prop
abbrev TT := St → Hp → (Bool → Hp → Prop) → Prop
abbrev TA := St → Hp → (List V → Hp → Prop) → Prop
structure Ends where
  nx : St → Hp → Prop
  rt : VK
  bk : St → Hp → Prop := fun _ _ => False
  ct : St → Hp → Prop := fun _ _ => False
abbrev TS := Ends → St → Hp → Prop
def EP (X : Cx) (pins : List (Addr × Obj)) (σ : St) (Q : VK) (u : Value) (s' : Shared) : Prop := ∃ v H', Inv X pins σ H' s' ∧ RelV v u ∧ Q v H'
def TP (X : Cx) (pins : List (Addr × Obj)) (σ : St) (Q : Bool → Hp → Prop) (b : Bool) (s' : Shared) : Prop := ∃ H', Inv X pins σ H' s' ∧ Q b H'
def AP (X : Cx) (pins : List (Addr × Obj)) (σ : St) (Q : List V → Hp → Prop) (us : List Value) (s' : Shared) : Prop := ∃ vs H', Inv X pins σ H' s' ∧ Vals vs us ∧ Q vs H'
def SP (X : Cx) (pins : List (Addr × Obj)) (D : Ends) (f : Flow) (s' : Shared) : Prop :=
  match f with
  | .next => ∃ σ' H', Inv X pins σ' H' s' ∧ D.nx σ' H'
  | .brk => ∃ σ' H', Inv X pins σ' H' s' ∧ D.bk σ' H'
  | .cont => ∃ σ' H', Inv X pins σ' H' s' ∧ D.ct σ' H'
  | .ret u => ∃ v σ' H', Inv X pins σ' H' s' ∧ RelV v u ∧ D.rt v H'
def PE (X : Cx) (e : Expr) (t : TE) : Prop :=
  ∀ (pins : List (Addr × Obj)) (s : Shared) (σ : St) (H : Hp) (Q : VK), Inv X pins σ H s → t σ H Q → wpAny (model X.prog X.w) X.A (eval e X.env) (EP X pins σ Q) X.xe s
def PT (X : Cx) (e : Expr) (t : TT) : Prop :=
  ∀ (pins : List (Addr × Obj)) (s : Shared) (σ : St) (H : Hp) (Q : Bool → Hp → Prop), Inv X pins σ H s → t σ H Q → wpAny (model X.prog X.w) X.A (isTrue e X.env (eval e X.env)) (TP X pins σ Q) X.xe s
def PW (X : Cx) (e : Expr) (t : TT) : Prop :=
  ∀ (whole : Sem Value) (pins : List (Addr × Obj)) (s : Shared) (σ : St) (H : Hp) (Q : Bool → Hp → Prop), Inv X pins σ H s → t σ H Q → wpAny (model X.prog X.w) X.A (isTrue e X.env whole) (TP X pins σ Q) X.xe s
theorem PW.pt {X : Cx} {e : Expr} {t : TT} (h : PW X e t) : PT X e t := h _
def PA (X : Cx) (es : List Expr) (t : TA) : Prop :=
  ∀ (pos : Pos) (pins : List (Addr × Obj)) (s : Shared) (σ : St) (H : Hp) (Q : List V → Hp → Prop), Inv X pins σ H s → t σ H Q → wpAny (model X.prog X.w) X.A (spliced (backTo pos (starEach es X.env))) (AP X pins σ Q) X.xe s
def PS (X : Cx) (st : Stmt) (t : TS) : Prop :=
  ∀ (pins : List (Addr × Obj)) (s : Shared) (σ : St) (H : Hp) (D : Ends), Inv X pins σ H s → t D σ H → wpAny (model X.prog X.w) X.A (exec st X.env) (SP X pins D) X.xe s
def PSs (X : Cx) (st : List Stmt) (t : TS) : Prop :=
  ∀ (pins : List (Addr × Obj)) (s : Shared) (σ : St) (H : Hp) (D : Ends), Inv X pins σ H s → t D σ H → wpAny (model X.prog X.w) X.A (execs st X.env) (SP X pins D) X.xe s
theorem thn {α : Type} {t : Sem α} {Q Q' : α → Shared → Prop} {M : Model} {A : Around} {E : Value → Shared → Prop} {s : Shared} (h : wpAny M A t Q E s) (hQ : ∀ a s, Q a s → Q' a s) : wpAny M A t Q' E s := wpAny_mono h hQ fun _ _ x => x
end L2
namespace L2
open PySem PySem.Spec PyProof.Rows
section
variable {X : Cx}
def tVar (i : Nat) : TE := fun σ H Q => ∃ v, σ[i]? = some (some v) ∧ Q v H
def tC (v : V) : TE := fun _ H Q => Q v H
theorem pe_var {i : Nat} {x : Str} {pos : Pos} (hN : X.N[i]? = some x) (hv : Vis X.env.scope x) (hd : (x == ("__debug__" : Str)) = false := by decide) (hcd : (x == ("__classdict__" : Str)) = false := by decide) : PE X (.Name x pos) (tVar i) := by
  intro pins s σ H Q I h
  obtain ⟨v, e, h⟩ := h
  obtain ⟨m, hn, hl⟩ := I.loc
  obtain ⟨u, r, l⟩ := hl i x v hN e hv
  have fin : EP X pins σ Q u s := ⟨v, H, I, r, h⟩
  rcases l with ⟨hk, hm⟩ | ⟨hk, c, hc, hcell⟩
  · exact wpAny_Name (wpAny_loadName_local I.ok.kind hk hn hm fin) hd
  · rcases hk with hk | hk
    · exact wpAny_Name (wpAny_loadName_cell I.ok.kind hk hc hcell fin) hd
    · exact wpAny_Name (wpAny_loadName_free I.ok.kind hk hc hcell fin hcd) hd
theorem pe_int {i j pos} : PE X (.Constant (.int i) j pos) (tC (.int i)) := fun _ _ _ H _ I h => wpAny_Constant_int ⟨.int i, H, I.tok _, ⟨_, rfl⟩, h⟩
theorem pe_bl {b j pos} : PE X (.Constant (.bool b) j pos) (tC (.bl b)) := fun _ _ _ H _ I h => Constant_bool ⟨.bl b, H, I, rfl, h⟩
theorem pe_non {j pos} : PE X (.Constant .none j pos) (tC .non) := fun _ _ _ H _ I h => Constant_none ⟨.non, H, I, rfl, h⟩
theorem pe_str {x j pos} : PE X (.Constant (.str x) j pos) (tC (.str x)) := fun _ _ _ H _ I h => Calls.Constant_str ⟨.str x, H, I.tok _, ⟨_, rfl⟩, h⟩
def Gl (X : Cx) (x : Str) : Prop := X.env.kindOf x = some .globalImplicit
theorem ld_glob {E : Value → Shared → Prop} {pins : List (Addr × Obj)} {s : Shared} {σ : St} {H : Hp} {x : Str} {u : Value} {pos : Pos} {Q : Value → Shared → Prop} (I : Inv X pins σ H s) (hg : Gl X x) (hm : X.mg x = some u) (h : Q u s)
    (hd : (x == ("__debug__" : Str)) = false := by decide) : wpAny (model X.prog X.w) X.A (eval (.Name x pos) X.env) Q E s :=
  Calls.Name_function_global I.ok.kind hg (Calls.loadGlobal_global (by rw [I.ok.glob]; exact I.mod.glob.keeps I.bk) hm h) hd
theorem ld_blt {E : Value → Shared → Prop} {pins : List (Addr × Obj)} {s : Shared} {σ : St} {H : Hp} {x : Str} {u : Value} {pos : Pos} {Q : Value → Shared → Prop} (I : Inv X pins σ H s) (hg : Gl X x) (hm : X.mg x = none) (hv : bootBuiltins x = some u) (h : Q u s)
    (hn : x ≠ "__name__" := by decide) (hd : (x == ("__debug__" : Str)) = false := by decide) : wpAny (model X.prog X.w) X.A (eval (.Name x pos) X.env) Q E s := by
  obtain ⟨mb, h1, h2⟩ := I.mod.blt
  exact Calls.Name_function_global I.ok.kind hg (Calls.loadGlobal_builtin (by rw [I.ok.glob]; exact I.mod.glob.keeps I.bk) hm (by rw [I.ok.blt]; exact h1.keeps I.bk) ((h2 x hn).trans hv) h) hd
theorem pe_glob {x : Str} {v : V} {u : Value} {pos : Pos} (hg : Gl X x) (hm : X.mg x = some u) (r : RelV v u) (hd : (x == ("__debug__" : Str)) = false := by decide) : PE X (.Name x pos) (tC v) :=
  fun _ _ _ H _ I h => ld_glob I hg hm ⟨v, H, I, r, h⟩ hd
theorem pe_bltn {x : Str} {v : V} {u : Value} {pos : Pos} (hg : Gl X x) (hm : X.mg x = none) (hv : bootBuiltins x = some u) (r : RelV v u) (hn : x ≠ "__name__" := by decide) (hd : (x == ("__debug__" : Str)) = false := by decide) : PE X (.Name x pos) (tC v) :=
  fun _ _ _ H _ I h => ld_blt I hg hm hv ⟨v, H, I, r, h⟩ hn hd
variable {a b : Expr} {ta tb : TE} {pos : Pos}
def PC (X : Cx) (op : CmpOp) (a b : Expr) (t : TE) : Prop :=
  ∀ (pins : List (Addr × Obj)) (s : Shared) (σ : St) (H : Hp) (Q : VK), Inv X pins σ H s → t σ H Q →
    wpAny (model X.prog X.w) X.A (eval a X.env) (fun v s₁ => wpAny (model X.prog X.w) X.A (eval b X.env) (fun u s₂ => wpAny (model X.prog X.w) X.A (compareOp op v u) (EP X pins σ Q) X.xe s₂) X.xe s₁) X.xe s
theorem nobehind (b : Expr) {op : CmpOp} (h : op ≠ .In) (h2 : op ≠ .NotIn) : behindInMarks op b = false := by
  have e1 : (op == CmpOp.In) = false := by cases op <;> first | rfl | exact absurd rfl h
  have e2 : (op == CmpOp.NotIn) = false := by cases op <;> first | rfl | exact absurd rfl h2
  cases b <;> simp [behindInMarks, e1, e2]
def tB (t : TE) : TT := fun σ H Q => t σ H fun x H1 => ∃ c, x = .bl c ∧ Q c H1
theorem pt_cmp {op : CmpOp} {t : TE} (h : PC X op a b t) (h1 : behindInMarks op b = false := by first | exact nobehind _ (by decide) (by decide) | rfl) : PT X (.Compare a [op] [b] pos) (tB t) := by
  intro pins s σ H Q I hw
  refine wpAny_isTrue_Compare1 (thn (h pins s σ H _ I hw) fun v s1 h1 => thn h1 fun u s2 h2 => thn h2 fun c s3 ⟨x, H1, I1, r1, q1⟩ => ?_) h1
  obtain ⟨d, rfl, q⟩ := q1
  cases r1
  exact wpAny_truthy_bool ⟨H1, I1, q⟩
theorem pt_val {e : Expr} {t : TE} (h : PE X e t) (he : ∀ whole, isTrue e X.env whole = (do let v ← whole; standAt e.pos; holding [v] (truthy v)) := by intro _; rfl) : PT X e (tB t) := by
  intro pins s σ H Q I hw
  refine isTrue_plain (thn (h pins s σ H _ I hw) fun v s1 ⟨x, H1, I1, r1, q1⟩ => ?_) (he _)
  obtain ⟨d, rfl, q⟩ := q1
  cases r1
  exact wpAny_truthy_bool ⟨H1, I1, q⟩
variable {tA tB' : TT} {rest : List Expr}
def tAnd (t u : TT) : TT := fun σ H Q => t σ H fun c H1 => if c = true then u σ H1 Q else Q false H1
def tOr (t u : TT) : TT := fun σ H Q => t σ H fun c H1 => if c = true then Q true H1 else u σ H1 Q
def tNot (t : TT) : TT := fun σ H Q => t σ H fun c H1 => Q (!c) H1
theorem pw_or1 (ha : PT X a tA) : PW X (.BoolOp .Or [a] pos) tA := by
  intro wh pins s σ H Q I h
  refine isTrue_or (thn (ha pins s σ H Q I h) fun c s1 e => ?_)
  cases c with
  | false => exact isTrue_or_nil e
  | true => exact e
theorem pw_or (ha : PT X a tA) (hb : PW X (.BoolOp .Or (b :: rest) pos) tB') : PW X (.BoolOp .Or (a :: b :: rest) pos) (tOr tA tB') := by
  intro wh pins s σ H Q I h
  refine isTrue_or (thn (ha pins s σ H _ I h) fun c s1 ⟨H1, I1, q1⟩ => ?_)
  cases c with
  | true => exact ⟨H1, I1, q1⟩
  | false => exact hb wh pins s1 σ H1 Q I1 q1
theorem pt_not (ha : PT X a tA) : PT X (.UnaryOp .Not a pos) (tNot tA) := by
  intro pins s σ H Q I h
  exact isTrue_not (ha pins s σ H (fun c H1 => Q (!c) H1) I h)
def tAndV (ta tb : TE) : TE := fun σ H Q => ta σ H fun x H1 => ∃ c, x = .bl c ∧ if c = true then tb σ H1 Q else Q (.bl false) H1
def tOrV (ta tb : TE) : TE := fun σ H Q => ta σ H fun x H1 => ∃ c, x = .bl c ∧ if c = true then Q (.bl true) H1 else tb σ H1 Q
def tNotV (ta : TE) : TE := fun σ H Q => ta σ H fun x H1 => ∃ c, x = .bl c ∧ Q (.bl (!c)) H1
theorem pe_not (ha : PE X a ta) : PE X (.UnaryOp .Not a pos) (tNotV ta) := by
  intro pins s σ H Q I h
  refine UnaryOp_ (thn (ha pins s σ H _ I h) fun v s1 ⟨x, H1, I1, r1, q1⟩ => ?_)
  obtain ⟨c, rfl, q1⟩ := q1
  cases r1
  exact not_of (wpAny_truthy_bool ⟨.bl (!c), H1, I1, rfl, q1⟩)
def tIf (t : TT) (ta tb : TE) : TE := fun σ H Q => t σ H fun c H1 => if c = true then ta σ H1 Q else tb σ H1 Q
theorem pe_ifExp {c : Expr} (hc : PT X c tA) (ha : PE X a ta) (hb : PE X b tb) : PE X (.IfExp c a b pos) (tIf tA ta tb) := by
  intro pins s σ H Q I h
  refine wpAny_IfExp (thn (hc pins s σ H _ I h) fun d s1 ⟨H1, I1, q1⟩ => ?_)
  cases d with
  | true => exact ha pins s1 σ H1 Q I1 q1
  | false => exact hb pins s1 σ H1 Q I1 q1
end
end L2
namespace L2
open PySem PySem.Spec PyProof.Rows
def SqL (K : PySem.W.Frag) (H : Hp) (a : Addr) (xs : List V) : Prop :=
  Rd H a (.lst xs) ∨
    ∃ (o : Obj) (its : Array Value) (n : Nat), K.lookup a = some o ∧ o.cls = .type "list" ∧ o.dict = none ∧ o.data = .seq its n ∧ its.size ≤ sizeLine ∧ Vals xs its.toList
def SqT (K : PySem.W.Frag) (H : Hp) (a : Addr) (xs : List V) : Prop :=
  Rd H a (.tup xs) ∨
    ∃ (o : Obj) (its : Array Value) (n : Nat), K.lookup a = some o ∧ o.cls = .type "tuple" ∧ o.data = .seq its n ∧ its.size ≤ sizeLine ∧ Vals xs its.toList
def absV : Value → Option V
  | .none => some .non
  | .bool b => some (.bl b)
  | .int i _ => some (.int i)
  | .str x _ => some (.str x)
  | .bytes b _ => some (.byt b)
  | .float b _ => some (.flt b)
  | .ref a => some (.ref a)
  | .type n => some (.ty n)
  | _ => none
theorem RelV.abs {x : V} {u : Value} (r : RelV x u) : absV u = some x := by
  cases x with
  | non => cases r; rfl
  | bl _ => cases r; rfl
  | int _ => obtain ⟨t, rfl⟩ := r; rfl
  | str _ => obtain ⟨t, rfl⟩ := r; rfl
  | byt _ => obtain ⟨t, rfl⟩ := r; rfl
  | flt _ => obtain ⟨t, rfl⟩ := r; rfl
  | ref _ => cases r; rfl
  | ty _ => cases r; rfl
theorem RelV.inj {x y : V} {u : Value} (r : RelV x u) (q : RelV y u) : x = y := Option.some.inj (r.abs.symm.trans q.abs)
theorem Vals.inj : ∀ {xs ys : List V} {us : List Value}, Vals xs us → Vals ys us → xs = ys
  | _, _, _, .nil, .nil => rfl
  | _, _, _, .cons r t, .cons r' t' => by rw [r.inj r', Vals.inj t t']
section
variable {X : Cx} {pins : List (Addr × Obj)} {σ : St} {H : Hp} {s : Shared} {a : Addr} {xs ys : List V}
theorem SqL.of {K : PySem.W.Frag} (h : H a = some (.lst xs)) : SqL K H a xs := .inl (.inl h)
theorem SqT.of {K : PySem.W.Frag} (h : H a = some (.tup xs)) : SqT K H a xs := .inl (.inl h)
theorem Inv.list (I : Inv X pins σ H s) (h : SqL X.K H a xs) : ∃ its : List Value, Vals xs its ∧ PlainL s.heap a its.toArray ∧ xs.length ≤ sizeLine := by
  rcases h with h | ⟨o, its, n, hk, hc, hd, hs, hz, r⟩
  · obtain ⟨z, its, n, r, e⟩ := h.ok I.hok
    exact ⟨its, r, ⟨_, n, e, rfl, rfl, rfl⟩, z⟩
  · refine ⟨its.toList, r, ⟨o, n, I.kIn a o hk, hc, hd, by simpa using hs⟩, ?_⟩
    have e := r.length
    simp only [Array.length_toList] at e
    omega
theorem Inv.tuple (I : Inv X pins σ H s) (h : SqT X.K H a xs) : ∃ its : List Value, Vals xs its ∧ IsTup s.heap a its.toArray ∧ xs.length ≤ sizeLine := by
  rcases h with h | ⟨o, its, n, hk, hc, hs, hz, r⟩
  · obtain ⟨z, its, r, p⟩ := h.ok I.hok
    exact ⟨its, r, p, z⟩
  · refine ⟨its.toList, r, ⟨o, I.kIn a o hk, hc, n, by simpa using hs⟩, ?_⟩
    have e := r.length
    simp only [Array.length_toList] at e
    omega
theorem Inv.list_inj (I : Inv X pins σ H s) (h : SqL X.K H a xs) (h' : SqL X.K H a ys) : xs = ys := by
  obtain ⟨its, r, ⟨o, n, e, _, _, d⟩, _⟩ := I.list h
  obtain ⟨its', r', ⟨o', n', e', _, _, d'⟩, _⟩ := I.list h'
  rw [e] at e'; cases e'
  rw [d] at d'
  injection d' with d1 _
  have : its = its' := by simpa using congrArg Array.toList d1
  subst this
  exact r.inj r'
theorem Inv.tuple_inj (I : Inv X pins σ H s) (h : SqT X.K H a xs) (h' : SqT X.K H a ys) : xs = ys := by
  obtain ⟨its, r, ⟨o, e, _, n, d⟩, _⟩ := I.tuple h
  obtain ⟨its', r', ⟨o', e', _, n', d'⟩, _⟩ := I.tuple h'
  rw [e] at e'; cases e'
  rw [d] at d'
  injection d' with d1 _
  have : its = its' := by simpa using congrArg Array.toList d1
  subst this
  exact r.inj r'
end
abbrev Cx.wish (X : Cx) (E : Value → Shared → Prop) : Cx := { X with xe := E }
abbrev Cx.nox (X : Cx) : Cx := X.wish fun _ _ => False
theorem Cx.Ok.wish {X : Cx} (ok : X.Ok) (E : Value → Shared → Prop) : (X.wish E).Ok :=
  ⟨ok.mod, ok.kind, ok.glob, ok.blt, ok.above, ok.inj, ok.has, ok.cab, ok.hd, ok.frames, ok.stk, ok.exf, ok.bs, ok.bsz, ok.noex, ok.exfs, ok.funs, ok.frf⟩
theorem Cx.Ok.unwish {X : Cx} {E : Value → Shared → Prop} (ok : (X.wish E).Ok) : X.Ok :=
  ⟨ok.mod, ok.kind, ok.glob, ok.blt, ok.above, ok.inj, ok.has, ok.cab, ok.hd, ok.frames, ok.stk, ok.exf, ok.bs, ok.bsz, ok.noex, ok.exfs, ok.funs, ok.frf⟩
section
variable {X : Cx} {pins : List (Addr × Obj)} {σ : St} {H : Hp} {s : Shared} {E : Value → Shared → Prop}
theorem Inv.wish (I : Inv X pins σ H s) (E : Value → Shared → Prop) : Inv (X.wish E) pins σ H s := ⟨I.ok.wish E, I.os, I.bare, I.base, I.loc, I.cell, I.free, I.freeC, I.pin, I.hok, I.len⟩
theorem Inv.unwish (I : Inv (X.wish E) pins σ H s) : Inv X pins σ H s := ⟨I.ok.unwish, I.os, I.bare, I.base, I.loc, I.cell, I.free, I.freeC, I.pin, I.hok, I.len⟩
theorem SP.unwish {D : Ends} {f : Flow} {s' : Shared} (h : SP (X.wish E) pins D f s') : SP X pins D f s' := by
  cases f with
  | next => obtain ⟨σ', H', I, q⟩ := h; exact ⟨σ', H', I.unwish, q⟩
  | brk => obtain ⟨σ', H', I, q⟩ := h; exact ⟨σ', H', I.unwish, q⟩
  | cont => obtain ⟨σ', H', I, q⟩ := h; exact ⟨σ', H', I.unwish, q⟩
  | ret u => obtain ⟨v, σ', H', I, r, q⟩ := h; exact ⟨v, σ', H', I.unwish, r, q⟩
theorem PSs.nox {st : List Stmt} {t : TS} (h : PSs X.nox st t) : PSs X st t := fun pins s σ H D I hw =>
  wpAny_mono (h pins s σ H D (I.wish _) hw) (fun _ _ q => q.unwish) fun _ _ z => False.elim z
end
section
variable {X : Cx} {st : Stmt} {rest : List Stmt} {t u : TS} {e : Expr} {te : TE} {pos : Pos}
def tNext : TS := fun D σ H => D.nx σ H
def tSeq (t u : TS) : TS := fun D σ H => t { D with nx := u D } σ H
theorem pss_nil : PSs X [] tNext := fun _ _ σ H _ I h => wpAny_execs_nil ⟨σ, H, I, h⟩
theorem pss_cons (h1 : PS X st t) (h2 : PSs X rest u) : PSs X (st :: rest) (tSeq t u) := by
  intro pins s σ H D I h
  refine wpAny_execs_cons (thn (h1 pins s σ H { D with nx := u D } I h) fun f s1 q => ?_)
  cases f with
  | next =>
    obtain ⟨σ', H', I', q⟩ := q
    exact h2 pins s1 σ' H' D I' q
  | ret v => exact q
  | brk => exact q
  | cont => exact q
theorem pss_one (h1 : PS X st t) : PSs X [st] t := by
  intro pins s σ H D I h
  refine wpAny_execs_cons (thn (h1 pins s σ H D I h) fun f s1 q => ?_)
  cases f with
  | next => exact wpAny_execs_nil q
  | ret v => exact q
  | brk => exact q
  | cont => exact q
theorem Inv.quiet {pins : List (Addr × Obj)} {σ : St} {H : Hp} {s : Shared} (I : Inv X pins σ H s) : interactive X.env = false := by simp [interactive, I.ok.kind]
def tDrop (te : TE) : TS := fun D σ H => te σ H fun _ H1 => D.nx σ H1
theorem ps_expr (he : PE X e te) (hs : swapsWith e none pos.line X.env = pure false := by rfl) : PS X (.Expr e pos) (tDrop te) := by
  intro pins s σ H D I h
  exact wpAny_Expr_any (thn (he pins s σ H _ I h) fun v s1 ⟨x, H1, I1, r1, q1⟩ => ⟨σ, H1, I1, q1⟩) I.quiet hs
def tRet (te : TE) : TS := fun D σ H => te σ H D.rt
theorem ps_ret (he : PE X e te) : PS X (.Return (some e) pos) (tRet te) := by
  intro pins s σ H D I h
  exact wpAny_Return_some (thn (he pins s σ H _ I h) fun v s1 ⟨x, H1, I1, r1, q1⟩ => ⟨x, σ, H1, I1, r1, q1⟩)
def tRetN : TS := fun D _ H => D.rt .non H
def tIfS (c : TT) (t u : TS) : TS := fun D σ H => c σ H fun b H1 => if b = true then t D σ H1 else u D σ H1
theorem ps_if {c : Expr} {a b : List Stmt} {tc : TT} (hc : PT X c tc) (ha : PSs X a t) (hb : PSs X b u) : PS X (.If c a b pos) (tIfS tc t u) := by
  intro pins s σ H D I h
  refine wpAny_If (thn (hc pins s σ H _ I h) fun d s1 ⟨H1, I1, q1⟩ => ?_)
  cases d with
  | true => exact ha pins s1 σ H1 D I1 q1
  | false => exact hb pins s1 σ H1 D I1 q1
def tNever : TS := fun _ _ _ => False
theorem ps_never : PS X st tNever := fun _ _ _ _ _ _ h => h.elim
end
abbrev TG := V → St → Hp → (St → Hp → Prop) → Prop
abbrev TGs := List V → St → Hp → (St → Hp → Prop) → Prop
def PG (X : Cx) (target : Expr) (t : TG) : Prop :=
  ∀ (pins : List (Addr × Obj)) (s : Shared) (σ : St) (H : Hp) (v : V) (u : Value) (Q : St → Hp → Prop), Inv X pins σ H s → RelV v u → t v σ H Q →
    wpAny (model X.prog X.w) X.A (assign target X.env u) (fun _ s' => ∃ σ' H', Inv X pins σ' H' s' ∧ Q σ' H') X.xe s
def PGs (X : Cx) (ts : List Expr) (t : TGs) : Prop :=
  ∀ (pins : List (Addr × Obj)) (s : Shared) (σ : St) (H : Hp) (vs : List V) (us : List Value) (Q : St → Hp → Prop), Inv X pins σ H s → Vals vs us → t vs σ H Q →
    wpAny (model X.prog X.w) X.A (assignInOrder ((assignEach ts X.env).map (·.2)) us) (fun _ s' => ∃ σ' H', Inv X pins σ' H' s' ∧ Q σ' H') X.xe s
abbrev TSet := V → V → V → Hp → (Hp → Prop) → Prop
def PSet (X : Cx) (t : TSet) : Prop :=
  ∀ (pins : List (Addr × Obj)) (s : Shared) (σ : St) (H : Hp) (o i v : V) (ov iv u : Value) (Q : Hp → Prop), Inv X pins σ H s → RelV o ov → RelV i iv → RelV v u → t o i v H Q →
    wpAny (model X.prog X.w) X.A (setItem ov iv u) (fun _ s' => ∃ H', Inv X pins σ H' s' ∧ Q H') X.xe s
abbrev TIp := V → V → Hp → VK → Prop
def PIp (X : Cx) (op : Operator) (t : TIp) : Prop :=
  ∀ (pins : List (Addr × Obj)) (s : Shared) (σ : St) (H : Hp) (x y : V) (v u : Value) (Q : VK), Inv X pins σ H s → RelV x v → RelV y u → t x y H Q →
    wpAny (model X.prog X.w) X.A (inplaceOp op v u) (EP X pins σ Q) X.xe s
section
variable {X : Cx} {pos : Pos}
def gName (i : Nat) : TG := fun v σ H Q => Q (σ.set i (some v)) H
theorem pg_name {i : Nat} {x : Str} (hN : X.N.Nodup) (hi : X.N[i]? = some x) (hx : Loc X.env.scope x) (hf : X.fn x = true ∨ X.env.scope.names.lookup x = some .local := by first | exact .inl rfl | exact .inr rfl | assumption) : PG X (.Name x pos) (gName i) := by
  intro pins s σ H v u Q I r h
  exact wpAny_assign_Name (store_ok I hN hi hx r (fun s' I' => ⟨_, H, I', h⟩) hf)
def gNil : TGs := fun vs σ H Q => vs = [] ∧ Q σ H
def gCons (t : TG) (u : TGs) : TGs := fun vs σ H Q => ∃ v r, vs = v :: r ∧ t v σ H fun σ' H' => u r σ' H' Q
theorem pgs_nil : PGs X [] gNil := by
  intro pins s σ H vs us Q I r h
  obtain ⟨e, h⟩ := h
  subst e
  cases r
  exact assignInOrder_nil ⟨σ, H, I, h⟩
theorem pgs_cons {e : Expr} {es : List Expr} {t : TG} {u : TGs} (h1 : PG X e t) (h2 : PGs X es u)
    (hs : (assignEach (e :: es) X.env).map (·.2) = assign e X.env :: (assignEach es X.env).map (·.2) := by rfl) : PGs X (e :: es) (gCons t u) := by
  intro pins s σ H vs us Q I r h
  obtain ⟨v, vr, e1, h⟩ := h
  subst e1
  cases r with
  | cons r rr =>
    rw [hs]
    refine assignInOrder_cons (thn (h1 pins s σ H _ _ _ I r h) fun _ s1 ⟨σ1, H1, I1, q1⟩ => ?_)
    exact h2 pins s1 σ1 H1 _ _ Q I1 rr q1
def gTup (K : PySem.W.Frag) (n : Nat) (t : TGs) : TG := fun v σ H Q => ∃ a xs, v = .ref a ∧ SqT K H a xs ∧ xs.length = n ∧ t xs σ H Q
theorem pg_tup {es : List Expr} {k : Nat} {t : TGs} {n : Nat} (hc : X.calm = true) (h : PGs X es t)
    (hn : (assignEach es X.env).length = n := by rfl) (hst : (assignEach es X.env).findIdx? (·.1) = none := by rfl) : PG X (.Tuple es k pos) (gTup X.K n t) := by
  intro pins s σ H v u Q I r hw
  obtain ⟨a, xs, e1, hq, hl, hw⟩ := hw
  subst e1
  cases r
  obtain ⟨its, rv, ht, hz⟩ := I.tuple hq
  refine assign_Tuple_tuple (I.ok.hd hc) ht (by simp [hn, ← hl, rv.length]) hst fun h' hx => ?_
  have I1 : Inv X pins σ H { s with heap := h' } := I.kept (t' := s.toks) fun b o e => hx b o (Nat.ne_of_lt (Heap.lt_size e)) e
  exact h pins _ σ H xs _ Q I1 (by simpa using rv) hw
def gSub (to ti : TE) (t : TSet) : TG := fun v σ H Q => to σ H fun o H1 => ti σ H1 fun i H2 => t o i v H2 fun H3 => Q σ H3
theorem pg_sub {o i : Expr} {to ti : TE} {t : TSet} (ho : PE X o to) (hi : PE X i ti) (hs : PSet X t)
    (ha : ∀ v, assign (.Subscript o i pos) X.env v = (do
      let ov ← holding [v] (eval o X.env)
      let iv ← holding [v, ov] (eval i X.env)
      standAt pos
      holding [v, ov, iv] (setItem ov iv v)
      release [v, ov, iv] []) := by intro _; rfl) : PG X (.Subscript o i pos) (gSub to ti t) := by
  intro pins s σ H v u Q I r h
  rw [ha]
  refine wpAny_bind (wpAny_holding (thn (ho pins s σ H _ I h) fun ov s1 ⟨x, H1, I1, r1, q1⟩ => ?_))
  refine wpAny_bind (wpAny_holding (thn (hi pins s1 σ H1 _ I1 q1) fun iv s2 ⟨y, H2, I2, r2, q2⟩ => ?_))
  refine wpAny_bind (wpAny_standAt (wpAny_bind (wpAny_holding (thn (hs pins s2 σ H2 x y v ov iv u _ I2 r1 r2 r q2) fun _ s3 ⟨H3, I3, q3⟩ => ?_))))
  exact wpAny_release ⟨σ, H3, I3, q3⟩
def tAsg (te : TE) (g : TG) : TS := fun D σ H => te σ H fun x H1 => g x σ H1 D.nx
theorem ps_asg {tg e : Expr} {te : TE} {g : TG} (he : PE X e te) (hg : PG X tg g) (hs : swapsWithSole [tg] e pos.line X.env = pure false := by rfl) (hw : swappedStores [tg] e X.env = pure none := by rfl)
    (h1 : (assignEach [tg] X.env).map (·.2) = [assign tg X.env] := by rfl) : PS X (.Assign [tg] e pos) (tAsg te g) := by
  intro pins s σ H D I h
  refine wpAny_Assign_stores (thn (he pins s σ H _ I h) fun v s1 ⟨x, H1, I1, r1, q1⟩ => ?_) hs hw
  rw [h1]
  exact thn (hg pins s1 σ H1 x v _ I1 r1 q1) fun _ s2 q => q
theorem ps_set {i : Nat} {x : Str} {e : Expr} {te : TE} {pos' : Pos} (hN : X.N.Nodup) (hi : X.N[i]? = some x) (hx : Loc X.env.scope x) (he : PE X e te) (hs : swapsWith e (some (.Name x pos')) pos.line X.env = pure false := by rfl) (hf : X.fn x = true ∨ X.env.scope.names.lookup x = some .local := by first | exact .inl rfl | exact .inr rfl | assumption) :
    PS X (.Assign [.Name x pos'] e pos) (tAsg te (gName i)) := by
  intro pins s σ H D I h
  refine wpAny_Assign_Name (thn (he pins s σ H _ I h) fun v s1 ⟨y, H1, I1, r1, q1⟩ => ?_) hs
  exact store_ok I1 hN hi hx r1 (fun s2 I2 => ⟨_, H1, I2, q1⟩) hf
def tPar (i j : Nat) (ta : TA) : TS := fun D σ H => ta σ H fun vs H1 => ∃ v w, vs = [v, w] ∧ D.nx ((σ.set i (some v)).set j (some w)) H1
def tAug (i : Nat) (te : TE) (ti : TIp) : TS := fun D σ H => ∃ x, σ[i]? = some (some x) ∧ te σ H fun y H1 => ti x y H1 fun z H2 => D.nx (σ.set i (some z)) H2
theorem ps_aug {i : Nat} {x : Str} {e : Expr} {te : TE} {op : Operator} {ti : TIp} {pos' : Pos} (hN : X.N.Nodup) (hi : X.N[i]? = some x) (hx : Loc X.env.scope x) (he : PE X e te) (ho : PIp X op ti) (hf : X.fn x = true ∨ X.env.scope.names.lookup x = some .local := by first | exact .inl rfl | exact .inr rfl | assumption) :
    PS X (.AugAssign (.Name x pos') op e pos) (tAug i te ti) := by
  intro pins s σ H D I h
  obtain ⟨v, e1, h⟩ := h
  obtain ⟨m, hn, hl⟩ := I.loc
  have vis : Vis X.env.scope x := by rcases hx with k | k; exact .inl k; exact .inr (.inl k)
  obtain ⟨u, r, l⟩ := hl i x v hi e1 vis
  refine wpAny_AugAssign_Name ?_
  have go : wpAny (model X.prog X.w) X.A (eval e X.env) (fun w s₂ => wpAny (model X.prog X.w) X.A (inplaceOp op u w) (fun r s₃ => wpAny (model X.prog X.w) X.A (storeName X.env x r) (fun _ => SP X pins D .next) X.xe s₃) X.xe s₂) X.xe s := by
    refine thn (he pins s σ H _ I h) fun w s1 ⟨y, H1, I1, r1, q1⟩ => ?_
    refine thn (ho pins s1 σ H1 v y u w _ I1 r r1 q1) fun z s2 ⟨zv, H2, I2, r2, q2⟩ => ?_
    exact store_ok I2 hN hi hx r2 (fun s3 I3 => ⟨_, H2, I3, q2⟩) hf
  rcases l with ⟨hk, hm⟩ | ⟨hk, c, hc, hcell⟩
  · exact wpAny_loadName_local I.ok.kind hk hn hm go
  · rcases hk with hk | hk
    · exact wpAny_loadName_cell I.ok.kind hk hc hcell go
    · rcases hx with k | k
      · have : X.env.scope.names.lookup x = some .free := hk
        rw [k] at this; cases this
      · have : X.env.scope.names.lookup x = some .free := hk
        rw [k] at this; cases this
def tAugS (to ti te : TE) (tget : V → V → Hp → VK → Prop) (tip : TIp) (tset : TSet) : TS := fun D σ H => to σ H fun o H1 => ti σ H1 fun i H2 => tget o i H2 fun x H3 => te σ H3 fun y H4 => tip x y H4 fun z H5 => tset o i z H5 fun H6 => D.nx σ H6
def PGet (X : Cx) (t : V → V → Hp → VK → Prop) : Prop :=
  ∀ (pins : List (Addr × Obj)) (s : Shared) (σ : St) (H : Hp) (o i : V) (ov iv : Value) (Q : VK), Inv X pins σ H s → RelV o ov → RelV i iv → t o i H Q →
    wpAny (model X.prog X.w) X.A (getItem ov iv) (EP X pins σ Q) X.xe s
theorem ps_augS {o i e : Expr} {to ti te : TE} {tget : V → V → Hp → VK → Prop} {tip : TIp} {tset : TSet} {op : Operator} {tpos : Pos} (ho : PE X o to) (hi : PE X i ti) (hg : PGet X tget) (he : PE X e te) (hp : PIp X op tip) (hs : PSet X tset)
    (ha : ∀ ov iv new, augStore i ov iv new = (do holding [new, ov, iv] (setItem ov iv new); release [new, ov, iv] []; pure .next) := by intros; rfl) : PS X (.AugAssign (.Subscript o i tpos) op e pos) (tAugS to ti te tget tip tset) := by
  intro pins s σ H D I h
  refine wpAny_AugAssign_SubscriptAny (thn (ho pins s σ H _ I h) fun ov s1 ⟨x1, H1, I1, r1, q1⟩ => ?_) ha
  refine thn (hi pins s1 σ H1 _ I1 q1) fun iv s2 ⟨x2, H2, I2, r2, q2⟩ => ?_
  refine thn (hg pins s2 σ H2 x1 x2 ov iv _ I2 r1 r2 q2) fun old s3 ⟨x3, H3, I3, r3, q3⟩ => ?_
  refine thn (he pins s3 σ H3 _ I3 q3) fun v s4 ⟨x4, H4, I4, r4, q4⟩ => ?_
  refine thn (hp pins s4 σ H4 x3 x4 old v _ I4 r3 r4 q4) fun new s5 ⟨x5, H5, I5, r5, q5⟩ => ?_
  exact thn (hs pins s5 σ H5 x1 x2 x5 ov iv new _ I5 r1 r2 r5 q5) fun _ s6 ⟨H6, I6, q6⟩ => ⟨σ, H6, I6, q6⟩
def ipI (f : Int → Int → Int) : TIp := fun x y H Q => ∃ i j, x = .int i ∧ y = .int j ∧ Q (.int (f i j)) H
theorem ip_add : PIp X .Add (ipI fun i j => i + j) := by
  intro pins s σ H x y v u Q I r1 r2 h
  obtain ⟨i, j, e1, e2, q⟩ := h
  subst e1; subst e2
  obtain ⟨t, rfl⟩ := r1
  obtain ⟨t', rfl⟩ := r2
  exact iadd_int ⟨.int _, H, I.tok _, ⟨_, rfl⟩, q⟩
theorem ip_sub : PIp X .Sub (ipI fun i j => i - j) := by
  intro pins s σ H x y v u Q I r1 r2 h
  obtain ⟨i, j, e1, e2, q⟩ := h
  subst e1; subst e2
  obtain ⟨t, rfl⟩ := r1
  obtain ⟨t', rfl⟩ := r2
  exact isub_int ⟨.int _, H, I.tok _, ⟨_, rfl⟩, q⟩
end
section
variable {X : Cx} {pos : Pos}
def tWhile (c : TT) (tb : TS) : TS := fun D σ H => ∃ W : Nat → St → Hp → Prop, (∃ m, W m σ H) ∧ ∀ m σ H, W m σ H →
  c σ H fun b H1 => if b = true then ∃ N : St → Hp → Prop, (∀ σ' H', N σ' H' → ∃ m', m' < m ∧ W m' σ' H') ∧ tb { D with nx := N, ct := N, bk := D.nx } σ H1 else D.nx σ H1
theorem ps_while {c : Expr} {body : List Stmt} {tc : TT} {tb : TS} (hp : PassesOwn (model X.prog X.w) X.A X.env X.xe) (hc : PT X c tc) (hb : PSs X body tb) : PS X (.While c body [] pos) (tWhile tc tb) := by
  intro pins s σ H D I h
  obtain ⟨W, ⟨m0, w0⟩, turn⟩ := h
  refine wpAny_While (codeAny_whileLoop (fun n s' => ∃ σ' H', Inv X pins σ' H' s' ∧ W n σ' H') ?_ m0 ⟨σ, H, I, w0⟩)
  rintro n s1 ⟨σ1, H1, I1, w1⟩
  refine wpAny_passesOwn hp (thn (hc pins s1 σ1 H1 _ I1 (turn n σ1 H1 w1)) fun b s2 ⟨H2, I2, q2⟩ => ?_)
  cases b with
  | true =>
    obtain ⟨N, hN, q2⟩ := q2
    rw [if_pos rfl]
    refine wpAny_passesOwn hp (thn (hb pins s2 σ1 H2 _ I2 q2) fun f s3 q3 => ?_)
    cases f with
    | next =>
      obtain ⟨σ3, H3, I3, n3⟩ := q3
      obtain ⟨m', hm, w3⟩ := hN σ3 H3 n3
      exact ⟨m', hm, σ3, H3, I3, w3⟩
    | cont =>
      obtain ⟨σ3, H3, I3, n3⟩ := q3
      obtain ⟨m', hm, w3⟩ := hN σ3 H3 n3
      exact ⟨m', hm, σ3, H3, I3, w3⟩
    | brk => exact q3
    | ret v => exact q3
  | false =>
    rw [if_neg Bool.false_ne_true]
    exact wpAny_execs_nil ⟨σ1, H2, I2, q2⟩
end
structure It where
  go : Nat → Hp → Prop
  yld : Nat → Hp → V → Hp → Prop
  stop : Nat → Hp → Prop
def FpOk (X : Cx) (pins : List (Addr × Obj)) (H : Hp) (b : Addr) : Prop :=
  H b = none ∧ b ≠ X.env.locals ∧ b ∉ X.fs ∧ (b ∈ X.ex ∨ X.s₀.heap.objs.size ≤ b) ∧ (∀ x c, X.env.cells.lookup x = some c → c ≠ b) ∧ ∀ p ∈ X.pn ++ pins, p.1 ≠ b
theorem Inv.fpOk {X : Cx} {pins : List (Addr × Obj)} {σ : St} {H H' : Hp} {s : Shared} {b : Addr} (I : Inv X pins σ H s) (hb : s.heap.objs.size ≤ b) (hn : H' b = none) : FpOk X pins H' b := by
  refine ⟨hn, Nat.ne_of_gt (Nat.lt_of_lt_of_le I.lt hb), I.nofs hb, .inr (Nat.le_trans I.sz hb), fun x c e z => ?_, fun p hp z => ?_⟩
  · obtain ⟨v, q⟩ := I.cell x c e
    exact absurd (Nat.lt_of_lt_of_le q.lt (by rw [z]; exact hb)) (Nat.lt_irrefl _)
  · exact absurd (Nat.lt_of_lt_of_le (Heap.lt_size (I.pin p hp).1) (by rw [z]; exact hb)) (Nat.lt_irrefl _)
structure Turn (P : Program) (w : World) (K : PySem.W.Frag) (tg : Expr) (J : It) (fp : List Addr) (it : Addr) (tn : Nat → Heap → Prop) : Prop where
  mem : it ∈ fp
  obj : ∀ i h, tn i h → ∀ b ∈ fp, ∃ o, h.get? b = some o ∧ ∀ v, o.data ≠ .cell v
  keep : ∀ i h h', tn i h → (∀ b ∈ fp, ∀ o, h.get? b = some o → h'.get? b = some o) → tn i h'
  item : ∀ (X : Cx), X.prog = P → X.w = w → X.K = K → X.calm = true → ∀ (i : Nat) (pins : List (Addr × Obj)) (s : Shared) (σ : St) (H : Hp) (E : Value → Shared → Prop), Inv X pins σ H s → (∀ b ∈ fp, FpOk X pins H b) → tn i s.heap → J.go i H →
    wpAny (model P w) X.A (pyNext (.ref it)) (fun r s1 => ∃ u, r = some u ∧
      wpAny (model P w) X.A (letOwnedTupleGo tg (.ref it) u) (fun _ s2 => ∃ x H', Inv X pins σ H' s2 ∧ RelV x u ∧ J.yld i H x H' ∧ tn (i + 1) s2.heap ∧ ∀ b ∈ fp, H' b = none) E s1) E s
  done : ∀ (X : Cx), X.prog = P → X.w = w → X.K = K → X.calm = true → ∀ (i : Nat) (pins : List (Addr × Obj)) (s : Shared) (σ : St) (H : Hp) (E : Value → Shared → Prop), Inv X pins σ H s → (∀ b ∈ fp, FpOk X pins H b) → tn i s.heap → J.stop i H →
    wpAny (model P w) X.A (pyNext (.ref it)) (fun r s1 => r = none ∧ Inv X pins σ H s1) E s
  self : ∀ (A : Around) (i : Nat) (s : Shared) (Q : Value → Shared → Prop) (E : Value → Shared → Prop), tn i s.heap → Q (.ref it) s → wpAny (model P w) A (pyIter (.ref it)) Q E s
abbrev TI := St → Hp → (It → Hp → Prop) → Prop
def PIE (X : Cx) (pins : List (Addr × Obj)) (σ : St) (tg : Expr) (R : It → Hp → Prop) (itv : Value) (s2 : Shared) : Prop :=
  ∃ (it : Addr) (fp : List Addr) (tn : Nat → Heap → Prop) (J : It) (H' : Hp), itv = .ref it ∧ Inv X pins σ H' s2 ∧ Turn X.prog X.w X.K tg J fp it tn ∧ tn 0 s2.heap ∧ (∀ b ∈ fp, FpOk X pins H' b) ∧ R J H'
def PI (X : Cx) (tg iter : Expr) (wi : TI) : Prop :=
  ∀ (pins : List (Addr × Obj)) (s : Shared) (σ : St) (H : Hp) (R : It → Hp → Prop), Inv X pins σ H s → wi σ H R →
    wpAny (model X.prog X.w) X.A (eval iter X.env) (fun v s1 => wpAny (model X.prog X.w) X.A (pyIter v) (PIE X pins σ tg R) X.xe s1) X.xe s
theorem go_of {M : Model} {A : Around} {E : Value → Shared → Prop} {s : Shared} {tg : Expr} {it : Addr} {u : Value} {o : Obj} {n : String} {vs : Array Value} {Q : Unit → Shared → Prop} (ho : s.heap.get? it = some o) (hc : o.cls = .type n) (hd : o.data = .fields vs)
    (hn : ["enumerate", "zip", "dict_itemiterator", "dict_reverseitemiterator", "odict_iterator", "itertools.zip_longest", "itertools.pairwise"].contains n = false) (hQ : Q () s) : wpAny M A (letOwnedTupleGo tg (.ref it) u) Q E s := by
  unfold letOwnedTupleGo
  cases tg <;> first
    | exact wpAny_pure hQ
    | (cases u <;> first
        | exact wpAny_pure hQ
        | (refine wpAny_bind (wpAny_load ho ?_)
           rw [hc, hd]
           show wpAny M A (if (["enumerate", "zip", "dict_itemiterator", "dict_reverseitemiterator", "odict_iterator", "itertools.zip_longest", "itertools.pairwise"].contains n && vs[0]? == some (rawInt _)) = true then _ else _) Q E s
           rw [if_neg (by intro h; rw [hn, Bool.false_and] at h; cases h)]
           exact wpAny_pure hQ))
def Itl (K : PySem.W.Frag) (a : Addr) : It :=
  ⟨fun i H => ∃ xs x, SqL K H a xs ∧ xs[i]? = some x, fun i H x H' => H' = H ∧ ∀ xs, SqL K H a xs → xs[i]? = some x, fun i H => ∃ xs, SqL K H a xs ∧ xs.length ≤ i⟩
def Itt (K : PySem.W.Frag) (a : Addr) : It :=
  ⟨fun i H => ∃ xs x, SqT K H a xs ∧ xs[i]? = some x, fun i H x H' => H' = H ∧ ∀ xs, SqT K H a xs → xs[i]? = some x, fun i H => ∃ xs, SqT K H a xs ∧ xs.length ≤ i⟩
def Itr (lo : Int) (n : Nat) : It := ⟨fun i _ => i < n, fun i H x H' => H' = H ∧ x = .int (lo + i), fun i _ => n ≤ i⟩
theorem turn_list {P : Program} {w : World} {K : PySem.W.Frag} {tg : Expr} (a it : Addr) : Turn P w K tg (Itl K a) [it] it (fun i h => h.IsListIter it a i) where
  mem := by simp
  obj := fun i h st b hb => by
    have e : b = it := by simpa using hb
    subst e
    obtain ⟨o, e, c, d⟩ := st
    exact ⟨o, e, fun v z => by rw [d] at z; cases z⟩
  keep := fun i h h' st k => st.at fun o e => k it (by simp) o e
  item := by
    intro X hP hw hK hc i pins s σ H E I hf st hg
    subst hP hw hK
    obtain ⟨xs, x, hq, hx⟩ := hg
    obtain ⟨its, rv, p, hz⟩ := I.list hq
    obtain ⟨u, hu, ru⟩ := rv.get hx
    obtain ⟨f0, f1, f2, f3, f4, f5⟩ := hf it (by simp)
    refine wpAny_pyNext_list_item st p.isList (x := u) (by simpa using hu) fun h' st' sb => ?_
    have I1 : Inv X pins σ H { s with heap := h' } := I.turned (t' := s.toks) (fun b o hb e => (sb.2 b hb).trans e) f0 f1 f3 f4 f5
    obtain ⟨o, e, c, d⟩ := id st'
    exact ⟨u, rfl, go_of (s := { s with heap := h' }) e c d (by decide) ⟨x, H, I1, ru, ⟨rfl, fun ys hy => by rw [I.list_inj hy hq]; exact hx⟩, st', fun b hb => (hf b hb).1⟩⟩
  done := by
    intro X hP hw hK hc i pins s σ H E I hf st hg
    subst hP hw hK
    obtain ⟨xs, hq, hx⟩ := hg
    obtain ⟨its, rv, p, hz⟩ := I.list hq
    obtain ⟨f0, f1, f2, f3, f4, f5⟩ := hf it (by simp)
    have hl := rv.length
    exact wpAny_pyNext_list_end (I.ok.hd hc) st p.isList (by simp; omega) fun h' eb => ⟨rfl, I.turned (t' := s.toks) (fun b o hb e => eb b o hb e) f0 f1 f3 f4 f5⟩
  self := fun _ _ _ _ _ st h => wpAny_pyIter_listiter st h
theorem turn_tuple {P : Program} {w : World} {K : PySem.W.Frag} {tg : Expr} (a it : Addr) : Turn P w K tg (Itt K a) [it] it (fun i h => h.IsTupleIter it a i) where
  mem := by simp
  obj := fun i h st b hb => by
    have e : b = it := by simpa using hb
    subst e
    obtain ⟨o, e, c, d⟩ := st
    exact ⟨o, e, fun v z => by rw [d] at z; cases z⟩
  keep := fun i h h' st k => st.at fun o e => k it (by simp) o e
  item := by
    intro X hP hw hK hc i pins s σ H E I hf st hg
    subst hP hw hK
    obtain ⟨xs, x, hq, hx⟩ := hg
    obtain ⟨its, rv, p, hz⟩ := I.tuple hq
    obtain ⟨u, hu, ru⟩ := rv.get hx
    obtain ⟨f0, f1, f2, f3, f4, f5⟩ := hf it (by simp)
    refine wpAny_pyNext_tuple_item st (show s.heap.IsTuple a its.toArray from p) (x := u) (by simpa using hu) fun h' st' sb => ?_
    have I1 : Inv X pins σ H { s with heap := h' } := I.turned (t' := s.toks) (fun b o hb e => (sb.2 b hb).trans e) f0 f1 f3 f4 f5
    obtain ⟨o, e, c, d⟩ := id st'
    exact ⟨u, rfl, go_of (s := { s with heap := h' }) e c d (by decide) ⟨x, H, I1, ru, ⟨rfl, fun ys hy => by rw [I.tuple_inj hy hq]; exact hx⟩, st', fun b hb => (hf b hb).1⟩⟩
  done := by
    intro X hP hw hK hc i pins s σ H E I hf st hg
    subst hP hw hK
    obtain ⟨xs, hq, hx⟩ := hg
    obtain ⟨its, rv, p, hz⟩ := I.tuple hq
    obtain ⟨f0, f1, f2, f3, f4, f5⟩ := hf it (by simp)
    have hl := rv.length
    exact wpAny_pyNext_tuple_end (I.ok.hd hc) st (show s.heap.IsTuple a its.toArray from p) (by simp; omega) fun h' eb => ⟨rfl, I.turned (t' := s.toks) (fun b o hb e => eb b o hb e) f0 f1 f3 f4 f5⟩
  self := fun _ _ _ _ _ st h => wpAny_pyIter_tupleiter st h
theorem turn_range {P : Program} {w : World} {K : PySem.W.Frag} {tg : Expr} (it : Addr) (lo : Int) (n : Nat) : Turn P w K tg (Itr lo n) [it] it (fun i h => IsRangeIter h it (lo + (i : Nat) * 1) ((n : Int) - (i : Nat)) 1) where
  mem := by simp
  obj := fun i h st b hb => by
    have e : b = it := by simpa using hb
    subst e
    exact ⟨_, st, fun v z => by
      have z' : Data.fields _ = Data.cell v := z
      cases z'⟩
  keep := fun i h h' st k => k it (by simp) _ st
  item := by
    intro X hP hw hK hc i pins s σ H E I hf st hg
    subst hP hw hK
    obtain ⟨f0, f1, f2, f3, f4, f5⟩ := hf it (by simp)
    have W := Walks.range (prog := X.prog) (w := X.w) (I.ok.hd hc) it lo 1 n
    refine W.item i s _ _ hg st fun v h' tk hv st' kk => ?_
    obtain ⟨t, rfl⟩ := hv
    have I1 : Inv X pins σ H { s with heap := h', toks := tk } := I.turned (fun b o hb e => kk b o (by simpa using hb) e) f0 f1 f3 f4 f5
    refine ⟨_, rfl, go_of (s := { s with heap := h', toks := tk }) (n := "range_iterator") st' rfl rfl (by decide) ⟨.int (lo + i), H, I1, ⟨t, ?_⟩, ⟨rfl, rfl⟩, st', fun b hb => (hf b hb).1⟩⟩
    rw [Int.mul_one]
  done := by
    intro X hP hw hK hc i pins s σ H E I hf st hg
    subst hP hw hK
    obtain ⟨f0, f1, f2, f3, f4, f5⟩ := hf it (by simp)
    exact wpAny_pyNext_range_end (I.ok.hd hc) st (by have : n ≤ i := hg; omega) fun h' eb => ⟨rfl, I.turned (t' := s.toks) (fun b o hb e => eb b o hb e) f0 f1 f3 f4 f5⟩
  self := fun _ _ _ _ _ st h => wpAny_pyIter_rangeiter st h
end L2
namespace L2
open PySem PySem.Spec PyProof.Rows
section
variable {X : Cx} {tg : Expr}
def iList (K : PySem.W.Frag) (tl : TE) : TI := fun σ H R => tl σ H fun x H1 => ∃ a, x = .ref a ∧ (∃ xs, SqL K H1 a xs) ∧ R (Itl K a) H1
def iTup (K : PySem.W.Frag) (tl : TE) : TI := fun σ H R => tl σ H fun x H1 => ∃ a, x = .ref a ∧ (∃ xs, SqT K H1 a xs) ∧ R (Itt K a) H1
theorem pi_list {l : Expr} {tl : TE} (hl : PE X l tl) : PI X tg l (iList X.K tl) := by
  intro pins s σ H R I h
  refine thn (hl pins s σ H _ I h) fun v s1 ⟨x, H1, I1, r1, q1⟩ => ?_
  obtain ⟨a, e, ⟨xs, hq⟩, q⟩ := q1
  subst e
  cases r1
  obtain ⟨its, rv, p, hz⟩ := I1.list hq
  refine wpAny_pyIter_list p.isList ?_
  refine ⟨s1.heap.objs.size, [s1.heap.objs.size], _, _, H1, rfl, I1.kept (t' := s1.toks) fun b o e => Heap.get?_push_of_some _ e, turn_list a _, ⟨_, Heap.get?_push_size _ rfl, rfl, rfl⟩, fun b hb => ?_, q⟩
  have e : b = s1.heap.objs.size := by simpa using hb
  subst e
  exact I1.fpOk (Nat.le_refl _) (I1.hok.fresh (Nat.le_refl _))
theorem pi_tup {l : Expr} {tl : TE} (hl : PE X l tl) : PI X tg l (iTup X.K tl) := by
  intro pins s σ H R I h
  refine thn (hl pins s σ H _ I h) fun v s1 ⟨x, H1, I1, r1, q1⟩ => ?_
  obtain ⟨a, e, ⟨xs, hq⟩, q⟩ := q1
  subst e
  cases r1
  obtain ⟨its, rv, p, hz⟩ := I1.tuple hq
  refine wpAny_pyIter_tuple (show s1.heap.IsTuple a its.toArray from p) ?_
  refine ⟨s1.heap.objs.size, [s1.heap.objs.size], _, _, H1, rfl, I1.kept (t' := s1.toks) fun b o e => Heap.get?_push_of_some _ e, turn_tuple a _, ⟨_, Heap.get?_push_size _ rfl, rfl, rfl⟩, fun b hb => ?_, q⟩
  have e : b = s1.heap.objs.size := by simpa using hb
  subst e
  exact I1.fpOk (Nat.le_refl _) (I1.hok.fresh (Nat.le_refl _))
theorem range_it {pins : List (Addr × Obj)} {σ : St} {H : Hp} {s : Shared} {R : It → Hp → Prop} {E : Value → Shared → Prop} {lo hi : Int} {t u v : Tok} {tk : Nat} (I : Inv X pins σ H s) (h1 : -(2 ^ 62) ≤ lo) (h2 : lo < 2 ^ 62) (h3 : -(2 ^ 62) ≤ hi) (h4 : hi < 2 ^ 62)
    (q : R (Itr lo (hi - lo).toNat) H) : wpAny (model X.prog X.w) X.A (pyIter (.ref s.heap.objs.size)) (PIE X pins σ tg R) E { s with heap := s.heap.push { cls := .type "range", data := .fields #[.int lo t, .int hi u, .int 1 v] }, toks := tk } := by
  refine wpAny_pyIter_range (IsRange.new ..) (small_one h1 h2 h3 h4) ?_
  have I1 : Inv X pins σ H { s with heap := s.heap.push { cls := .type "range", data := .fields #[.int lo t, .int hi u, .int 1 v] }, toks := tk } := I.kept fun b o e => Heap.get?_push_of_some _ e
  refine ⟨(s.heap.push { cls := .type "range", data := .fields #[.int lo t, .int hi u, .int 1 v] }).objs.size, [(s.heap.push { cls := .type "range", data := .fields #[.int lo t, .int hi u, .int 1 v] }).objs.size], _, _, H, rfl,
    I1.kept (t' := tk) fun b o e => Heap.get?_push_of_some _ e, turn_range _ lo (hi - lo).toNat, ?_, fun b hb => ?_, q⟩
  · have e1 : lo + ((0 : Nat) : Int) * 1 = lo := by simp
    have e2 : (((hi - lo).toNat : Nat) : Int) - ((0 : Nat) : Int) = Builtin.Range.rangeSize lo hi 1 := by rw [rangeSize_one]; split <;> omega
    show IsRangeIter _ _ (lo + ((0 : Nat) : Int) * 1) ((((hi - lo).toNat : Nat) : Int) - ((0 : Nat) : Int)) 1
    rw [e1, e2]
    exact Heap.get?_push_size _ rfl
  · have e : b = (s.heap.push { cls := .type "range", data := .fields #[.int lo t, .int hi u, .int 1 v] }).objs.size := by simpa using hb
    subst e
    exact I1.fpOk (Nat.le_refl _) (I1.hok.fresh (Nat.le_refl _))
def iRng1 (ta : TA) : TI := fun σ H R => ta σ H fun vs H1 => ∃ j : Int, vs = [.int j] ∧ -(2 ^ 62) ≤ j ∧ j < 2 ^ 62 ∧ R (Itr 0 j.toNat) H1
def iRng2 (ta : TA) : TI := fun σ H R => ta σ H fun vs H1 => ∃ i j : Int, vs = [.int i, .int j] ∧ (-(2 ^ 62) ≤ i ∧ i < 2 ^ 62 ∧ -(2 ^ 62) ≤ j ∧ j < 2 ^ 62) ∧ R (Itr i (j - i).toNat) H1
theorem pi_range1 {a : Expr} {ta : TA} {p pos : Pos} (hg : Gl X "range") (hm : X.mg "range" = none) (ha : PA X [a] ta) (hs : starEach [a] X.env = [(false, eval a X.env)] := by rfl) : PI X tg (.Call (.Name "range" p) [a] [] pos) (iRng1 ta) := by
  intro pins s σ H R I h
  refine Call_ (ld_blt I hg hm boot_range (PyProof.Rows.callWith_type1 (thn (ha pos pins s σ H _ I h) fun us s1 ⟨vs, H1, I1, r1, q1⟩ => ?_) hs rfl))
  obtain ⟨j, e, q1, q2, q⟩ := q1
  subst e
  cases r1 with
  | cons r rr =>
    cases rr
    obtain ⟨t, rfl⟩ := r
    exact call_range_1 (range_it I1 (by omega) (by omega) q1 q2 (by simpa using q))
theorem pi_range2 {a b : Expr} {ta : TA} {p pos : Pos} (hg : Gl X "range") (hm : X.mg "range" = none) (ha : PA X [a, b] ta) (hs : starEach [a, b] X.env = [(false, eval a X.env), (false, eval b X.env)] := by rfl) (hs2 : starEach [b] X.env = [(false, eval b X.env)] := by rfl) :
    PI X tg (.Call (.Name "range" p) [a, b] [] pos) (iRng2 ta) := by
  intro pins s σ H R I h
  refine Call_ (ld_blt I hg hm boot_range (PyProof.Rows.callWith_type1 (thn (ha pos pins s σ H _ I h) fun us s1 ⟨vs, H1, I1, r1, q1⟩ => ?_) (by rw [hs, hs2]) (by rw [hs2]; rfl)))
  obtain ⟨i, j, e, ⟨q1, q2, q3, q4⟩, q⟩ := q1
  subst e
  cases r1 with
  | cons r rr =>
    cases rr with
    | cons r' rr =>
      cases rr
      obtain ⟨t, rfl⟩ := r
      obtain ⟨t', rfl⟩ := r'
      exact call_range_2 (range_it I1 q1 q2 q3 q4 q)
def tFor (wi : TI) (g : TG) (tb : TS) : TS := fun D σ H => wi σ H fun J H1 => ∃ W : Nat → Nat → St → Hp → Prop, (∃ m, W 0 m σ H1) ∧ ∀ i m σ H, W i m σ H →
  (J.stop i H ∧ D.nx σ H) ∨ (J.go i H ∧ ∃ N : St → Hp → Prop, (∀ σ' H', N σ' H' → ∃ m', m' < m ∧ W (i + 1) m' σ' H') ∧ ∀ x H', J.yld i H x H' → g x σ H' fun σ2 H2 => tb { D with nx := N, ct := N, bk := D.nx } σ2 H2)
def pinsAt (fp : List Addr) (h : Heap) : List (Addr × Obj) := fp.filterMap fun b => (h.get? b).map fun o => (b, o)
theorem mem_pinsAt {fp : List Addr} {h : Heap} {b : Addr} {o : Obj} (hb : b ∈ fp) (e : h.get? b = some o) : (b, o) ∈ pinsAt fp h := List.mem_filterMap.mpr ⟨b, hb, by rw [e]; rfl⟩
theorem of_pinsAt {fp : List Addr} {h : Heap} {p : Addr × Obj} (hp : p ∈ pinsAt fp h) : p.1 ∈ fp ∧ h.get? p.1 = some p.2 := by
  obtain ⟨b, hb, e⟩ := List.mem_filterMap.mp hp
  cases q : h.get? b with
  | none => rw [q] at e; cases e
  | some o =>
    rw [q] at e
    have e' : (b, o) = p := Option.some.inj e
    subst e'
    exact ⟨hb, q⟩
theorem Inv.pinned {pins : List (Addr × Obj)} {σ : St} {H : Hp} {s : Shared} {fp : List Addr} (I : Inv X pins σ H s) (hf : ∀ b ∈ fp, FpOk X pins H b) (ho : ∀ b ∈ fp, ∃ o, s.heap.get? b = some o ∧ ∀ v, o.data ≠ .cell v) : Inv X (pins ++ pinsAt fp s.heap) σ H s :=
  I.pins_of fun p hp => (List.mem_append.mp hp).elim (fun z => I.pin p (List.mem_append_right _ z)) fun z => by
    obtain ⟨hb, e⟩ := of_pinsAt z
    obtain ⟨f0, f1, f2, _⟩ := hf p.1 hb
    obtain ⟨o, e', d⟩ := ho p.1 hb
    rw [e] at e'; cases e'
    exact ⟨e, f0, f1, f2, d⟩
theorem Inv.unpinned {pins pl : List (Addr × Obj)} {σ : St} {H : Hp} {s : Shared} (I : Inv X (pins ++ pl) σ H s) : Inv X pins σ H s := I.pins_of fun p hp => I.pin p (List.mem_append_right _ (List.mem_append_left _ hp))
theorem ps_for {iter : Expr} {body : List Stmt} {wi : TI} {g : TG} {tb : TS} {pos : Pos} (hp : PassesOwn (model X.prog X.w) X.A X.env X.xe) (hc : X.calm = true) (hi : PI X tg iter wi) (hg : PG X tg g) (hb : PSs X body tb)
    (hs : ∀ x, foldedSetIterable iter X.env x = pure x := by intro _; rfl) : PS X (.For tg iter body [] pos) (tFor wi g tb) := by
  intro pins s σ H D I h
  refine wpAny_For (thn (hi pins s σ H _ I h) fun v s1 h1 => thn h1 fun itv s2 h2 => ?_) hs
  obtain ⟨it, fp, tn, J, H2, e, I2, T, st2, f2, W, ⟨m0, w0⟩, turn⟩ := h2
  subst e
  have stat : ∀ {H' : Hp}, (∀ b ∈ fp, H' b = none) → ∀ b ∈ fp, FpOk X pins H' b := fun hn b hb => ⟨hn b hb, (f2 b hb).2⟩
  refine codeAny_forLoop_any (fun n s' => ∃ i σ' H', Inv X pins σ' H' s' ∧ tn i s'.heap ∧ (∀ b ∈ fp, H' b = none) ∧ W i n σ' H') ?_ m0 ⟨0, σ, H2, I2, st2, fun b hb => (f2 b hb).1, w0⟩
  rintro n s3 ⟨i, σ3, H3, I3, st3, fr3, w3⟩
  rcases turn i n σ3 H3 w3 with ⟨stop, qn⟩ | ⟨go, N, hN, step⟩
  · refine wpAny_passesOwn hp (thn (T.done X rfl rfl rfl hc i pins s3 σ3 H3 X.xe I3 (stat fr3) st3 stop) fun r s4 ⟨hr, I4⟩ => ?_)
    subst hr
    exact wpAny_execs_nil ⟨σ3, H3, I4, qn⟩
  · refine wpAny_passesOwn hp (thn (T.item X rfl rfl rfl hc i pins s3 σ3 H3 X.xe I3 (stat fr3) st3 go) fun r s4 ⟨u, hr, h4⟩ => ?_)
    subst hr
    refine wpAny_passesOwn hp (thn h4 fun _ s5 ⟨x, H5, I5, r5, y5, st5, fr5⟩ => ?_)
    have I5' := I5.pinned (stat fr5) (T.obj _ _ st5)
    refine wpAny_passesOwn hp (thn (hg _ s5 σ3 H5 x u _ I5' r5 (step x H5 y5)) fun _ s6 ⟨σ6, H6, I6, q6⟩ => ?_)
    refine wpAny_passesOwn hp (thn (hb _ s6 σ6 H6 _ I6 q6) fun f s7 q7 => ?_)
    have again : ∀ {σ7 : St} {H7 : Hp}, Inv X (pins ++ pinsAt fp s5.heap) σ7 H7 s7 → N σ7 H7 → ∃ m, m < n ∧ ∃ i σ' H', Inv X pins σ' H' s7 ∧ tn i s7.heap ∧ (∀ b ∈ fp, H' b = none) ∧ W i m σ' H' := fun {σ7 H7} I7 n7 => by
      obtain ⟨m', hm, w7⟩ := hN σ7 H7 n7
      refine ⟨m', hm, i + 1, σ7, H7, I7.unpinned, T.keep _ _ _ st5 fun b hb o e => (I7.pin (b, o) (List.mem_append_right _ (List.mem_append_right _ (mem_pinsAt hb e)))).1, fun b hb => ?_, w7⟩
      obtain ⟨o, e, d⟩ := T.obj _ _ st5 b hb
      exact (I7.pin (b, o) (List.mem_append_right _ (List.mem_append_right _ (mem_pinsAt hb e)))).2.1
    cases f with
    | next => obtain ⟨σ7, H7, I7, n7⟩ := q7; exact again I7 n7
    | cont => obtain ⟨σ7, H7, I7, n7⟩ := q7; exact again I7 n7
    | brk => obtain ⟨σ7, H7, I7, q7⟩ := q7; exact ⟨σ7, H7, I7.unpinned, q7⟩
    | ret v => obtain ⟨x7, σ7, H7, I7, r7, q7⟩ := q7; exact ⟨x7, σ7, H7, I7.unpinned, r7, q7⟩
end
theorem for_list {K : PySem.W.Frag} {a : Addr} {xs : List V} {g : TG} {tb : TS} {D : Ends} {σ : St} {H : Hp} (Pv : Nat → St → Hp → Prop) (h0 : Pv 0 σ H) (hl : ∀ i σ H, i ≤ xs.length → Pv i σ H → SqL K H a xs)
    (hs : ∀ i x σ H, xs[i]? = some x → Pv i σ H → g x σ H fun σ2 H2 => tb { D with nx := Pv (i + 1), ct := Pv (i + 1), bk := D.nx } σ2 H2) (hd : ∀ σ H, Pv xs.length σ H → D.nx σ H) :
    ∃ W : Nat → Nat → St → Hp → Prop, (∃ m, W 0 m σ H) ∧ ∀ i m σ H, W i m σ H →
      ((Itl K a).stop i H ∧ D.nx σ H) ∨ ((Itl K a).go i H ∧ ∃ N : St → Hp → Prop, (∀ σ' H', N σ' H' → ∃ m', m' < m ∧ W (i + 1) m' σ' H') ∧ ∀ x H', (Itl K a).yld i H x H' → g x σ H' fun σ2 H2 => tb { D with nx := N, ct := N, bk := D.nx } σ2 H2) := by
  refine ⟨fun i m σ H => m = xs.length - i ∧ i ≤ xs.length ∧ Pv i σ H, ⟨xs.length, by simp, Nat.zero_le _, h0⟩, ?_⟩
  rintro i m σ H ⟨rfl, hi, p⟩
  have q := hl i σ H hi p
  by_cases hlt : i < xs.length
  · refine .inr ⟨⟨xs, xs[i], q, by simp [hlt]⟩, Pv (i + 1), fun σ' H' p' => ⟨xs.length - (i + 1), by omega, rfl, hlt, p'⟩, fun x H' y => ?_⟩
    obtain ⟨e, y⟩ := y
    subst e
    exact hs i x σ _ (y xs q) p
  · have e : i = xs.length := by omega
    subst e
    exact .inl ⟨⟨xs, q, Nat.le_refl _⟩, hd σ H p⟩
theorem for_range {lo : Int} {n : Nat} {g : TG} {tb : TS} {D : Ends} {σ : St} {H : Hp} (Pv : Nat → St → Hp → Prop) (h0 : Pv 0 σ H)
    (hs : ∀ i σ H, i < n → Pv i σ H → g (.int (lo + i)) σ H fun σ2 H2 => tb { D with nx := Pv (i + 1), ct := Pv (i + 1), bk := D.nx } σ2 H2) (hd : ∀ σ H, Pv n σ H → D.nx σ H) :
    ∃ W : Nat → Nat → St → Hp → Prop, (∃ m, W 0 m σ H) ∧ ∀ i m σ H, W i m σ H →
      ((Itr lo n).stop i H ∧ D.nx σ H) ∨ ((Itr lo n).go i H ∧ ∃ N : St → Hp → Prop, (∀ σ' H', N σ' H' → ∃ m', m' < m ∧ W (i + 1) m' σ' H') ∧ ∀ x H', (Itr lo n).yld i H x H' → g x σ H' fun σ2 H2 => tb { D with nx := N, ct := N, bk := D.nx } σ2 H2) := by
  refine ⟨fun i m σ H => m = n - i ∧ i ≤ n ∧ Pv i σ H, ⟨n, by simp, Nat.zero_le _, h0⟩, ?_⟩
  rintro i m σ H ⟨rfl, hi, p⟩
  by_cases hlt : i < n
  · refine .inr ⟨hlt, Pv (i + 1), fun σ' H' p' => ⟨n - (i + 1), by omega, rfl, hlt, p'⟩, fun x H' y => ?_⟩
    obtain ⟨e, y⟩ := y
    subst e y
    exact hs i σ _ hlt p
  · have e : i = n := by omega
    subst e
    exact .inl ⟨Nat.le_refl _, hd σ H p⟩
end L2
namespace L2
open PySem PySem.Spec PyProof.Rows
abbrev R2 := V → V → Hp → VK → Prop
def OpR (X : Cx) (f : Value → Value → Sem Value) (r : R2) : Prop :=
  ∀ (pins : List (Addr × Obj)) (s : Shared) (σ : St) (H : Hp) (x y : V) (v u : Value) (Q : VK), Inv X pins σ H s → RelV x v → RelV y u → r x y H Q →
    wpAny (model X.prog X.w) X.A (f v u) (EP X pins σ Q) X.xe s
def UnR (X : Cx) (f : Value → Sem Value) (r : V → Hp → VK → Prop) : Prop :=
  ∀ (pins : List (Addr × Obj)) (s : Shared) (σ : St) (H : Hp) (x : V) (v : Value) (Q : VK), Inv X pins σ H s → RelV x v → r x H Q →
    wpAny (model X.prog X.w) X.A (f v) (EP X pins σ Q) X.xe s
def CallR (X : Cx) (f : Value) (r : List V → Hp → VK → Prop) : Prop :=
  ∀ (pins : List (Addr × Obj)) (s : Shared) (σ : St) (H : Hp) (xs : List V) (us : List Value) (Q : VK), Inv X pins σ H s → Vals xs us → r xs H Q →
    wpAny (model X.prog X.w) X.A (call f us) (EP X pins σ Q) X.xe s
def tOp (r : R2) (ta tb : TE) : TE := fun σ H Q => ta σ H fun x H1 => tb σ H1 fun y H2 => r x y H2 Q
def tUn (r : V → Hp → VK → Prop) (ta : TE) : TE := fun σ H Q => ta σ H fun x H1 => r x H1 Q
def rI (C : Int → Int → Prop) (g : Int → Int → V) : R2 := fun x y H Q => ∃ i j, x = .int i ∧ y = .int j ∧ C i j ∧ Q (g i j) H
def rI0 (g : Int → Int → V) : R2 := fun x y H Q => ∃ i j, x = .int i ∧ y = .int j ∧ Q (g i j) H
def rU (g : Int → V) : V → Hp → VK → Prop := fun x H Q => ∃ i, x = .int i ∧ Q (g i) H
section
variable {X : Cx} {a b c : Expr} {ta tb tc : TE} {pos : Pos}
theorem binT (ha : PE X a ta) (hb : PE X b tb) {pins : List (Addr × Obj)} {s : Shared} {σ : St} {H : Hp} {R : V → V → Hp → Prop} (I : Inv X pins σ H s)
    (h : ta σ H fun x H1 => tb σ H1 fun y H2 => R x y H2) {Q : Value → Shared → Prop} {f : Value → Value → Sem Value}
    (hf : ∀ v u s2 x y H2, Inv X pins σ H2 s2 → RelV x v → RelV y u → R x y H2 → wpAny (model X.prog X.w) X.A (f v u) Q X.xe s2) :
    wpAny (model X.prog X.w) X.A (eval a X.env) (fun v s₁ => wpAny (model X.prog X.w) X.A (eval b X.env) (fun u s₂ => wpAny (model X.prog X.w) X.A (f v u) Q X.xe s₂) X.xe s₁) X.xe s := by
  refine thn (ha pins s σ H _ I h) fun v s1 ⟨x, H1, I1, r1, q1⟩ => ?_
  refine thn (hb pins s1 σ H1 _ I1 q1) fun u s2 ⟨y, H2, I2, r2, q2⟩ => ?_
  exact hf v u s2 x y H2 I2 r1 r2 q2
theorem pe_op {op : Operator} {r : R2} (ho : OpR X (binaryOp op) r) (ha : PE X a ta) (hb : PE X b tb) : PE X (.BinOp a op b pos) (tOp r ta tb) := by
  intro pins s σ H Q I h
  exact wpAny_BinOp (binT ha hb I h fun v u s2 x y H2 I2 rx ry q => ho pins s2 σ H2 x y v u Q I2 rx ry q)
theorem pe_un {op : UnaryOp} {r : V → Hp → VK → Prop} (ho : UnR X (unaryOp op) r) (ha : PE X a ta) : PE X (.UnaryOp op a pos) (tUn r ta) := by
  intro pins s σ H Q I h
  exact UnaryOp_ (thn (ha pins s σ H _ I h) fun v s1 ⟨x, H1, I1, r1, q1⟩ => ho pins s1 σ H1 x v Q I1 r1 q1)
theorem opI {f : Value → Value → Sem Value} {C : Int → Int → Prop} {g : Int → Int → Int}
    (rule : ∀ (i j : Int) (t u : Tok) (s : Shared) (Q : Value → Shared → Prop) (E : Value → Shared → Prop), C i j → Q (.int (g i j) s.toks) { s with toks := s.toks + 1 } → wpAny (model X.prog X.w) X.A (f (.int i t) (.int j u)) Q E s) :
    OpR X f (rI C fun i j => .int (g i j)) := by
  intro pins s σ H x y v u Q I rx ry h
  obtain ⟨i, j, rfl, rfl, hc, q⟩ := h
  obtain ⟨t, rfl⟩ := rx
  obtain ⟨t', rfl⟩ := ry
  exact rule i j t t' s _ _ hc ⟨.int (g i j), H, I.tok _, ⟨_, rfl⟩, q⟩
theorem opI0 {f : Value → Value → Sem Value} {g : Int → Int → Int}
    (rule : ∀ (i j : Int) (t u : Tok) (s : Shared) (Q : Value → Shared → Prop) (E : Value → Shared → Prop), Q (.int (g i j) s.toks) { s with toks := s.toks + 1 } → wpAny (model X.prog X.w) X.A (f (.int i t) (.int j u)) Q E s) :
    OpR X f (rI0 fun i j => .int (g i j)) := by
  intro pins s σ H x y v u Q I rx ry h
  obtain ⟨i, j, rfl, rfl, q⟩ := h
  obtain ⟨t, rfl⟩ := rx
  obtain ⟨t', rfl⟩ := ry
  exact rule i j t t' s _ _ ⟨.int (g i j), H, I.tok _, ⟨_, rfl⟩, q⟩
theorem opB0 {f : Value → Value → Sem Value} {g : Int → Int → Bool}
    (rule : ∀ (i j : Int) (t u : Tok) (s : Shared) (Q : Value → Shared → Prop) (E : Value → Shared → Prop), Q (.bool (g i j)) s → wpAny (model X.prog X.w) X.A (f (.int i t) (.int j u)) Q E s) :
    OpR X f (rI0 fun i j => .bl (g i j)) := by
  intro pins s σ H x y v u Q I rx ry h
  obtain ⟨i, j, rfl, rfl, q⟩ := h
  obtain ⟨t, rfl⟩ := rx
  obtain ⟨t', rfl⟩ := ry
  exact rule i j t t' s _ _ ⟨.bl (g i j), H, I, rfl, q⟩
def CPow (i j : Int) : Prop := 0 ≤ j ∧ j ≤ 1000000 ∧ i.natAbs < 2 ^ 64
theorem op_add : OpR X (binaryOp .Add) (rI0 fun i j => .int (i + j)) := opI0 fun _ _ _ _ _ _ _ q => add_int q
theorem op_sub : OpR X (binaryOp .Sub) (rI0 fun i j => .int (i - j)) := opI0 fun _ _ _ _ _ _ _ q => sub_int q
theorem op_mod : OpR X (binaryOp .Mod) (rI (fun _ j => 0 < j) fun i j => .int (i % j)) := opI fun i j _ _ _ _ _ hc q => by
  have h1 : (0 : Int) < j := hc
  exact mod_int' (by omega) (by rw [Int.fmod_eq_emod_of_nonneg i (by omega)]; exact q)
theorem op_pow : OpR X (binaryOp .Pow) (rI CPow fun i j => .int (i ^ j.toNat)) := opI fun _ _ _ _ _ _ _ hc q => pow_int_small hc.1 hc.2.1 hc.2.2 q
theorem unI {f : Value → Sem Value} {g : Int → Int}
    (rule : ∀ (i : Int) (t : Tok) (s : Shared) (Q : Value → Shared → Prop) (E : Value → Shared → Prop), Q (.int (g i) s.toks) { s with toks := s.toks + 1 } → wpAny (model X.prog X.w) X.A (f (.int i t)) Q E s) :
    UnR X f (rU fun i => .int (g i)) := by
  intro pins s σ H x v Q I rx h
  obtain ⟨i, rfl, q⟩ := h
  obtain ⟨t, rfl⟩ := rx
  exact rule i t s _ _ ⟨.int (g i), H, I.tok _, ⟨_, rfl⟩, q⟩
theorem un_neg : UnR X (unaryOp .USub) (rU fun i => .int (-i)) := unI fun _ _ _ _ _ q => neg_int q
end
def scal : V → V → Bool
  | .non, .non => true | .non, .int _ => true | .int _, .non => true | .non, .bl _ => true | .bl _, .non => true | .non, .str _ => true | .str _, .non => true
  | .int _, .int _ => true | .bl _, .bl _ => true | .str _, .str _ => true | .byt _, .byt _ => true
  | .int _, .str _ => true | .str _, .int _ => true | .bl _, .str _ => true | .str _, .bl _ => true
  | _, _ => false
def rEq : R2 := fun x y H Q => scal x y = true ∧ Q (.bl (decide (x = y))) H
def rNe : R2 := fun x y H Q => scal x y = true ∧ Q (.bl (!decide (x = y))) H
theorem dec_int {i j : Int} : decide (V.int i = V.int j) = (i == j) := by
  rw [Bool.eq_iff_iff]
  simp
theorem dec_bl {i j : Bool} : decide (V.bl i = V.bl j) = (i == j) := by
  rw [Bool.eq_iff_iff]
  simp
theorem dec_str {i j : Str} : decide (V.str i = V.str j) = (i == j) := by
  rw [Bool.eq_iff_iff]
  simp
theorem dec_byt {i j : Array UInt8} : decide (V.byt i = V.byt j) = (i.toList == j.toList) := by
  rw [Bool.eq_iff_iff]
  cases i
  cases j
  simp
section
variable {X : Cx} {a b c : Expr} {ta tb tc : TE} {pos : Pos}
theorem fin_bl {pins : List (Addr × Obj)} {σ : St} {H : Hp} {s : Shared} {Q : VK} {k k' : Bool} (I : Inv X pins σ H s) (q : Q (.bl k) H) (e : k = k') : EP X pins σ Q (.bool k') s := by
  subst e
  exact ⟨.bl k, H, I, rfl, q⟩
theorem op_eq : OpR X (compareOp .Eq) rEq := by
  intro pins s σ H x y v u Q I rx ry h
  obtain ⟨hs, q⟩ := h
  cases x with
  | non =>
    cases rx
    cases y with
    | non => cases ry; exact PySem.EqNone.eq_none_none (fin_bl I q (by simp))
    | bl j => cases ry; exact PySem.EqNone.eq_none_bool (fin_bl I q (by simp))
    | int j => obtain ⟨t', rfl⟩ := ry; exact PySem.EqNone.eq_none_int (fin_bl I q (by simp))
    | str j => obtain ⟨t', rfl⟩ := ry; exact PySem.EqNone.eq_none_str (fin_bl I q (by simp))
    | _ => exact absurd (show false = true from hs) Bool.false_ne_true
  | bl i =>
    cases rx
    cases y with
    | non => cases ry; exact PySem.EqNone.eq_bool_none (fin_bl I q (by simp))
    | bl j => cases ry; exact eq_bool (fin_bl I q dec_bl)
    | str j => obtain ⟨t', rfl⟩ := ry; exact PySem.EqMixed.eq_bool_str (fin_bl I q (by simp))
    | _ => exact absurd (show false = true from hs) Bool.false_ne_true
  | int i =>
    obtain ⟨t, rfl⟩ := rx
    cases y with
    | non => cases ry; exact PySem.EqNone.eq_int_none (fin_bl I q (by simp))
    | int j => obtain ⟨t', rfl⟩ := ry; exact eq_int (fin_bl I q dec_int)
    | str j => obtain ⟨t', rfl⟩ := ry; exact PySem.EqMixed.eq_int_str (fin_bl I q (by simp))
    | _ => exact absurd (show false = true from hs) Bool.false_ne_true
  | str i =>
    obtain ⟨t, rfl⟩ := rx
    cases y with
    | non => cases ry; exact PySem.EqNone.eq_str_none (fin_bl I q (by simp))
    | bl j => cases ry; exact PySem.EqMixed.eq_str_bool (fin_bl I q (by simp))
    | int j => obtain ⟨t', rfl⟩ := ry; exact PySem.EqMixed.eq_str_int (fin_bl I q (by simp))
    | str j => obtain ⟨t', rfl⟩ := ry; exact eq_str (fin_bl I q dec_str)
    | _ => exact absurd (show false = true from hs) Bool.false_ne_true
  | byt i =>
    obtain ⟨t, rfl⟩ := rx
    cases y with
    | byt j => obtain ⟨t', rfl⟩ := ry; exact PySem.W.eq_bytes (fin_bl I q dec_byt)
    | _ => exact absurd (show false = true from hs) Bool.false_ne_true
  | _ => cases y <;> exact absurd (show false = true from hs) Bool.false_ne_true
theorem op_ne : OpR X (compareOp .NotEq) rNe := by
  intro pins s σ H x y v u Q I rx ry h
  obtain ⟨hs, q⟩ := h
  cases x with
  | non =>
    cases rx
    cases y with
    | non => cases ry; exact PySem.EqNone.ne_none_none (fin_bl I q (by simp))
    | bl j => cases ry; exact PySem.EqNone.ne_none_bool (fin_bl I q (by simp))
    | int j => obtain ⟨t', rfl⟩ := ry; exact PySem.EqNone.ne_none_int (fin_bl I q (by simp))
    | str j => obtain ⟨t', rfl⟩ := ry; exact PySem.EqNone.ne_none_str (fin_bl I q (by simp))
    | _ => exact absurd (show false = true from hs) Bool.false_ne_true
  | bl i =>
    cases rx
    cases y with
    | non => cases ry; exact PySem.EqNone.ne_bool_none (fin_bl I q (by simp))
    | bl j => cases ry; exact ne_bool (fin_bl I q (congrArg not dec_bl))
    | str j => obtain ⟨t', rfl⟩ := ry; exact PySem.EqMixed.ne_bool_str (fin_bl I q (by simp))
    | _ => exact absurd (show false = true from hs) Bool.false_ne_true
  | int i =>
    obtain ⟨t, rfl⟩ := rx
    cases y with
    | non => cases ry; exact PySem.EqNone.ne_int_none (fin_bl I q (by simp))
    | int j => obtain ⟨t', rfl⟩ := ry; exact ne_int (fin_bl I q (congrArg not dec_int))
    | str j => obtain ⟨t', rfl⟩ := ry; exact PySem.EqMixed.ne_int_str (fin_bl I q (by simp))
    | _ => exact absurd (show false = true from hs) Bool.false_ne_true
  | str i =>
    obtain ⟨t, rfl⟩ := rx
    cases y with
    | non => cases ry; exact PySem.EqNone.ne_str_none (fin_bl I q (by simp))
    | bl j => cases ry; exact PySem.EqMixed.ne_str_bool (fin_bl I q (by simp))
    | int j => obtain ⟨t', rfl⟩ := ry; exact PySem.EqMixed.ne_str_int (fin_bl I q (by simp))
    | str j => obtain ⟨t', rfl⟩ := ry; exact ne_str (fin_bl I q (congrArg not dec_str))
    | _ => exact absurd (show false = true from hs) Bool.false_ne_true
  | byt i =>
    obtain ⟨t, rfl⟩ := rx
    cases y with
    | byt j => obtain ⟨t', rfl⟩ := ry; exact PySem.W.ne_bytes (fin_bl I q (congrArg not dec_byt))
    | _ => exact absurd (show false = true from hs) Bool.false_ne_true
  | _ => cases y <;> exact absurd (show false = true from hs) Bool.false_ne_true
theorem op_lt : OpR X (compareOp .Lt) (rI0 fun i j => .bl (decide (i < j))) := opB0 fun _ _ _ _ _ _ _ q => lt_int q
theorem op_le : OpR X (compareOp .LtE) (rI0 fun i j => .bl (decide (i ≤ j))) := opB0 fun _ _ _ _ _ _ _ q => le_int q
theorem op_gt : OpR X (compareOp .Gt) (rI0 fun i j => .bl (decide (j < i))) := opB0 fun _ _ _ _ _ _ _ q => gt_int q
theorem op_ge : OpR X (compareOp .GtE) (rI0 fun i j => .bl (decide (j ≤ i))) := opB0 fun _ _ _ _ _ _ _ q => ge_int q
theorem op_in_str : OpR X (compareOp .In) (fun x y H Q => ∃ i j, x = .str i ∧ y = .str j ∧ Q (.bl (!(Builtin.Str.occurrences j i 0 j.length 1).isEmpty)) H) := by
  intro pins s σ H x y v u Q I rx ry h
  obtain ⟨i, j, rfl, rfl, q⟩ := h
  obtain ⟨t, rfl⟩ := rx
  obtain ⟨t', rfl⟩ := ry
  exact in_str (fin_bl I q rfl)
theorem op_isN : OpR X (compareOp .Is) (fun x y H Q => y = .non ∧ Q (.bl (decide (x = .non))) H) := by
  intro pins s σ H x y v u Q I rx ry h
  obtain ⟨rfl, q⟩ := h
  cases ry
  refine is_none_gen (fin_bl I q ?_)
  cases x <;> first
    | (cases rx; rfl)
    | (obtain ⟨t, rfl⟩ := rx; rfl)
theorem nomark (b : Expr) {op : CmpOp} (h : op ≠ .In := by decide) (h2 : op ≠ .NotIn := by decide) : behindInMarks op b = false := by
  have e1 : (op == CmpOp.In) = false := by cases op <;> first | rfl | exact absurd rfl h
  have e2 : (op == CmpOp.NotIn) = false := by cases op <;> first | rfl | exact absurd rfl h2
  cases b <;> simp [behindInMarks, e1, e2]
theorem pe_cmpR {op : CmpOp} {r : R2} (ho : OpR X (compareOp op) r) (ha : PE X a ta) (hb : PE X b tb) (hm : behindInMarks op b = false) : PE X (.Compare a [op] [b] pos) (tOp r ta tb) := by
  intro pins s σ H Q I h
  exact wpAny_Compare1 (binT ha hb I h fun v u s2 x y H2 I2 rx ry q => ho pins s2 σ H2 x y v u Q I2 rx ry q) hm
def tTest (t : TE) : TT := fun σ H Q => t σ H fun x H' => ∃ k, x = .bl k ∧ Q k H'
theorem pt_cmpR {op : CmpOp} {r : R2} (ho : OpR X (compareOp op) r) (ha : PE X a ta) (hb : PE X b tb) (hm : behindInMarks op b = false) : PT X (.Compare a [op] [b] pos) (tTest (tOp r ta tb)) := by
  intro pins s σ H Q I h
  refine wpAny_isTrue_Compare1 (thn (ha pins s σ H _ I h) fun v s1 ⟨x, H1, I1, r1, q1⟩ => thn (hb pins s1 σ H1 _ I1 q1) fun u s2 ⟨y, H2, I2, r2, q2⟩ =>
    thn (ho pins s2 σ H2 x y v u _ I2 r1 r2 q2) fun c s3 ⟨z, H3, I3, r3, k, e, q3⟩ => ?_) hm
  subst e
  cases r3
  exact wpAny_truthy_bool ⟨H3, I3, q3⟩
def tChain (r r' : R2) (ta tb tc : TE) : TE := fun σ H Q => ta σ H fun x H1 => tb σ H1 fun y H2 => r x y H2 fun z H3 => ∃ k, z = .bl k ∧
  (if k = true then tc σ H3 fun w' H4 => r' y w' H4 Q else Q (.bl false) H3)
theorem line63 : (sizeLine : Nat) < 2 ^ 63 := by rw [sizeLine_eq]; decide
theorem op_add_str : OpR X (binaryOp .Add) (fun x y H Q => ∃ i j, x = .str i ∧ y = .str j ∧ i.length + j.length ≤ sizeLine ∧ Q (.str (i ++ j)) H) := by
  intro pins s σ H x y v u Q I rx ry h
  obtain ⟨i, j, rfl, rfl, hz, q⟩ := h
  obtain ⟨t, rfl⟩ := rx
  obtain ⟨t', rfl⟩ := ry
  exact add_str (fun t' tk => ⟨.str (i ++ j), H, I.tok _, ⟨_, rfl⟩, q⟩) hz
theorem vals1 {x : V} {us : List Value} (r : Vals [x] us) : ∃ u, us = [u] ∧ RelV x u := by
  cases r with
  | cons r1 r2 => cases r2; exact ⟨_, rfl, r1⟩
theorem vals2 {x y : V} {us : List Value} (r : Vals [x, y] us) : ∃ u w', us = [u, w'] ∧ RelV x u ∧ RelV y w' := by
  cases r with
  | cons r1 r2 =>
    cases r2 with
    | cons r3 r4 => cases r4; exact ⟨_, _, rfl, r1, r3⟩
theorem call_abs : CallR X (.builtin "abs") (fun xs H Q => ∃ i, xs = [.int i] ∧ Q (.int (if i < 0 then -i else i)) H) := by
  intro pins s σ H xs us Q I r h
  obtain ⟨i, rfl, q⟩ := h
  obtain ⟨u, rfl, t, rfl⟩ := vals1 r
  exact call_abs_int fun u tk => ⟨.int (if i < 0 then -i else i), H, I.tok _, ⟨_, rfl⟩, q⟩
theorem call_max2 (hc : X.calm = true) : CallR X (.builtin "max") (fun xs H Q => ∃ i j, xs = [.int i, .int j] ∧ Q (.int (if j > i then j else i)) H) := by
  intro pins s σ H xs us Q I r h
  obtain ⟨i, j, rfl, q⟩ := h
  obtain ⟨u, w', rfl, ⟨t, rfl⟩, ⟨t', rfl⟩⟩ := vals2 r
  refine max_two_ints (I.ok.hd hc) fun h' tk k => ⟨_, H, I.kept k, ?_, q⟩
  by_cases hj : j > i
  · rw [if_pos hj, if_pos hj]; exact ⟨_, rfl⟩
  · rw [if_neg hj, if_neg hj]; exact ⟨_, rfl⟩
theorem call_min2 (hc : X.calm = true) : CallR X (.builtin "min") (fun xs H Q => ∃ i j, xs = [.int i, .int j] ∧ Q (.int (if j < i then j else i)) H) := by
  intro pins s σ H xs us Q I r h
  obtain ⟨i, j, rfl, q⟩ := h
  obtain ⟨u, w', rfl, ⟨t, rfl⟩, ⟨t', rfl⟩⟩ := vals2 r
  refine min_two_ints (I.ok.hd hc) fun h' tk k => ⟨_, H, I.kept k, ?_, q⟩
  by_cases hj : j < i
  · rw [if_pos hj, if_pos hj]; exact ⟨_, rfl⟩
  · rw [if_neg hj, if_neg hj]; exact ⟨_, rfl⟩
theorem call_str_int : CallR X (.type "str") (fun xs H Q => ∃ i, xs = [.int i] ∧ i.natAbs.log2 < 1920 ∧ Q (.str (toString i)) H) := by
  intro pins s σ H xs us Q I r h
  obtain ⟨i, rfl, hz, q⟩ := h
  obtain ⟨u, rfl, t, rfl⟩ := vals1 r
  exact PySem.P.str_of_int hz ⟨.str _, H, I.tok _, ⟨_, rfl⟩, q⟩
end
end L2
namespace L2
open PySem PySem.Spec PyProof.Rows
structure ObjM (h : Heap) (x dx C : Addr) (mA : Str → Option Value) : Prop where
  obj : h.get? x = some (PySem.W.instObj C dx)
  ns : h.Ns1 dx mA
  ne : dx ≠ x
theorem lookIn_ns {h : Heap} {dx : Addr} {mA : Str → Option Value} (n : h.Ns1 dx mA) : ∃ od, h.get? dx = some od ∧ ∀ name, PySem.W.lookIn name od = some (mA name) := by
  obtain ⟨o, es, ep, ho, hd, hk, _, hm⟩ := n
  refine ⟨o, ho, fun name => ?_⟩
  have e := hm name
  unfold nsFind findBy at e
  rw [← Array.find?_toList] at e
  unfold PySem.W.lookIn
  rw [hd]
  dsimp only
  split
  · rename_i y q
    rw [q] at e
    exact congrArg some e
  · rename_i q
    rw [q] at e
    have a : es.toList.any (·.refKey) = false := by
      rw [List.any_eq_false]
      intro y hy
      obtain ⟨z, t, hkey⟩ := hk y (Array.mem_toList_iff.mp hy)
      simp [DictEntry.refKey, hkey]
    have a' : ¬ es.toList.any (·.refKey) = true := by rw [a]; exact Bool.false_ne_true
    rw [if_neg a']
    exact congrArg some e
theorem ObjM.look {h : Heap} {x dx C : Addr} {mA : Str → Option Value} (I : ObjM h x dx C mA) : ∃ od, PySem.W.InstAt h x (PySem.W.instObj C dx) C (some od) ∧ ∀ name, PySem.W.lookIn name od = some (mA name) :=
  let ⟨od, ho, hl⟩ := lookIn_ns I.ns
  ⟨od, ⟨I.obj, rfl, rfl, ho⟩, hl⟩
section
variable {prog : Program} {w : World} {A : Around} {E : Value → Shared → Prop} {s : Shared} {K : PySem.W.Frag} {x dx C f : Addr} {mA : Str → Option Value} {name : Str} {v : Value}
theorem get_map {expr : Bool} {Q : Value → Shared → Prop} (X : K.In s.heap) (I : ObjM s.heap x dx C mA) (hg : PySem.W.plainGet K C name = true) (hh : PySem.W.hasDictIn K C = true)
    (ha : PySem.W.findIn K (.ref C) name = some none) (hv : mA name = some v) (hv' : PySem.W.handedIn v = true) (h : Q v { s with toks := s.toks + 1 }) :
    wpAny (model prog w) A (getAttr (.ref x) name expr) Q E s := by
  obtain ⟨od, J, hl⟩ := I.look
  exact PySem.W.get_value X J (PySem.W.plainGet_of hg).1 (PySem.W.findObj_own hh ha rfl (by rw [hl, hv])) hv' h
theorem get_meth {pl : Sem Bool} {Q : Value × List Value → Shared → Prop} (X : K.In s.heap) (I : ObjM s.heap x dx C mA) (hg : PySem.W.plainGet K C name = true)
    (hf : PySem.W.findIn K (.ref C) name = some (some (.ref f))) (ht : PySem.W.isFn K (.ref f) = true) (hv : mA name = none) (h : Q (.ref f, [.ref x]) s) :
    wpAny (model prog w) A (getMethod (.ref x) name pl) Q E s := by
  obtain ⟨od, J, hl⟩ := I.look
  exact PySem.W.method_fn X J (PySem.W.plainGet_of hg).1 (PySem.W.plainGet_of hg).2 hf (beq_iff_eq.mp ht) (by show (PySem.W.lookIn name od).map (·.isSome) = some false; rw [hl, hv]; rfl) h
theorem set_map {ns : List Str} {Q : Unit → Shared → Prop} (X : K.In s.heap) (I : ObjM s.heap x dx C mA)
    (hs : PySem.W.findIn K (.ref C) "__setattr__" = some (some (.builtin "object.__setattr__"))) (hp : PySem.W.plainOver K C = true) (ht : PySem.W.takerIn K C name = some none) (hh : PySem.W.hasDictIn K C = true)
    (hw : PySem.Within mA ns) (hsz : ns.length ≤ sizeLine)
    (h : ∀ h', ObjM h' x dx C (fun y => if y = name then some v else mA y) → Heap.SameBut dx s.heap h' → Q () { s with heap := h', toks := s.toks + 2 }) :
    wpAny (model prog w) A (setAttr (.ref x) name v) Q E s := by
  obtain ⟨od, J, hl⟩ := I.look
  refine PySem.W.set_plain X J hs (PySem.W.osa_open (s := { s with toks := s.toks + 1 }) (r := none) X J hp ht fun b => ?_)
  obtain ⟨cd, hc, hd'⟩ := PySem.W.any_some hh
  have hx : s.heap.get? x = some ⟨.ref C, some dx, .plain, #[]⟩ := I.obj
  refine wpAny_bind (wpAny_pure (wpAny_bind (wpAny_bind (wpAny_loadPart hx (wpAny_bind (PySem.W.Looks.here (s := { s with toks := s.toks + 1 }) (PySem.W.looks_clsIn X hc) ?_))))))
  rw [hd']
  refine wpAny_pure (a := some dx) (wpAny_bind (wpAny_pure (wpAny_bind ?_)))
  refine wpAny_nsSet1 (s := { s with toks := s.toks + 1 }) I.ns fun h' hn2 hs2 => ?_
  obtain ⟨oD, esD, epD, hoD, hdD, hcD⟩ := hn2.count (PySem.Within.cons name v hw)
  refine wpAny_bind (wpAny_lookBehind hoD (by rw [hdD]; exact pastItsLine_dict (Nat.le_trans hcD (by rw [List.length_cons]; omega))) ?_)
  exact wpAny_pure (h _ ⟨(hs2.2 _ (Ne.symm I.ne)).trans I.obj, hn2, I.ne⟩ hs2)
theorem make_map {R : Result → Shared → Prop} {vs : List Value} {kw : List (Str × Value)} (X : K.In s.heap) (hm : PySem.W.makesIn K C = true)
    (hi : PySem.W.findIn K (.ref C) "__init__" = some (some (.ref f))) (hf : PySem.W.typeIn K (.ref f) = some (.type "function"))
    (h : codeAny (model prog w) (A.under (.builtin "type.__call__" ⟨.ref C :: vs, kw⟩)) (.call (.ref f) ⟨.ref (s.heap.objs.size + 1) :: vs, kw⟩) (PySem.W.InitBack (s.heap.objs.size + 1) R)
      { s with heap := (s.heap.push PySem.W.emptyDict).push (PySem.W.instObj C s.heap.objs.size) }) :
    codeAny (model prog w) A (.call (.ref C) ⟨vs, kw⟩) R s := by
  obtain ⟨hh, g, d, t, os⟩ := s
  exact PySem.W.make_core (PySem.W.makes_of X hm) (PySem.W.looks_findIn X hi) (fun self => PySem.W.bind_fn X self hf) (.inl rfl) h
end
def putF (f : Str) (v : V) : List (Str × V) → List (Str × V)
  | [] => [(f, v)]
  | (g, x) :: r => if g = f then (g, v) :: r else (g, x) :: putF f v r
theorem lookup_putF (f g : Str) (v : V) : ∀ fs : List (Str × V), (putF f v fs).lookup g = if g = f then some v else fs.lookup g
  | [] => by
    show List.lookup g [(f, v)] = _
    by_cases h : g = f
    · have hb : (g == f) = true := beq_iff_eq.mpr h
      simp only [List.lookup, hb, if_pos h]
    · have hb : (g == f) = false := beq_eq_false_iff_ne.mpr h
      simp only [List.lookup, hb, if_neg h]
  | (k, x) :: r => by
    have ih := lookup_putF f g v r
    rw [show putF f v ((k, x) :: r) = (if k = f then (k, v) :: r else (k, x) :: putF f v r) from rfl]
    by_cases hk : k = f
    · rw [if_pos hk]
      by_cases h : g = k
      · have hb : (g == k) = true := beq_iff_eq.mpr h
        simp only [List.lookup, hb, if_pos (h.trans hk)]
      · have hb : (g == k) = false := beq_eq_false_iff_ne.mpr h
        simp only [List.lookup, hb, if_neg (fun e : g = f => h (e.trans hk.symm))]
    · rw [if_neg hk]
      by_cases h : g = k
      · have hb : (g == k) = true := beq_iff_eq.mpr h
        simp only [List.lookup, hb, if_neg (fun e : g = f => hk (h.symm.trans e))]
      · have hb : (g == k) = false := beq_eq_false_iff_ne.mpr h
        simp only [List.lookup, hb]
        exact ih
theorem keys_putF (f : Str) (v : V) : ∀ fs : List (Str × V), f ∈ (putF f v fs).map (·.1) ∧ ∀ g, g ∈ fs.map (·.1) → g ∈ (putF f v fs).map (·.1)
  | [] => ⟨by simp [putF], fun g h => by simp at h⟩
  | (k, x) :: r => by
    obtain ⟨i1, i2⟩ := keys_putF f v r
    rw [show putF f v ((k, x) :: r) = (if k = f then (k, v) :: r else (k, x) :: putF f v r) from rfl]
    by_cases hk : k = f
    · rw [if_pos hk]
      subst hk
      exact ⟨by simp, fun g h => by simpa using h⟩
    · rw [if_neg hk]
      refine ⟨?_, fun g h => ?_⟩
      · rw [List.map_cons]
        exact List.mem_cons_of_mem _ i1
      · rw [List.map_cons] at h ⊢
        rcases List.mem_cons.mp h with e | e
        · exact List.mem_cons.mpr (.inl e)
        · exact List.mem_cons_of_mem _ (i2 g e)
theorem length_putF (f : Str) (v : V) : ∀ fs : List (Str × V), (putF f v fs).length ≤ fs.length + 1
  | [] => by simp [putF]
  | (k, x) :: r => by
    have ih := length_putF f v r
    rw [show putF f v ((k, x) :: r) = (if k = f then (k, v) :: r else (k, x) :: putF f v r) from rfl]
    by_cases hk : k = f
    · rw [if_pos hk, List.length_cons, List.length_cons]; omega
    · rw [if_neg hk, List.length_cons, List.length_cons]; omega
theorem RelO.some_of {v : V} {o : Option Value} (r : RelO (some v) o) : ∃ u, o = some u ∧ RelV v u := by
  cases o with
  | none => exact (show False from r).elim
  | some u => exact ⟨u, rfl, r⟩
theorem RelO.none_of {o : Option Value} (r : RelO none o) : o = none := by
  cases o with
  | none => rfl
  | some u => exact (show False from r).elim
theorem handed_of {v : V} {u : Value} (r : RelV v u) : PySem.W.handedIn u = true := by
  cases v with
  | non => cases (show u = Value.none from r); rfl
  | bl b => cases (show u = Value.bool b from r); rfl
  | int i => obtain ⟨t, e⟩ := (show ∃ t, u = Value.int i t from r); cases e; rfl
  | str x => obtain ⟨t, e⟩ := (show ∃ t, u = Value.str x t from r); cases e; rfl
  | byt b => obtain ⟨t, e⟩ := (show ∃ t, u = Value.bytes b t from r); cases e; rfl
  | flt b => obtain ⟨t, e⟩ := (show ∃ t, u = Value.float b t from r); cases e; rfl
  | ref a => cases (show u = Value.ref a from r); rfl
  | ty n => cases (show u = Value.type n from r); rfl
section
variable {P : Program} {w : World} {H H' : Hp} {h h' : Heap} {a C dx : Addr} {fs fs' : List (Str × V)}
theorem ins_get (hok : HOk P w H h) (e : H a = some (.ins C dx fs)) : ∃ mA, ObjM h a dx C mA ∧ (∀ f, RelO (fs.lookup f) (mA f)) ∧ PySem.Within mA (fs.map (·.1)) ∧ fs.length ≤ 1000 ∧ H dx = some (.own a) := by
  obtain ⟨d, z, ne, ob, mA, n, r, q⟩ := (show ObjOk P w H h a (.ins C dx fs) from hok a _ e)
  exact ⟨mA, ⟨ob, n, ne⟩, r, q, z, d⟩
end
structure Cls (K : PySem.W.Frag) (C : Addr) : Prop where
  pg : PySem.W.plainGet K C Str.empty = true
  hd : PySem.W.hasDictIn K C = true
  po : PySem.W.plainOver K C = true
  sa : PySem.W.findIn K (.ref C) "__setattr__" = some (some (.builtin "object.__setattr__"))
theorem Cls.get {K : PySem.W.Frag} {C : Addr} (c : Cls K C) (f : Str) : PySem.W.plainGet K C f = true := c.pg
def NoAttr (K : PySem.W.Frag) (C : Addr) (f : Str) : Prop := PySem.W.findIn K (.ref C) f = some none
theorem NoAttr.taker {K : PySem.W.Frag} {C : Addr} {f : Str} (n : NoAttr K C f) : PySem.W.takerIn K C f = some none := by
  unfold PySem.W.takerIn
  rw [show PySem.W.findIn K (.ref C) f = some none from n]
  rfl
structure Meth (K : PySem.W.Frag) (C : Addr) (m : Str) (f : Addr) : Prop where
  at_ : PySem.W.findIn K (.ref C) m = some (some (.ref f))
  fn : PySem.W.isFn K (.ref f) = true
  kp : PySem.W.keepIn K (.ref f) = true
section
variable {X : Cx} {pins : List (Addr × Obj)} {σ : St} {H : Hp} {s : Shared} {a C dx : Addr} {fs : List (Str × V)} {f : Str} {v : V} {A : Around} {E : Value → Shared → Prop}
theorem getattr_ok {b : Bool} {Q : Value → Shared → Prop} (I : Inv X pins σ H s) (e : H a = some (.ins C dx fs)) (c : Cls X.K C) (n : NoAttr X.K C f) (l : fs.lookup f = some v)
    (h : ∀ u s', Inv X pins σ H s' → RelV v u → Q u s') : wpAny (model X.prog X.w) A (getAttr (.ref a) f b) Q E s := by
  obtain ⟨mA, O, r, _, _, _⟩ := ins_get I.hok e
  obtain ⟨u, hu, ru⟩ := RelO.some_of (v := v) (o := mA f) (by rw [← l]; exact r f)
  exact get_map I.kIn O (c.get f) c.hd n hu (handed_of ru) (h u _ (I.tok _) ru)
theorem getmeth_ok {m : Str} {g : Addr} {pl : Sem Bool} {Q : Value × List Value → Shared → Prop} (I : Inv X pins σ H s) (e : H a = some (.ins C dx fs)) (c : Cls X.K C) (k : Meth X.K C m g) (l : fs.lookup m = none)
    (h : Q (.ref g, [.ref a]) s) : wpAny (model X.prog X.w) A (getMethod (.ref a) m pl) Q E s := by
  obtain ⟨mA, O, r, _, _, _⟩ := ins_get I.hok e
  have hn : mA m = none := RelO.none_of (by rw [← l]; exact r m)
  exact get_meth I.kIn O (c.get m) k.at_ k.fn hn h
theorem setattr_ok {y : V} {u : Value} {Q : Unit → Shared → Prop} (I : Inv X pins σ H s) (e : H a = some (.ins C dx fs)) (c : Cls X.K C) (n : NoAttr X.K C f) (hl : fs.length < 1000) (ry : RelV y u)
    (h : ∀ s', Inv X pins σ (upd H a (.ins C dx (putF f y fs))) s' → Q () s') : wpAny (model X.prog X.w) A (setAttr (.ref a) f u) Q E s := by
  obtain ⟨mA, O, r, wi, _, ho⟩ := ins_get I.hok e
  have hz : (fs.map (·.1)).length ≤ sizeLine := by rw [List.length_map, sizeLine_eq]; omega
  refine set_map I.kIn O c.sa c.po n.taker c.hd wi hz fun h' O' sb => h _ ?_
  have hd : ∃ o, h'.get? dx = some o := let ⟨o, _, _, e', _⟩ := O'.ns; ⟨o, e'⟩
  refine I.write (x := a) (e := dx) (by rw [e]; exact True.intro) (.inr ho) (fun b q hb z => (sb.2 b hb).trans z) hd ?_
  refine ⟨by rw [upd_ne O.ne]; exact ho, ?_, O.ne, O'.obj, _, O'.ns, fun g => ?_, fun g hg => ?_⟩
  · have := length_putF f y fs; omega
  · show RelO ((putF f y fs).lookup g) (if g = f then some u else mA g)
    rw [lookup_putF]
    by_cases q : g = f
    · rw [if_pos q, if_pos q]; exact ry
    · rw [if_neg q, if_neg q]; exact r g
  · by_cases q : g = f
    · rw [q]; exact (keys_putF f y fs).1
    · refine (keys_putF f y fs).2 g (wi g fun z => hg ?_)
      show (if g = f then some u else mA g) = none
      rw [if_neg q]; exact z
theorem Inv.made (I : Inv X pins σ H s) : Inv X pins σ (upd (upd H s.heap.objs.size (.own (s.heap.objs.size + 1))) (s.heap.objs.size + 1) (.ins C s.heap.objs.size []))
    { s with heap := (s.heap.push PySem.W.emptyDict).push (PySem.W.instObj C s.heap.objs.size) } := by
  have e1 : (s.heap.push PySem.W.emptyDict).get? s.heap.objs.size = some PySem.W.emptyDict := Heap.get?_push_size s.heap rfl
  have e2 : ((s.heap.push PySem.W.emptyDict).push (PySem.W.instObj C s.heap.objs.size)).get? (s.heap.objs.size + 1) = some (PySem.W.instObj C s.heap.objs.size) := by
    have := Heap.get?_push_size (s.heap.push PySem.W.emptyDict) (o := PySem.W.instObj C s.heap.objs.size) rfl
    rwa [Heap.size_push] at this
  have e3 : (s.heap.push PySem.W.emptyDict).Ns s.heap.objs.size (fun _ => none) := ⟨PySem.W.emptyDict, #[], _, e1, rfl, (fun e he => absurd he (by simp)), fun _ => rfl⟩
  have I1 := I.laid (a := s.heap.objs.size) (o := .own (s.heap.objs.size + 1)) (h' := s.heap.push PySem.W.emptyDict) (t' := s.toks) (fun b u q => Heap.get?_push_of_some _ q) (Nat.le_refl _) ⟨_, e1⟩
  refine I1.laid (a := s.heap.objs.size + 1) (o := .ins C s.heap.objs.size []) (t' := s.toks) (fun b u q => Heap.get?_push_of_some _ q) (Nat.le_of_eq (Heap.size_push _ _)) ?_
  have ne : s.heap.objs.size ≠ s.heap.objs.size + 1 := Nat.ne_of_lt (Nat.lt_succ_self _)
  refine ⟨by rw [upd_ne ne, upd_same], Nat.zero_le _, ne, e2, fun _ => none, (Heap.Ns1.of_empty e3).at fun o q => Heap.get?_push_of_some _ q, fun _ => True.intro, fun y hy => absurd rfl hy⟩
theorem attr_of {prog : Program} {w : World} {env : Env} {e : Expr} {f : Str} {pos : Pos} {s : Shared} {Q : Value → Shared → Prop} (hb : attributeBase e f env (eval e env) = eval e env)
    (h : wpAny (model prog w) A (eval e env) (fun o s₁ => wpAny (model prog w) A (getAttr o f true) Q E s₁) E s) : wpAny (model prog w) A (eval (.Attribute e f pos) env) Q E s :=
  Attribute_any_ h (by rw [arm_eval_Attribute, hb])
end
def tFld (K : PySem.W.Frag) (ta : TE) (f : Str) : TE := fun σ H Q => ta σ H fun x H1 => ∃ a C dx fs v, x = .ref a ∧ H1 a = some (.ins C dx fs) ∧ Cls K C ∧ NoAttr K C f ∧ fs.lookup f = some v ∧ Q v H1
def sFld (K : PySem.W.Frag) (ta tv : TE) (f : Str) : TS := fun D σ H => tv σ H fun y H1 => ta σ H1 fun x H2 => ∃ a C dx fs, x = .ref a ∧ H2 a = some (.ins C dx fs) ∧ Cls K C ∧ NoAttr K C f ∧ fs.length < 1000 ∧
  D.nx σ (upd H2 a (.ins C dx (putF f y fs)))
section
variable {X : Cx} {o e value : Expr} {f : Str} {pos pos' tpos : Pos} {ta tv : TE}
theorem pe_fld (he : PE X e ta) (hb : attributeBase e f X.env (eval e X.env) = eval e X.env) : PE X (.Attribute e f pos) (tFld X.K ta f) := by
  intro pins s σ H Q I h
  refine attr_of hb (thn (he pins s σ H _ I h) fun u s1 ⟨x, H1, I1, rx, a, C, dx, fs, v, ex, ea, c, n, l, q⟩ => ?_)
  subst ex
  obtain rfl : u = Value.ref a := rx
  exact getattr_ok I1 ea c n l fun u' s2 I2 ru => ⟨v, H1, I2, ru, q⟩
theorem ps_fld (ha : PE X o ta) (hv : PE X value tv) (hs : swapsWith value (some (.Attribute o f pos')) pos.line X.env = pure false) : PS X (.Assign [.Attribute o f pos'] value pos) (sFld X.K ta tv f) := by
  intro pins s σ H D I h
  refine plainObj_wpAny_Assign_Attribute (thn (hv pins s σ H _ I h) fun u s1 ⟨y, H1, I1, ry, q⟩ => thn (ha pins s1 σ H1 _ I1 q) fun ov s2 ⟨x, H2, I2, rx, a, C, dx, fs, ex, ea, c, n, l, q2⟩ => ?_) hs
  subst ex
  obtain rfl : ov = Value.ref a := rx
  exact setattr_ok I2 ea c n l ry fun s3 I3 => ⟨σ, _, I3, q2⟩
def rAdd : V → V → Hp → VK → Prop := fun x y H Q => ∃ i j, x = .int i ∧ y = .int j ∧ Q (.int (i + j)) H
def rSub : V → V → Hp → VK → Prop := fun x y H Q => ∃ i j, x = .int i ∧ y = .int j ∧ Q (.int (i - j)) H
end
section
variable {X : Cx} {pins : List (Addr × Obj)} {σ : St} {H : Hp} {s : Shared} {A : Around} {E : Value → Shared → Prop} {Q : Value → Shared → Prop} {c : Value} {b : Bool}
inductive TyOf (K : PySem.W.Frag) (H : Hp) : V → Value → Prop where
  | non : TyOf K H .non (.type "NoneType")
  | bl (x : Bool) : TyOf K H (.bl x) (.type "bool")
  | int (i : Int) : TyOf K H (.int i) (.type "int")
  | str (x : Str) : TyOf K H (.str x) (.type "str")
  | flt (x : UInt64) : TyOf K H (.flt x) (.type "float")
  | lst {a : Addr} {xs : List V} (e : H a = some (.lst xs)) : TyOf K H (.ref a) (.type "list")
  | frz {a : Addr} {o : Obj} {xs : List V} (e : H a = some (.frz o (.lst xs))) : TyOf K H (.ref a) (.type "list")
  | tup {a : Addr} {xs : List V} (e : H a = some (.tup xs)) : TyOf K H (.ref a) (.type "tuple")
  | dK {a : Addr} {kvs : List (Key × V)} (e : H a = some (.dK kvs)) : TyOf K H (.ref a) (.type "dict")
  | dT {a : Addr} {kvs : List (List Key × V)} (e : H a = some (.dT kvs)) : TyOf K H (.ref a) (.type "dict")
  | ins {a C dx : Addr} {fs : List (Str × V)} (e : H a = some (.ins C dx fs)) (cl : Cls K C) (ha : PySem.W.findIn K (.ref C) "__class__" = some (some (.builtin "object.__class__")))
      (hn : PySem.W.specialIn K (.builtin "object.__class__") "__get__" = some (some (.builtin "getset_descriptor.__get__"))) (htk : PySem.W.takesIn K (.builtin "object.__class__") = some true)
      (hm : PySem.W.mroIn K C (.type "object") = some true) : TyOf K H (.ref a) (.ref C)
theorem isinst_ok {x : V} {u t : Value} (I : Inv X pins σ H s) (rx : RelV x u) (ty : TyOf X.K H x t) (e : PySem.W.kitOne X.K t c = some b) (h : ∀ tk, Q (.bool b) { s with toks := tk }) :
    wpAny (model X.prog X.w) A (call (.builtin "isinstance") [u, c]) Q E s := by
  cases ty with
  | non => cases (show u = Value.none from rx); exact PySem.W.kia_one PySem.W.kitx_none I.kIn True.intro e (fun z => nomatch z) h
  | bl y => cases (show u = Value.bool y from rx); exact PySem.W.kia_one PySem.W.kitx_bool I.kIn True.intro e (fun z => nomatch z) h
  | int i => obtain ⟨t, q⟩ := (show ∃ t, u = Value.int i t from rx); cases q; exact PySem.W.kia_one PySem.W.kitx_int I.kIn True.intro e (fun z => nomatch z) h
  | str y => obtain ⟨t, q⟩ := (show ∃ t, u = Value.str y t from rx); cases q; exact PySem.W.kia_one PySem.W.kitx_str I.kIn True.intro e (fun z => nomatch z) h
  | flt y => obtain ⟨t, q⟩ := (show ∃ t, u = Value.float y t from rx); cases q; exact PySem.W.kia_one PySem.W.kitx_float I.kIn True.intro e (fun z => nomatch z) h
  | @lst a xs ea =>
    cases (show u = Value.ref a from rx)
    obtain ⟨_, _, n, _, h1⟩ := (show ObjOk X.prog X.w H s.heap a (.lst xs) from I.hok a _ ea)
    exact PySem.W.kia_one PySem.W.kitx_list I.kIn ⟨_, h1, rfl⟩ e (fun z => nomatch z) h
  | @frz a ob xs ea =>
    cases (show u = Value.ref a from rx)
    obtain ⟨_, _, _, n, _, h1⟩ := (show ObjOk X.prog X.w H s.heap a (.frz ob (.lst xs)) from I.hok a _ ea)
    exact PySem.W.kia_one PySem.W.kitx_list I.kIn ⟨_, h1, rfl⟩ e (fun z => nomatch z) h
  | @tup a xs ea =>
    cases (show u = Value.ref a from rx)
    obtain ⟨_, _, _, p⟩ := (show ObjOk X.prog X.w H s.heap a (.tup xs) from I.hok a _ ea)
    obtain ⟨o, h1, h2, _⟩ := p
    exact PySem.W.kia_one PySem.W.kitx_tuple I.kIn ⟨o, h1, h2⟩ e (fun z => nomatch z) h
  | @dK a kvs ea =>
    cases (show u = Value.ref a from rx)
    obtain ⟨_, _, vs, _, p⟩ := (show ObjOk X.prog X.w H s.heap a (.dK kvs) from I.hok a _ ea)
    obtain ⟨o, es, ep, h1, h2, _⟩ := p
    exact PySem.W.kia_one PySem.W.kitx_dict I.kIn ⟨o, h1, h2.1⟩ e (fun z => nomatch z) h
  | @dT a kvs ea =>
    cases (show u = Value.ref a from rx)
    obtain ⟨_, _, xs, _, o, es, ep, h1, h2, _⟩ := (show ObjOk X.prog X.w H s.heap a (.dT kvs) from I.hok a _ ea)
    exact PySem.W.kia_one PySem.W.kitx_dict I.kIn ⟨o, h1, h2.1⟩ e (fun z => nomatch z) h
  | @ins a C dx fs ea cl ha hn htk hm =>
    cases (show u = Value.ref a from rx)
    obtain ⟨mA, O, _⟩ := ins_get I.hok ea
    obtain ⟨od, J, _⟩ := O.look
    exact PySem.W.kia_one (PySem.W.kitx_own (cl.get _) cl.hd ha hn htk hm) I.kIn J e (fun z => nomatch z) h
end
end L2
namespace L2
open PySem PySem.Spec PyProof.Rows
structure Room (k : Nat) (A : Around) : Prop where
  hd : A.handled = none
  dp : A.depth + 3 * k + 5 < recursionLimit
  un : A.units + 16 * k + 200 < cLine
theorem Room.mono {j k : Nat} {A : Around} (r : Room k A) (h : j ≤ k) : Room j A := ⟨r.hd, by have := r.dp; omega, by have := r.un; omega⟩
theorem Room.deeper {k : Nat} {A : Around} (r : Room (k + 1) A) (env : Env) : Room k (A.deeper env) :=
  ⟨r.hd, by have := r.dp; show A.depth + 1 + 3 * k + 5 < _; omega, by have := r.un; show A.units + 3 + 16 * k + 200 < _; omega⟩
theorem make_depth {A : Around} {C : Addr} {us : List Value} {kw : List (Str × Value)} : (A.under (.builtin "type.__call__" ⟨.ref C :: us, kw⟩)).depth = A.depth + 1 := by
  first | rfl | simp [Around.under, Code.weight, Code.isCreation, Code.isGuard, Code.isCaller, Code.frames, Code.isFrame, guardIds]
theorem make_units {A : Around} {C : Addr} {us : List Value} {kw : List (Str × Value)} : (A.under (.builtin "type.__call__" ⟨.ref C :: us, kw⟩)).units = A.units + 1 := by
  first | rfl | simp [Around.under, Code.cUnits, Code.frames, Code.isFrame]
theorem Room.make {k : Nat} {A : Around} (r : Room (k + 1) A) (C : Addr) (us : List Value) (kw : List (Str × Value)) : Room k (A.under (.builtin "type.__call__" ⟨.ref C :: us, kw⟩)) :=
  ⟨r.hd, by have := r.dp; rw [make_depth]; omega, by have := r.un; rw [make_units]; omega⟩
theorem Room.depth {k : Nat} {A : Around} (r : Room k A) : A.depth < recursionLimit := by have := r.dp; omega
theorem Room.units {k : Nat} {A : Around} (r : Room k A) : A.units + 64 < cLine := by have := r.un; omega
def tNil : TA := fun _ H Q => Q [] H
def tCons (ta : TE) (tr : TA) : TA := fun σ H Q => ta σ H fun x H1 => tr σ H1 fun xs H2 => Q (x :: xs) H2
section
variable {X : Cx} {e : Expr} {es : List Expr} {te : TE} {t : TA} {pos : Pos}
theorem pa_nil : PA X [] tNil := fun _ _ _ _ H Q I h => Calls.spliced_nil ⟨[], H, I, .nil, h⟩
theorem pa_cons (ha : PE X e te) (hr : PA X es t) (hs : starEach (e :: es) X.env = (false, eval e X.env) :: starEach es X.env := by rfl) : PA X (e :: es) (tCons te t) := by
  intro pos pins s σ H Q I h
  rw [hs]
  show wpAny _ _ (spliced ((false, eval e X.env) :: backTo pos (starEach es X.env))) _ _ s
  refine Calls.spliced_cons (thn (ha pins s σ H _ I h) fun u s1 ⟨x, H1, I1, r1, q1⟩ => ?_)
  exact thn (hr pos pins s1 σ H1 _ I1 q1) fun us s2 ⟨xs, H2, I2, r2, q2⟩ => ⟨x :: xs, H2, I2, .cons r1 r2, q2⟩
def tTup (t : TA) : TE := fun σ H Q => t σ H fun xs H1 => xs.length ≤ sizeLine ∧ ∀ p, H1 p = none → Q (.ref p) (upd H1 p (.tup xs))
def tLst (t : TA) : TE := fun σ H Q => t σ H fun xs H1 => xs.length ≤ sizeLine ∧ ∀ p, H1 p = none → Q (.ref p) (upd H1 p (.lst xs))
theorem pe_tup {x1} (h : PA X es t) : PE X (.Tuple es x1 pos) (tTup t) := by
  intro pins s σ H Q I hq
  refine wpAny_Tuple_spliced (thn (h pos pins s σ H _ I hq) fun us s1 ⟨xs, H1, I1, r, z, q⟩ => ⟨by rw [← r.length]; exact z, ?_⟩)
  have hf : H1 s1.heap.objs.size = none := I1.hok.fresh (Nat.le_refl _)
  refine ⟨.ref s1.heap.objs.size, upd H1 s1.heap.objs.size (.tup xs), I1.laid (t' := s1.toks) (fun b u e => Heap.get?_push_of_some _ e) (Nat.le_refl _) ?_, rfl, q _ hf⟩
  exact ⟨z, us, r, ⟨_, Heap.get?_push_size _ rfl, rfl, _, rfl⟩⟩
theorem pe_lst (h : PA X es t) : PE X (.List es pos) (tLst t) := by
  intro pins s σ H Q I hq
  refine wpAny_List_spliced (thn (h pos pins s σ H _ I hq) fun us s1 ⟨xs, H1, I1, r, z, q⟩ => ⟨by rw [← r.length]; exact z, ?_⟩)
  have hf : H1 s1.heap.objs.size = none := I1.hok.fresh (Nat.le_refl _)
  refine ⟨.ref s1.heap.objs.size, upd H1 s1.heap.objs.size (.lst xs), I1.laid (t' := s1.toks) (fun b u e => Heap.get?_push_of_some _ e) (Nat.le_refl _) ?_, rfl, q _ hf⟩
  exact ⟨z, us, 0, r, Heap.get?_push_size _ rfl⟩
end
abbrev Sp := List V → Hp → VK → XK → Prop
abbrev CXT := List Env → Hp → Shared → XK → Value → Shared → Prop
structure Env0 (P : Program) (w : World) (K : PySem.W.Frag) (mg : Str → Option Value) (base : Heap) (A : Around) (outer : List Env) (s : Shared) (H : Hp) : Prop where
  frames : A.frames = some outer
  mod : Mod K mg base
  bs : ∀ b o, base.get? b = some o → s.heap.get? b = some o ∧ H b = none
  bsz : base.objs.size ≤ s.heap.objs.size
  funs : s.heap.FunFrames base outer
  frf : ∀ b ∈ frs outer, H b = none
  hok : HOk P w H s.heap
  bare : AllBare s.gens
def CE (outer : List Env) (P : Program) (w : World) (H : Hp) (s : Shared) (Q : VK) (u : Value) (s' : Shared) : Prop :=
  ∃ v H', s'.os = s.os ∧ AllBare s'.gens ∧ Un (frs outer) [] H H' s.heap s'.heap ∧ HOk P w H' s'.heap ∧ RelV v u ∧ Q v H'
def CR (CX : CXT) (outer : List Env) (P : Program) (w : World) (H : Hp) (s : Shared) (Q : VK) (E : XK) (r : Result) (s' : Shared) : Prop :=
  match r with
  | .ok (.ret u) => CE outer P w H s Q u s'
  | .ok _ => False
  | .error e => CX outer H s E e s'
structure FnOk (P : Program) (w : World) (K : PySem.W.Frag) (mg : Str → Option Value) (base : Heap) (CX : CXT) (k : Nat) (f : Addr) (fd : FuncData) (ps : List Str) (sp : Sp) : Prop where
  len : ∀ vs H Q E, sp vs H Q E → vs.length = ps.length
  run : ∀ (A : Around) (outer : List Env) (s : Shared) (H : Hp) (args : Args) (us : List Value) (vs : List V) (Q : VK) (E : XK), Room k A → Env0 P w K mg base A outer s H → BindsTo s fd args (ps.zip us) → Vals vs us → sp vs H Q E →
    codeAny (model P w) A (.call (.ref f) args) (CR CX outer P w H s Q E) s
theorem Env0.make {P : Program} {w : World} {K : PySem.W.Frag} {mg : Str → Option Value} {base : Heap} {A : Around} {outer : List Env} {s : Shared} {H : Hp} (e : Env0 P w K mg base A outer s H) (C : Addr) (us : List Value) (kw : List (Str × Value)) :
    Env0 P w K mg base (A.under (.builtin "type.__call__" ⟨.ref C :: us, kw⟩)) outer s H := ⟨by first | exact e.frames | (simpa [Around.under, Code.envs, Code.isFrame, pushEnvs] using e.frames), e.mod, e.bs, e.bsz, e.funs, e.frf, e.hok, e.bare⟩
section
variable {X : Cx} {pins : List (Addr × Obj)} {σ : St} {H : Hp} {s s' : Shared}
theorem Inv.env0 (I : Inv X pins σ H s) : Env0 X.prog X.w X.K X.mg X.base X.A X.stack s H :=
  ⟨I.ok.frames, I.ok.mod, I.bs, Nat.le_trans I.ok.bsz I.sz, I.stack, I.stkFree, I.hok, I.bare⟩
theorem Inv.after {Q : VK} {u : Value} (I : Inv X pins σ H s) (h : CE X.stack X.prog X.w H s Q u s') : EP X pins σ Q u s' := by
  obtain ⟨v, H', os, bare, un, hok, r, q⟩ := h
  obtain ⟨hh, g, d, t, os'⟩ := s'
  obtain rfl : os' = s.os := os
  exact ⟨v, H', I.call (h' := hh) (g' := g) (d' := d) (t' := t) (ch := []) un hok bare (fun b z => absurd z (by simp)), r, q⟩
end
def tCall (sp : Sp) (dvs : List V) (E : XK) (t : TA) : TE := fun σ H Q => t σ H fun vs H1 => sp (vs ++ dvs) H1 Q E
def tMeth (C : Addr) (m : Str) (sp : Sp) (dvs : List V) (E : XK) (ta : TE) (t : TA) : TE := fun σ H Q => ta σ H fun x H1 => ∃ a dx fs, x = .ref a ∧ H1 a = some (.ins C dx fs) ∧ fs.lookup m = none ∧
  t σ H1 fun vs H2 => sp (x :: (vs ++ dvs)) H2 Q E
def tMake (C : Addr) (sp : Sp) (dvs : List V) (E : XK) (t : TA) : TE := fun σ H Q => t σ H fun vs H1 => ∀ x dx, H1 x = none → H1 dx = none → dx ≠ x →
  sp (.ref x :: (vs ++ dvs)) (upd (upd H1 dx (.own x)) x (.ins C dx [])) (fun v H2 => v = .non ∧ Q (.ref x) H2) E
def Binds (K : PySem.W.Frag) (fd : FuncData) (ps : List Str) (ds : List Value) : Prop :=
  ∀ (s : Shared) (us : List Value), K.In s.heap → (us ++ ds).length = ps.length → BindsTo s fd ⟨us, []⟩ (ps.zip (us ++ ds))
theorem Binds.all {K : PySem.W.Frag} {fd : FuncData} {ps : List Str} (h : ∀ us : List Value, us.length = ps.length → bindArgs fd ⟨us, []⟩ = pure (ps.zip us)) : Binds K fd ps [] := fun s us _ hl => by
  rw [List.append_nil] at hl ⊢
  exact .of_eq (h us hl)
def Passes (CX : CXT) (X : Cx) (E : XK) : Prop := ∀ (pins : List (Addr × Obj)) (σ : St) (H : Hp) (s : Shared) (e : Value) (s' : Shared), Inv X pins σ H s → CX X.stack H s E e s' → X.xe e s'
section
variable {X : Cx} {CX : CXT} {k : Nat} {f C : Addr} {fd : FuncData} {ps : List Str} {sp : Sp} {dvs : List V} {ds : List Value} {E : XK} {x m : Str} {p pos apos : Pos} {e o : Expr} {es : List Expr} {ta : TE} {t : TA}
theorem run_fn {pins : List (Addr × Obj)} {σ : St} {H : Hp} {s : Shared} {Q : VK} {us : List Value} {vs : List V} (F : FnOk X.prog X.w X.K X.mg X.base CX k f fd ps sp) (hr : Room k X.A) (hb : Binds X.K fd ps ds) (hd : Vals dvs ds) (hx : Passes CX X E)
    (I : Inv X pins σ H s) (r : Vals vs us) (h : sp (vs ++ dvs) H Q E) : wpAny (model X.prog X.w) X.A (call (.ref f) us) (EP X pins σ Q) X.xe s := by
  have r2 : Vals (vs ++ dvs) (us ++ ds) := r.append hd
  have hl : (us ++ ds).length = ps.length := by rw [← r2.length]; exact F.len _ _ _ _ h
  refine wpAny_call (codeAny_mono (F.run X.A X.stack s H ⟨us, []⟩ (us ++ ds) (vs ++ dvs) Q E hr I.env0 (hb s us I.kIn hl) r2 h) fun r s' hq => ?_)
  cases r with
  | error e => exact hx pins σ H s e s' I hq
  | ok fl =>
    cases fl with
    | ret u => exact I.after hq
    | next => exact False.elim hq
    | brk => exact False.elim hq
    | cont => exact False.elim hq
theorem pe_call (F : FnOk X.prog X.w X.K X.mg X.base CX k f fd ps sp) (hr : Room k X.A) (hg : Gl X x) (hm : X.mg x = some (.ref f)) (hk : PySem.W.keepIn X.K (.ref f) = true) (hb : Binds X.K fd ps ds) (hd : Vals dvs ds) (hx : Passes CX X E)
    (ha : PA X (e :: es) t) (hdb : (x == ("__debug__" : Str)) = false := by decide) (he : starEach (e :: es) X.env = (false, eval e X.env) :: starEach es X.env := by rfl) (hpl : (backTo pos (starEach es X.env)).any (·.1) = false := by rfl) :
    PE X (.Call (.Name x p) (e :: es) [] pos) (tCall sp dvs E t) := by
  intro pins s σ H Q I h
  refine wpAny_Call_Name_kw (ld_glob I hg hm ?_ hdb)
  refine PySem.W.callWith_K (h₀ := X.base) I.ok.mod.kin hk (thn (ha pos pins s σ H _ I h) fun us s1 ⟨vs, H1, I1, r, q⟩ => ⟨I1.kIn, ?_⟩) he hpl
  exact run_fn F hr hb hd hx I1 r q
theorem pe_meth {pl : Sem Bool} (he : PE X o ta) (c : Cls X.K C) (hm : Meth X.K C m f) (F : FnOk X.prog X.w X.K X.mg X.base CX k f fd ps sp) (hr : Room k X.A) (hb : Binds X.K fd ps ds) (hd : Vals dvs ds) (hx : Passes CX X E) (ha : PA X (e :: es) t)
    (hst : starEach (e :: es) X.env = (false, eval e X.env) :: starEach es X.env := by rfl) (hpl : (backTo pos (starEach es X.env)).any (·.1) = false := by rfl)
    (ht : eval (.Call (.Attribute o m apos) (e :: es) [] pos) X.env = (do
      let ov ← eval o X.env
      standAt apos.atName
      let (f, first) ← holding [ov] (getMethod ov m pl)
      callWith pos f first (backTo pos (starEach (e :: es) X.env)) (backToKw pos (keywordEach [] X.env))) := by rfl) :
    PE X (.Call (.Attribute o m apos) (e :: es) [] pos) (tMeth C m sp dvs E ta t) := by
  intro pins s σ H Q I h
  refine PySem.W.methodCall_KW (pl := pl) (thn (he pins s σ H _ I h) fun u s1 ⟨x, H1, I1, rx, a, dx, fs, ex, ea, l, q⟩ => ?_) ht
  subst ex
  obtain rfl : u = Value.ref a := rx
  refine getmeth_ok I1 ea c hm l ?_
  refine PySem.W.callWith_K (first := [.ref a]) (h₀ := X.base) I.ok.mod.kin hm.kp (thn (ha pos pins s1 σ H1 _ I1 q) fun us s2 ⟨vs, H2, I2, r, q2⟩ => ⟨I2.kIn, ?_⟩) hst hpl
  exact run_fn (us := .ref a :: us) (vs := .ref a :: vs) F hr hb hd hx I2 (.cons rfl r) q2
structure Mk (K : PySem.W.Frag) (C f : Addr) : Prop where
  makes : PySem.W.makesIn K C = true
  init : PySem.W.findIn K (.ref C) "__init__" = some (some (.ref f))
  fn : PySem.W.isFn K (.ref f) = true
  kp : PySem.W.keepIn K (.ref C) = true
theorem run_make {pins : List (Addr × Obj)} {σ : St} {H : Hp} {s : Shared} {Q : VK} {us : List Value} {vs : List V} (M : Mk X.K C f) (F : FnOk X.prog X.w X.K X.mg X.base CX k f fd ps sp) (hr : Room (k + 1) X.A) (hb : Binds X.K fd ps ds) (hd : Vals dvs ds)
    (hx : Passes CX X E) (I : Inv X pins σ H s) (r : Vals vs us)
    (h : ∀ x dx, H x = none → H dx = none → dx ≠ x → sp (.ref x :: (vs ++ dvs)) (upd (upd H dx (.own x)) x (.ins C dx [])) (fun v H2 => v = .non ∧ Q (.ref x) H2) E) :
    wpAny (model X.prog X.w) X.A (call (.ref C) us) (EP X pins σ Q) X.xe s := by
  have hq := h (s.heap.objs.size + 1) s.heap.objs.size (I.hok.fresh (Nat.le_succ _)) (I.hok.fresh (Nat.le_refl _)) (Nat.ne_of_lt (Nat.lt_succ_self _))
  have I2 := Inv.made (C := C) I
  have r2 : Vals (V.ref (s.heap.objs.size + 1) :: (vs ++ dvs)) (Value.ref (s.heap.objs.size + 1) :: (us ++ ds)) := .cons rfl (r.append hd)
  have hl : (Value.ref (s.heap.objs.size + 1) :: us ++ ds).length = ps.length := by
    have e := r2.length
    rw [F.len _ _ _ _ hq] at e
    exact e.symm
  refine wpAny_call (make_map (f := f) I.kIn M.makes M.init (beq_iff_eq.mp M.fn) (codeAny_mono (F.run _ X.stack _ _ ⟨Value.ref (s.heap.objs.size + 1) :: us, []⟩ (Value.ref (s.heap.objs.size + 1) :: (us ++ ds)) _ _ E (hr.make C us [])
    (I2.env0.make C us []) (hb _ (Value.ref (s.heap.objs.size + 1) :: us) I2.kIn hl) r2 hq) fun r s' hq' => ?_))
  cases r with
  | error e => exact hx pins σ _ _ e s' I2 hq'
  | ok fl =>
    cases fl with
    | ret u =>
      obtain ⟨v, H', I3, rv, ev, q3⟩ := I2.after hq'
      subst ev
      exact ⟨rv, ⟨V.ref (s.heap.objs.size + 1), H', I3, rfl, q3⟩⟩
    | next => exact False.elim hq'
    | brk => exact False.elim hq'
    | cont => exact False.elim hq'
theorem pe_make (M : Mk X.K C f) (F : FnOk X.prog X.w X.K X.mg X.base CX k f fd ps sp) (hr : Room (k + 1) X.A) (hg : Gl X x) (hm : X.mg x = some (.ref C)) (hb : Binds X.K fd ps ds) (hd : Vals dvs ds) (hx : Passes CX X E)
    (ha : PA X (e :: es) t) (hdb : (x == ("__debug__" : Str)) = false := by decide) (he : starEach (e :: es) X.env = (false, eval e X.env) :: starEach es X.env := by rfl) (hpl : (backTo pos (starEach es X.env)).any (·.1) = false := by rfl) :
    PE X (.Call (.Name x p) (e :: es) [] pos) (tMake C sp dvs E t) := by
  intro pins s σ H Q I h
  refine wpAny_Call_Name_kw (ld_glob I hg hm ?_ hdb)
  refine PySem.W.callWith_K (h₀ := X.base) I.ok.mod.kin M.kp (thn (ha pos pins s σ H _ I h) fun us s1 ⟨vs, H1, I1, r, q⟩ => ⟨I1.kIn, ?_⟩) he hpl
  exact run_make M F hr hb hd hx I1 r q
end
section
variable {X : Cx} {CX : CXT} {k : Nat} {f C : Addr} {fd : FuncData} {ps ks : List Str} {sp : Sp} {E : XK} {x m : Str} {p pos apos kpos : Pos} {e o : Expr} {es : List Expr} {kws : List Keyword} {te ta : TE} {t tk : TA} {nm : Option Str}
variable {g : List Value → List Value → List Value} {gV : List V → List V → List V}
end
structure FnScope (N P : List Str) (sc : Scope) : Prop where
  kind : sc.kind = .function
  co : sc.isCoroutine = false
  gen : sc.isGenerator = false
  nd : N.Nodup
  pre : N.take P.length = P
  par : ∀ x ∈ P, sc.names.lookup x = some .local ∨ sc.names.lookup x = some .cell
  nofree : ∀ y ∈ sc.names, y.2 ≠ .free
theorem bindL_out {kindOf : Str → Option NameKind} {x : Str} : ∀ {binds : List (Str × Value)} {m : Str → Option Value}, (∀ v, (x, v) ∉ binds) → bindL kindOf binds m x = m x
  | [], _, _ => rfl
  | (n, v) :: r, m, h => by
    unfold bindL
    rw [bindL_out fun w hw => h w (List.mem_cons_of_mem _ hw)]
    split
    · have : x ≠ n := by rintro rfl; exact h v List.mem_cons_self
      simp [this]
    · rfl
theorem bindC_out {kindOf : Str → Option NameKind} {x : Str} : ∀ {binds : List (Str × Value)} {m : Str → Option Value}, (∀ v, (x, v) ∉ binds) → bindC kindOf binds m x = m x
  | [], _, _ => rfl
  | (n, v) :: r, m, h => by
    unfold bindC
    rw [bindC_out fun w hw => h w (List.mem_cons_of_mem _ hw)]
    split
    · rfl
    · have : x ≠ n := by rintro rfl; exact h v List.mem_cons_self
      simp [this]
theorem bindL_get {kindOf : Str → Option NameKind} {x : Str} {v : Value} : ∀ {P : List Str} {vs : List Value} {i : Nat} {m : Str → Option Value}, P.Nodup → P[i]? = some x → vs[i]? = some v → kindOf x = some .local →
    bindL kindOf (P.zip vs) m x = some v
  | [], _, _, _, _, h, _, _ => by simp at h
  | _ :: _, [], _, _, _, _, h, _ => by simp at h
  | p :: P, w :: vs, 0, m, nd, h1, h2, hk => by
    simp at h1 h2; subst h1; subst h2
    show bindL kindOf ((p, w) :: P.zip vs) m p = _
    unfold bindL
    rw [bindL_out fun v hv => (List.nodup_cons.mp nd).1 (List.of_mem_zip hv).1, if_pos hk]
    simp
  | p :: P, w :: vs, i + 1, m, nd, h1, h2, hk => by
    show bindL kindOf ((p, w) :: P.zip vs) m x = _
    unfold bindL
    exact bindL_get (i := i) (List.nodup_cons.mp nd).2 (by simpa using h1) (by simpa using h2) hk
theorem bindC_get {kindOf : Str → Option NameKind} {x : Str} {v : Value} : ∀ {P : List Str} {vs : List Value} {i : Nat} {m : Str → Option Value}, P.Nodup → P[i]? = some x → vs[i]? = some v → kindOf x ≠ some .local →
    bindC kindOf (P.zip vs) m x = some v
  | [], _, _, _, _, h, _, _ => by simp at h
  | _ :: _, [], _, _, _, _, h, _ => by simp at h
  | p :: P, w :: vs, 0, m, nd, h1, h2, hk => by
    simp at h1 h2; subst h1; subst h2
    show bindC kindOf ((p, w) :: P.zip vs) m p = _
    unfold bindC
    rw [bindC_out fun v hv => (List.nodup_cons.mp nd).1 (List.of_mem_zip hv).1, if_neg hk]
    simp
  | p :: P, w :: vs, i + 1, m, nd, h1, h2, hk => by
    show bindC kindOf ((p, w) :: P.zip vs) m x = _
    unfold bindC
    exact bindC_get (i := i) (List.nodup_cons.mp nd).2 (by simpa using h1) (by simpa using h2) hk
def start (N : List Str) (vs : List V) : St := vs.map some ++ List.replicate (N.length - vs.length) none
def cxOf (CX : CXT) (P : Program) (w : World) (K : PySem.W.Frag) (mg : Str → Option Value) (base : Heap) (N : List Str) (qual : Str) (scope : Scope) (f : Addr) (cd : Value) (A : Around) (outer : List Env) (s : Shared) (H : Hp) (E : XK) : Cx where
  prog := P
  w := w
  K := K
  mg := mg
  base := base
  A := A.deeper (envOfC qual scope s.heap.objs.size f cd)
  N := N
  s₀ := s
  H₀ := H
  env := envOfC qual scope s.heap.objs.size f cd
  outer := outer
  stack := envOfC qual scope s.heap.objs.size f cd :: outer
  ex := []
  calm := true
  fn := fun _ => true
  pn := []
  xe := fun e s' => wpAny (model P w) (A.deeper (envOfC qual scope s.heap.objs.size f cd)) (leaving (envOfC qual scope s.heap.objs.size f cd) e) (fun _ s'' => CX outer H s E e s'') (fun e' s'' => CX outer H s E e' s'') s'
theorem cell_has {sc : Scope} {n : Nat} {x : Str} (h : sc.names.lookup x = some .cell) : ∃ c, (cellsFrom n sc.names []).lookup x = some c := by
  have q := PySem.W.cellsFrom_some sc.names n [] (.inl h)
  exact Option.isSome_iff_exists.mp q
theorem inv_start {CX : CXT} {P : Program} {w : World} {K : PySem.W.Frag} {mg : Str → Option Value} {base : Heap} {N ps : List Str} {qual : Str} {scope : Scope} {f : Addr} {cd : Value} {A : Around} {outer : List Env} {s s1 : Shared} {H : Hp} {E : XK} {us : List Value} {vs : List V}
    (S : FnScope N ps scope) (hd : A.handled = none) (e0 : Env0 P w K mg base A outer s H) (hl : vs.length = ps.length) (r : Vals vs us)
    (x : InCallC s s.heap.objs.size (bindL (envOfC qual scope s.heap.objs.size f cd).kindOf (ps.zip us) fun _ => none) (cellsFrom (s.heap.objs.size + 1) scope.names []) (bindC (envOfC qual scope s.heap.objs.size f cd).kindOf (ps.zip us) fun _ => none) s1) :
    Inv (cxOf CX P w K mg base N qual scope f cd A outer s H E) [] (start N vs) H s1 := by
  have hpl : ps.length ≤ N.length := by have := congrArg List.length S.pre; rw [List.length_take] at this; omega
  obtain ⟨h1, tk, rfl, hk⟩ := x.done
  have noA : ∀ b : Addr, b ∉ (cxOf CX P w K mg base N qual scope f cd A outer s H E).ex := fun b z => absurd (show b ∈ ([] : List Addr) from z) (by simp)
  refine ⟨⟨e0.mod, S.kind, rfl, rfl, Nat.le_refl _, fun y z c h1 h2 => ?_, fun y hy => ?_, fun y c _ h => ?_, fun _ => hd, Around.frames_deeper e0.frames, .inr ⟨rfl, rfl⟩, fun b z => absurd z (noA b), e0.bs, e0.bsz, fun b _ _ => noA b, fun b z => absurd z (noA b), e0.funs, e0.frf⟩,
    rfl, e0.bare, Un.kept hk, ⟨_, x.toInCall.ns, fun i y v h1 h2 h3 => ?_⟩, fun y c h => ⟨_, x.cell y c h⟩, e0.hok.fresh (Nat.le_refl _), fun y c h => ?_, fun p hp => absurd (show p ∈ ([] : List (Addr × Obj)) from hp) (by simp), e0.hok.kept hk, ?_⟩
  · exact name_of_addr x.apart (PySem.mem_of_lookup h1) (PySem.mem_of_lookup h2)
  · have hy : scope.names.lookup y = some .cell ∨ scope.names.lookup y = some .free := hy
    rcases hy with hy | hy
    · exact cell_has hy
    · exact absurd rfl (S.nofree _ (PySem.mem_of_lookup hy))
  · exact Nat.le_of_lt (x.above y c (PySem.mem_of_lookup h))
  · have hi : i < vs.length := by
      unfold start at h2
      by_cases hi : i < vs.length
      · exact hi
      · rw [List.getElem?_append_right (by simpa using hi)] at h2
        rw [List.getElem?_replicate] at h2
        split at h2 <;> cases h2
    have ha : vs[i]? = some v := by
      unfold start at h2
      rw [List.getElem?_append_left (by simpa using hi), List.getElem?_map] at h2
      cases e : vs[i]? with
      | none => rw [e] at h2; cases h2
      | some a => rw [e] at h2; cases h2; rfl
    obtain ⟨u, hu, rv⟩ := r.get ha
    have hp : ps[i]? = some y := by
      rw [← S.pre, List.getElem?_take_of_lt (by omega)]; exact h1
    have ndP : ps.Nodup := by rw [← S.pre]; exact S.nd.sublist (List.take_sublist _ _)
    refine ⟨u, rv, ?_⟩
    rcases S.par y (List.mem_of_getElem? hp) with k | k
    · exact .inl ⟨k, bindL_get ndP hp hu k⟩
    · obtain ⟨c, e⟩ := cell_has (n := s.heap.objs.size + 1) k
      refine .inr ⟨.inl k, c, e, ?_⟩
      have q := x.cell y c e
      rw [bindC_get ndP hp hu (by show scope.names.lookup y ≠ _; rw [k]; decide)] at q
      exact q
  · exact e0.hok.fresh (Nat.le_of_lt (x.above y c (PySem.mem_of_lookup h)))
  · unfold start
    show _ = N.length
    rw [List.length_append, List.length_map, List.length_replicate]
    omega
theorem fn_of {CX : CXT} {P : Program} {w : World} {K : PySem.W.Frag} {mg : Str → Option Value} {base : Heap} {k : Nat} {f : Addr} {name qual : Str} {params : Arguments} {body : List Stmt} {scope : Scope} {dV kV doc pm cdv ct oc : Value} {an od : Option Addr}
    {osl : Array (Option Value)} {N ps : List Str} {sp : Sp} (lk : K.lookup f = some ⟨oc, od, .func (PySem.W.fnOf name qual params body scope dV kV doc pm an cdv ct), osl⟩) (hcd : PySem.W.codeIn K cdv qual = true) (S : FnScope N ps scope)
    (len : ∀ vs H Q E, sp vs H Q E → vs.length = ps.length)
    (hbody : ∀ (A : Around) (outer : List Env) (s : Shared) (H : Hp) (vs : List V) (Q : VK) (E : XK), Room k (A.deeper (envOfC qual scope s.heap.objs.size f cdv)) → sp vs H Q E →
      ∃ t, PSs (cxOf CX P w K mg base N qual scope f cdv A outer s H E) body t ∧ t { nx := fun _ H' => Q .non H', rt := Q } (start N vs) H) :
    FnOk P w K mg base CX (k + 1) f (PySem.W.fnOf name qual params body scope dV kV doc pm an cdv ct) ps sp := by
  refine ⟨len, fun A outer s H args us vs Q E hr e0 hb r hsp => ?_⟩
  have hl := len _ _ _ _ hsp
  have KX : K.In s.heap := e0.mod.kin.keeps fun b o e => (e0.bs b o e).1
  have lim : s.heap.NoLimit := e0.mod.nolimit.keeps fun b o e => (e0.bs b o e).1
  have hkind : ∀ y ∈ ps.zip us, scope.names.lookup y.1 = some .local ∨ (scope.names.lookup y.1 = some .cell ∧ ((cellsFrom (s.heap.objs.size + 1) scope.names []).lookup y.1).isSome = true) := fun ⟨n, v⟩ hy => by
    rcases S.par n (List.of_mem_zip hy).1 with q | q
    · exact .inl q
    · exact .inr ⟨q, PySem.W.cellsFrom_some _ _ _ (.inl q)⟩
  refine codeAny_call_function hr.depth (KX _ _ lk) rfl S.co S.gen rfl (PySem.W.codeRec_of KX hcd) (hb _ _ _ _ ?_)
  refine wpAny_newFunctionEnv_cells S.kind hkind fun env he s1 x => ?_
  subst he
  refine ⟨lim.keeps x.toInCall.keep, codeAny_func ?_⟩
  obtain ⟨t, ht, hq⟩ := hbody A outer s H vs Q E (hr.deeper _) hsp
  have I : Inv (cxOf CX P w K mg base N qual scope f cdv A outer s H E) [] (start N vs) H s1 := inv_start S hr.hd e0 hl r x
  refine wpAny_mono (ht [] s1 (start N vs) H _ I hq) (fun fl s' hs => ?_) fun e s' hs => hs
  have fin : ∀ {σ' : St} {H' : Hp} {v : V} {u : Value}, Inv (cxOf CX P w K mg base N qual scope f cdv A outer s H E) [] σ' H' s' → RelV v u → Q v H' → CE outer P w H s Q u s' :=
    fun {σ' H' v u} J rv q => ⟨v, H', J.os, J.bare, J.base, J.hok, rv, q⟩
  cases fl with
  | ret u =>
    obtain ⟨v, σ', H', J, rv, q⟩ := hs
    exact fin J rv q
  | next =>
    obtain ⟨σ', H', J, q⟩ := hs
    exact fin (v := V.non) (u := Value.none) J rfl q
  | brk =>
    obtain ⟨_, _, _, q⟩ := hs
    exact False.elim q
  | cont =>
    obtain ⟨_, _, _, q⟩ := hs
    exact False.elim q
end L2
namespace L2
open PySem PySem.Spec PyProof.Rows
section
variable {X : Cx} {x : Str} {p pos : Pos} {e : Expr} {es : List Expr} {t : TA} {id T : String} {r : List V → Hp → VK → Prop}
def tCB (r : List V → Hp → VK → Prop) (t : TA) : TE := fun σ H Q => t σ H fun vs H1 => r vs H1 Q
theorem pe_callB (hc : CallR X (.builtin id) r) (hg : Gl X x) (hm : X.mg x = none) (hv : bootBuiltins x = some (.builtin id)) (ha : PA X (e :: es) t) (hn : x ≠ "__name__" := by decide) (hdb : (x == ("__debug__" : Str)) = false := by decide)
    (he : starEach (e :: es) X.env = (false, eval e X.env) :: starEach es X.env := by rfl) (hpl : (backTo pos (starEach es X.env)).any (·.1) = false := by rfl) : PE X (.Call (.Name x p) (e :: es) [] pos) (tCB r t) := by
  intro pins s σ H Q I h
  refine wpAny_Call_Name_kw (ld_blt I hg hm hv ?_ hn hdb)
  exact PyProof.Rows.callWith_builtin1 (thn (ha pos pins s σ H _ I h) fun us s1 ⟨vs, H1, I1, r1, q1⟩ => hc pins s1 σ H1 vs us Q I1 r1 q1) he hpl
theorem pe_callTy (hc : CallR X (.type T) r) (hg : Gl X x) (hm : X.mg x = none) (hv : bootBuiltins x = some (.type T)) (ha : PA X (e :: es) t) (hn : x ≠ "__name__" := by decide) (hdb : (x == ("__debug__" : Str)) = false := by decide)
    (he : starEach (e :: es) X.env = (false, eval e X.env) :: starEach es X.env := by rfl) (hpl : (backTo pos (starEach es X.env)).any (·.1) = false := by rfl) : PE X (.Call (.Name x p) (e :: es) [] pos) (tCB r t) := by
  intro pins s σ H Q I h
  refine wpAny_Call_Name_kw (ld_blt I hg hm hv ?_ hn hdb)
  exact PyProof.Rows.callWith_type1 (thn (ha pos pins s σ H _ I h) fun us s1 ⟨vs, H1, I1, r1, q1⟩ => hc pins s1 σ H1 vs us Q I1 r1 q1) he hpl
end
end L2
namespace L2
open PySem PySem.Spec PyProof.Rows
section
variable {κ : Type} [DecidableEq κ]
def valV (kvs : List (κ × V)) (k : κ) : Option V := (kvs.find? fun kv => decide (kv.1 = k)).map (·.2)
def putK (kvs : List (κ × V)) (k : κ) (v : V) : List (κ × V) :=
  if (kvs.any fun kv => decide (kv.1 = k)) = true then kvs.map (fun kv => if kv.1 = k then (kv.1, v) else kv) else kvs ++ [(k, v)]
theorem valV_pos {p : κ × V} {r : List (κ × V)} {k : κ} (e : p.1 = k) : valV (p :: r) k = some p.2 := by simp [valV, List.find?_cons, e]
theorem valV_neg {p : κ × V} {r : List (κ × V)} {k : κ} (e : ¬ p.1 = k) : valV (p :: r) k = valV r k := by simp [valV, List.find?_cons, e]
theorem valV_any (k : κ) : ∀ kvs : List (κ × V), (kvs.any fun kv => decide (kv.1 = k)) = (valV kvs k).isSome
  | [] => rfl
  | p :: r => by
    rw [List.any_cons]
    by_cases e : p.1 = k
    · simp only [valV_pos e, decide_eq_true e, Bool.true_or, Option.isSome_some]
    · rw [valV_neg e, decide_eq_false e, Bool.false_or]; exact valV_any k r
theorem valV_map (k j : κ) (y : V) : ∀ kvs : List (κ × V), valV (kvs.map fun kv => if kv.1 = k then (kv.1, y) else kv) j = (valV kvs j).map fun x => if j = k then y else x
  | [] => rfl
  | p :: r => by
    have ih := valV_map k j y r
    rw [List.map_cons]
    by_cases h : p.1 = k
    · rw [if_pos h]
      by_cases e : p.1 = j
      · rw [valV_pos (p := (p.1, y)) e, valV_pos e, Option.map_some, if_pos (e.symm.trans h)]
      · rw [valV_neg (p := (p.1, y)) e, valV_neg e, ih]
    · rw [if_neg h]
      by_cases e : p.1 = j
      · rw [valV_pos (p := p) e, valV_pos e, Option.map_some, if_neg (fun z => h (e.trans z))]
      · rw [valV_neg (p := p) e, valV_neg e, ih]
theorem valV_snoc (k j : κ) (y : V) : ∀ kvs : List (κ × V), valV kvs k = none → valV (kvs ++ [(k, y)]) j = if j = k then some y else valV kvs j
  | [], _ => by
    by_cases e : k = j
    · rw [if_pos e.symm]; exact valV_pos (p := (k, y)) e
    · rw [if_neg (fun z => e z.symm)]; exact valV_neg (p := (k, y)) e
  | p :: r, hn => by
    rw [List.cons_append]
    have hk : ¬ p.1 = k := fun z => by rw [valV_pos z] at hn; cases hn
    rw [valV_neg hk] at hn
    have ih := valV_snoc k j y r hn
    by_cases e : p.1 = j
    · rw [valV_pos e, valV_pos e, if_neg (fun z => hk (e.trans z))]
    · rw [valV_neg e, valV_neg e, ih]
theorem valV_put (kvs : List (κ × V)) (k j : κ) (y : V) : valV (putK kvs k y) j = if j = k then some y else valV kvs j := by
  unfold putK
  by_cases a : (kvs.any fun kv => decide (kv.1 = k)) = true
  · rw [if_pos a, valV_map]
    rw [valV_any] at a
    by_cases e : j = k
    · obtain ⟨x, hx⟩ := Option.isSome_iff_exists.mp a
      rw [if_pos e, e, hx, Option.map_some, if_pos rfl]
    · rw [if_neg e]
      cases valV kvs j with
      | none => rfl
      | some x => rw [Option.map_some, if_neg e]
  · rw [if_neg a]
    refine valV_snoc k j y kvs ?_
    rw [valV_any] at a
    cases q : valV kvs k with
    | none => rfl
    | some x => rw [q] at a; exact (a rfl).elim
theorem length_putK (kvs : List (κ × V)) (k : κ) (v : V) : (putK kvs k v).length ≤ kvs.length + 1 := by
  unfold putK
  split
  · rw [List.length_map]; omega
  · rw [List.length_append, List.length_cons, List.length_nil]; omega
theorem RelO.isSome_eq {o : Option V} {u : Option Value} (r : RelO o u) : o.isSome = u.isSome := by
  cases o with
  | none => cases u with
    | none => rfl
    | some _ => exact (show False from r).elim
  | some _ => cases u with
    | none => exact (show False from r).elim
    | some _ => rfl
theorem KV.val {kvs : List (κ × V)} {vs : List (κ × Value)} (r : KV kvs vs) (k : κ) : RelO (valV kvs k) (valueAt vs k) := by
  unfold KV at r
  induction r with
  | nil => exact True.intro
  | @cons p q ps qs h t ih =>
    obtain ⟨h1, h2⟩ := h
    by_cases e : p.1 = k
    · have e' : q.1 = k := h1.symm.trans e
      have b : valueAt (q :: qs) k = some q.2 := by simp [valueAt, List.find?_cons, e']
      rw [valV_pos e, b]; exact h2
    · have e' : ¬ q.1 = k := fun z => e (h1.trans z)
      have b : valueAt (q :: qs) k = valueAt qs k := by simp [valueAt, List.find?_cons, e']
      rw [valV_neg e, b]; exact ih
theorem KV.any {kvs : List (κ × V)} {vs : List (κ × Value)} (r : KV kvs vs) (k : κ) : (kvs.any fun kv => decide (kv.1 = k)) = vs.any fun kv => decide (kv.1 = k) := by
  unfold KV at r
  induction r with
  | nil => rfl
  | cons h t ih => rw [List.any_cons, List.any_cons, ih, h.1]
theorem KV.repl {kvs : List (κ × V)} {vs : List (κ × Value)} (r : KV kvs vs) (k : κ) {y : V} {u : Value} (ry : RelV y u) :
    KV (kvs.map fun kv => if kv.1 = k then (kv.1, y) else kv) (vs.map fun kv => if kv.1 = k then (kv.1, u) else kv) := by
  unfold KV at r ⊢
  induction r with
  | nil => exact .nil
  | @cons p q ps qs h t ih =>
    rw [List.map_cons, List.map_cons]
    refine .cons ?_ ih
    obtain ⟨h1, h2⟩ := h
    by_cases e : p.1 = k
    · rw [if_pos e, if_pos (h1.symm.trans e)]; exact ⟨h1, ry⟩
    · rw [if_neg e, if_neg (fun z => e (h1.trans z))]; exact ⟨h1, h2⟩
theorem KV.put {kvs : List (κ × V)} {vs : List (κ × Value)} (r : KV kvs vs) (k : κ) {y : V} {u : Value} (ry : RelV y u) : KV (putK kvs k y) (stored vs k u) := by
  unfold putK stored
  rw [r.any k]
  by_cases e : (vs.any fun kv => decide (kv.1 = k)) = true
  · rw [if_pos e, if_pos e]; exact r.repl k ry
  · rw [if_neg e, if_neg e]; exact Paired.snoc r ⟨rfl, ry⟩
theorem KV.length {kvs : List (κ × V)} {vs : List (κ × Value)} (r : KV kvs vs) : kvs.length = vs.length := Paired.length r
end
theorem kV_is {P : Program} {w : World} {k : Key} {u : Value} (r : RelV (kV k) u) : (mixKind P w).is k u = true := by
  cases k with
  | inl i => obtain ⟨t, e⟩ := (show ∃ t, u = Value.int i t from r); subst e; exact mixKind_int P w i t
  | inr x => obtain ⟨t, e⟩ := (show ∃ t, u = Value.str x t from r); subst e; exact mixKind_str P w x t
theorem items_are {P : Program} {w : World} : ∀ {ks : List Key} {us : List Value}, Vals (ks.map kV) us → ItemsAre (mixKind P w) ks us
  | [], _, r => by rw [List.map_nil] at r; cases r; exact .nil
  | k :: ks, _, r => by
    rw [List.map_cons] at r
    cases r with
    | cons h t => exact .cons (kV_is h) (items_are t)
abbrev KT (H : Hp) : List (List Key × V) → List (List Key × Addr × Value) → Prop := Paired fun p q => p.1 = q.1 ∧ H q.2.1 = some (.tup (p.1.map kV)) ∧ RelV p.2 q.2.2
theorem KT.val {H : Hp} {kvs : List (List Key × V)} {xs : List (List Key × Addr × Value)} (r : KT H kvs xs) (k : List Key) : RelO (valV kvs k) ((atKey xs k).map (·.2)) := by
  induction r with
  | nil => exact True.intro
  | @cons p q ps qs h t ih =>
    obtain ⟨h1, _, h2⟩ := h
    by_cases e : p.1 = k
    · have e' : q.1 = k := h1.symm.trans e
      have b : atKey (q :: qs) k = some q.2 := by simp [atKey, List.find?_cons, e']
      rw [valV_pos e, b]; exact h2
    · have e' : ¬ q.1 = k := fun z => e (h1.trans z)
      have b : atKey (q :: qs) k = atKey qs k := by simp [atKey, List.find?_cons, e']
      rw [valV_neg e, b]; exact ih
theorem KT.repl {H : Hp} {kvs : List (List Key × V)} {xs : List (List Key × Addr × Value)} (r : KT H kvs xs) (k : List Key) {y : V} {u : Value} (ry : RelV y u) :
    KT H (kvs.map fun kv => if kv.1 = k then (kv.1, y) else kv) (xs.map (putAt k u)) := by
  induction r with
  | nil => exact .nil
  | @cons p q ps qs h t ih =>
    rw [List.map_cons, List.map_cons]
    refine .cons ?_ ih
    obtain ⟨h1, h2, h3⟩ := h
    unfold putAt
    by_cases e : p.1 = k
    · rw [if_pos e, if_pos (h1.symm.trans e)]; exact ⟨h1, h2, ry⟩
    · rw [if_neg e, if_neg (fun z => e (h1.trans z))]; exact ⟨h1, h2, h3⟩
theorem KT.put {H : Hp} {kvs : List (List Key × V)} {xs : List (List Key × Addr × Value)} (r : KT H kvs xs) (k : List Key) {b : Addr} {y : V} {u : Value} (hb : H b = some (.tup (k.map kV))) (ry : RelV y u) :
    KT H (putK kvs k y) (storedH xs k b u) := by
  have e : (kvs.any fun kv => decide (kv.1 = k)) = (atKey xs k).isSome := by
    rw [valV_any, (r.val k).isSome_eq, Option.isSome_map]
  unfold putK storedH
  rw [e]
  by_cases q : (atKey xs k).isSome = true
  · rw [if_pos q, if_pos q]; exact r.repl k ry
  · rw [if_neg q, if_neg q]; exact Paired.snoc r ⟨rfl, hb, ry⟩
theorem KT.keeps {H H' : Hp} {kvs : List (List Key × V)} {xs : List (List Key × Addr × Value)} (r : KT H kvs xs) (ht : ∀ b ys, H b = some (.tup ys) → H' b = some (.tup ys)) : KT H' kvs xs :=
  Paired.mapP r fun _ _ z => ⟨z.1, ht _ _ z.2.1, z.2.2⟩
section
variable {P : Program} {w : World} {H : Hp} {h : Heap} {a : Addr}
theorem rd_of {u : HO} (ok : HOk P w H h) (e : Rd H a u) : ObjOk P w H h a u := e.ok ok
theorem dk_rd {kvs : List (Key × V)} (ok : HOk P w H h) (e : Rd H a (.dK kvs)) : kvs.length ≤ sizeLine ∧ (a == sysModules) = false ∧ ∃ vs, KV kvs vs ∧ h.DictOf (mixKind P w) a vs :=
  show ObjOk P w H h a (.dK kvs) from rd_of ok e
theorem dk_of {kvs : List (Key × V)} (ok : HOk P w H h) (e : H a = some (.dK kvs)) : kvs.length ≤ sizeLine ∧ (a == sysModules) = false ∧ ∃ vs, KV kvs vs ∧ h.DictOf (mixKind P w) a vs := dk_rd ok (.inl e)
theorem key_of {ks : List Key} (ok : HOk P w H h) (e : H a = some (.tup (ks.map kV))) : (tupleKind (mixKind P w)).is h ks a := by
  obtain ⟨_, its, r, o, h1, h2, n, h3⟩ := (show ObjOk P w H h a (.tup (ks.map kV)) from ok a _ e)
  exact ⟨o, its.toArray, n, h1, h2, h3, by simpa using items_are r⟩
theorem dt_rd {kvs : List (List Key × V)} (ok : HOk P w H h) (e : Rd H a (.dT kvs)) : kvs.length ≤ sizeLine ∧ (a == sysModules) = false ∧
    ∃ xs, KT H kvs xs ∧ h.DictOfH (tupleKind (mixKind P w)) a xs := by
  obtain ⟨z, y, xs, r, o, es, ep, h1, h2, h3, h4, h5⟩ := (show ObjOk P w H h a (.dT kvs) from rd_of ok e)
  refine ⟨z, y, xs, r, o, es, ep, h1, h2, h3, h4, fun x hx => ?_, h5⟩
  have all : ∀ {l : List (List Key × V)} {m : List (List Key × Addr × Value)}, KT H l m → ∀ x ∈ m, (tupleKind (mixKind P w)).is h x.1 x.2.1 := by
    intro l m q
    induction q with
    | nil => intro x hx; exact nomatch hx
    | @cons p q ps qs hq t ih =>
      intro x hx
      rcases List.mem_cons.mp hx with e | hx
      · subst e
        exact key_of ok (by rw [← hq.1]; exact hq.2.1)
      · exact ih x hx
  exact all r x hx
theorem dt_of {kvs : List (List Key × V)} (ok : HOk P w H h) (e : H a = some (.dT kvs)) : kvs.length ≤ sizeLine ∧ (a == sysModules) = false ∧
    ∃ xs, KT H kvs xs ∧ h.DictOfH (tupleKind (mixKind P w)) a xs := dt_rd ok (.inl e)
end
def DGet (H : Hp) (a : Addr) (y : V) (r : Option V) : Prop :=
  (∃ kvs k, Rd H a (.dK kvs) ∧ y = kV k ∧ r = valV kvs k) ∨ ∃ kvs k b, Rd H a (.dT kvs) ∧ y = .ref b ∧ H b = some (.tup (k.map kV)) ∧ r = valV kvs k
def DPut (H : Hp) (a : Addr) (y v : V) (H' : Hp) : Prop :=
  (∃ kvs k, H a = some (.dK kvs) ∧ y = kV k ∧ kvs.length < sizeLine ∧ H' = upd H a (.dK (putK kvs k v))) ∨
  ∃ kvs k b, H a = some (.dT kvs) ∧ y = .ref b ∧ H b = some (.tup (k.map kV)) ∧ kvs.length < sizeLine ∧ H' = upd H a (.dT (putK kvs k v))
theorem DGet.k {H : Hp} {a : Addr} {kvs : List (Key × V)} {k : Key} (e : H a = some (.dK kvs)) : DGet H a (kV k) (valV kvs k) := .inl ⟨kvs, k, .inl e, rfl, rfl⟩
theorem DPut.k {H : Hp} {a : Addr} {kvs : List (Key × V)} {k : Key} {v : V} (e : H a = some (.dK kvs)) (hl : kvs.length < sizeLine) : DPut H a (kV k) v (upd H a (.dK (putK kvs k v))) := .inl ⟨kvs, k, e, rfl, hl, rfl⟩
section
variable {X : Cx} {pins : List (Addr × Obj)} {σ : St} {H : Hp} {s : Shared} {a : Addr} {y v : V} {u r : Value} {o : Option V} {A : Around} {E : Value → Shared → Prop}
theorem Inv.big (I : Inv X pins σ H s) : sysModules < s.heap.objs.size := by
  have h : mainGlobals < s.heap.objs.size := (I.mod.glob.keeps I.bk).lt
  exact Nat.lt_trans (by decide) h
theorem d_getItem {Q : Value → Shared → Prop} (hu : A.units + 1 < cLine) (I : Inv X pins σ H s) (g : DGet H a y (some v)) (ry : RelV y u) (h : ∀ w' s', Inv X pins σ H s' → RelV v w' → Q w' s') :
    wpAny (model X.prog X.w) A (getItem (.ref a) u) Q E s := by
  rcases g with ⟨kvs, k, e, ey, l⟩ | ⟨kvs, k, b, e, ey, eb, l⟩
  · subst ey
    obtain ⟨z, hd, vs, rel, dd⟩ := dk_rd I.hok e
    obtain ⟨w', hw, rw'⟩ := RelO.some_of (v := v) (o := valueAt vs k) (by rw [l]; exact rel.val k)
    exact wpAny_getItem_of (kV_is ry) dd.mapOf hw (h w' _ (I.tok _) rw')
  · subst ey
    cases (show u = Value.ref b from ry)
    obtain ⟨z, hd, xs, rel, dd⟩ := dt_rd I.hok e
    obtain ⟨w', hw, rw'⟩ := RelO.some_of (v := v) (o := (atKey xs k).map (·.2)) (by rw [l]; exact rel.val k)
    obtain ⟨p, hp, hp2⟩ := Option.map_eq_some_iff.mp hw
    refine wpAny_getItem_heap (tupleKind_room_in1 hu) (key_of I.hok eb) dd hp ?_
    rw [hp2]
    exact h w' _ (I.tok _) rw'
theorem d_notIn {Q : Value → Shared → Prop} (hu : A.units + 1 < cLine) (I : Inv X pins σ H s) (g : DGet H a y o) (ry : RelV y u) (h : ∀ s', Inv X pins σ H s' → Q (.bool (!o.isSome)) s') :
    wpAny (model X.prog X.w) A (compareOp .NotIn u (.ref a)) Q E s := by
  rcases g with ⟨kvs, k, e, ey, l⟩ | ⟨kvs, k, b, e, ey, eb, l⟩
  · subst ey
    obtain ⟨z, hd, vs, rel, dd⟩ := dk_rd I.hok e
    refine wpAny_notIn_of (kV_is ry) hd dd.mapOf ?_
    rw [← (rel.val k).isSome_eq, ← l]
    exact h _ (I.tok _)
  · subst ey
    cases (show u = Value.ref b from ry)
    obtain ⟨z, hd, xs, rel, dd⟩ := dt_rd I.hok e
    refine wpAny_notIn_heap (tupleKind_room_in1 hu) (key_of I.hok eb) hd dd ?_
    have q := (rel.val k).isSome_eq
    rw [Option.isSome_map] at q
    rw [← q, ← l]
    exact h _ (I.tok _)
theorem d_write {h' : Heap} {t' : Nat} {ob : HO} (I : Inv X pins σ H s) (mu : Mut (H a)) (hs : Heap.SameBut a s.heap h') (he : ∃ q, h'.get? a = some q) (new : ObjOk X.prog X.w (upd H a ob) h' a ob) :
    Inv X pins σ (upd H a ob) { s with heap := h', toks := t' } :=
  I.write (x := a) (e := a) mu (.inl rfl) (fun b q hb z => (hs.2 b hb).trans z) he new
theorem dk_new {P : Program} {w : World} {H' : Hp} {h' : Heap} {kvs : List (Key × V)} {vs : List (Key × Value)} (z : kvs.length ≤ sizeLine) (hd : (a == sysModules) = false) (rel : KV kvs vs) (dd : h'.DictOf (mixKind P w) a vs) :
    ObjOk P w H' h' a (.dK kvs) := ⟨z, hd, vs, rel, dd⟩
theorem d_setItem {H' : Hp} {Q : Unit → Shared → Prop} (hu : A.units + 1 < cLine) (I : Inv X pins σ H s) (g : DPut H a y v H') (ry : RelV y u) (rv : RelV v r) (h : ∀ s', Inv X pins σ H' s' → Q () s') :
    wpAny (model X.prog X.w) A (setItem (.ref a) u r) Q E s := by
  rcases g with ⟨kvs, k, e, ey, l, eH⟩ | ⟨kvs, k, b, e, ey, eb, l, eH⟩
  · subst ey eH
    obtain ⟨z, hd, vs, rel, dd⟩ := dk_of I.hok e
    have hz : vs.length ≤ sizeLine := by rw [← rel.length]; exact z
    have hl : (putK kvs k v).length ≤ sizeLine := by have := length_putK kvs k v; omega
    refine wpAny_setItem_pairs (hsz := hz) (kV_is ry) dd fun h' dd' hs => h _ ?_
    have he : ∃ q, h'.get? a = some q := let ⟨q, _, _, hq, _⟩ := dd'; ⟨q, hq⟩
    exact d_write I (by rw [e]; exact True.intro) hs he (dk_new hl hd (rel.put k rv) dd')
  · subst ey eH
    cases (show u = Value.ref b from ry)
    obtain ⟨z, hd, xs, rel, dd⟩ := dt_of I.hok e
    have hz : xs.length ≤ sizeLine := by rw [← Paired.length rel]; exact z
    have hl : (putK kvs k v).length ≤ sizeLine := by have := length_putK kvs k v; omega
    refine wpAny_setItem_heap (hsz := hz) (tupleKind_room_in1 hu) (key_of I.hok eb) dd fun h' dd' hs => h _ ?_
    obtain ⟨q, es, ep, hq, h2, h3, h4, _, h5⟩ := dd'
    refine d_write I (by rw [e]; exact True.intro) hs ⟨q, hq⟩ ⟨hl, hd, _, (rel.put k eb rv).keeps fun c ys ec => ?_, q, es, ep, hq, h2, h3, h4, h5⟩
    rw [upd_ne (ne_of ec e (fun z => nomatch z))]
    exact ec
end
section
variable {X : Cx} {pins : List (Addr × Obj)} {σ : St} {H : Hp} {s : Shared} {a : Addr} {kvs : List (Key × V)} {k : Key} {u : Value} {A : Around} {E : Value → Shared → Prop}
end
def NoSl (i : Expr) : Prop := ∀ ov iv, subscripted i false ov iv = operate [ov, iv] (getItem ov iv)
theorem subD_of {prog : Program} {w : World} {A : Around} {E : Value → Shared → Prop} {s : Shared} {env : Env} {value slice : Expr} {pos : Pos} {T id : String} {Q : Value → Shared → Prop}
    (hl : typeLookup (.type T) "__getitem__" = pure (some (.builtin id))) (hs : NoSl slice)
    (h : wpAny (model prog w) A (eval value env) (fun o s₁ => wpAny (model prog w) A (eval slice env) (fun i s₂ => s₂.TypeIs o T ∧ wpAny (model prog w) A (getItem o i) Q E s₂) E s₁) E s) :
    wpAny (model prog w) A (eval (.Subscript value slice pos) env) Q E s := by
  refine Subscript_ (wpAny_mono h (fun o s₁ h₁ => wpAny_mono h₁ (fun i s₂ h₂ => ?_) fun _ _ x => x) fun _ _ x => x)
  obtain ⟨hT, h₂⟩ := h₂
  unfold subscriptTail
  refine wpAny_bind ?_
  rw [getitemInPython_of_ne hT.not_modules]
  refine wpAny_bind (wpAny_specialOf hT hl ?_)
  have fin : wpAny (model prog w) A (subscripted slice false o i) (fun r s₃ => wpAny (model prog w) A (letTemporaryGo value o r >>= fun _ => pure r) Q E s₃) E s₂ := by
    rw [hs o i]
    exact wpAny_operating (wpAny_mono h₂ (fun r s₃ h₃ => wpAny_bind (wpAny_letTemporaryGo (wpAny_pure h₃))) fun _ _ x => x)
  first
    | exact wpAny_pure (wpAny_bind fin)
    | exact wpAny_bind (wpAny_pure (wpAny_bind fin))
    | exact wpAny_bind fin
theorem dict_typeIs {X : Cx} {pins : List (Addr × Obj)} {σ : St} {H : Hp} {s : Shared} {a : Addr} {y : V} {o : Option V} (I : Inv X pins σ H s) (g : DGet H a y o) : s.TypeIs (.ref a) "dict" := by
  rcases g with ⟨kvs, k, e, _, _⟩ | ⟨kvs, k, b, e, _, _, _⟩
  · obtain ⟨_, _, vs, _, dd⟩ := dk_rd I.hok e
    exact dd.typeIs
  · obtain ⟨_, _, xs, _, dd⟩ := dt_rd I.hok e
    exact dd.typeIs
def tDGet (td ty : TE) : TE := fun σ H Q => td σ H fun x H1 => ty σ H1 fun y H2 => ∃ a v, x = .ref a ∧ DGet H2 a y (some v) ∧ Q v H2
def tDIn (ty td : TE) : TE := fun σ H Q => ty σ H fun y H1 => td σ H1 fun x H2 => ∃ a o, x = .ref a ∧ DGet H2 a y o ∧ Q (.bl o.isSome) H2
def tDNotIn (ty td : TE) : TE := fun σ H Q => ty σ H fun y H1 => td σ H1 fun x H2 => ∃ a o, x = .ref a ∧ DGet H2 a y o ∧ Q (.bl (!o.isSome)) H2
def sDPut (td ty tv : TE) : TS := fun D σ H => tv σ H fun v H1 => td σ H1 fun x H2 => ty σ H2 fun y H3 => ∃ a H4, x = .ref a ∧ DPut H3 a y v H4 ∧ D.nx σ H4
section
variable {X : Cx} {o i e value : Expr} {pos pos' tpos : Pos} {td ty tv : TE}
theorem pe_dget (hu : X.A.units + 1 < cLine) (ho : PE X o td) (hi : PE X i ty) (hs : NoSl i) : PE X (.Subscript o i pos) (tDGet td ty) := by
  intro pins s σ H Q I h
  refine subD_of PySem.F.slot_dict_getitem.lookup hs (thn (ho pins s σ H _ I h) fun u s1 ⟨x, H1, I1, rx, q1⟩ => thn (hi pins s1 σ H1 _ I1 q1) fun iv s2 ⟨y, H2, I2, ry, a, v, ex, g, q2⟩ => ?_)
  subst ex
  obtain rfl : u = Value.ref a := rx
  exact ⟨dict_typeIs I2 g, d_getItem hu I2 g ry fun w' s3 I3 rw' => ⟨v, H2, I3, rw', q2⟩⟩
theorem pc_dnotin (hu : X.A.units + 1 < cLine) (hi : PE X i ty) (ho : PE X o td) : PC X .NotIn i o (tDNotIn ty td) := by
  intro pins s σ H Q I h
  refine thn (hi pins s σ H _ I h) fun iv s1 ⟨y, H1, I1, ry, q1⟩ => thn (ho pins s1 σ H1 _ I1 q1) fun u s2 ⟨x, H2, I2, rx, a, ov, ex, g, q2⟩ => ?_
  subst ex
  obtain rfl : u = Value.ref a := rx
  exact d_notIn hu I2 g ry fun s3 I3 => ⟨.bl (!ov.isSome), H2, I3, rfl, q2⟩
theorem ps_dput (hu : X.A.units + 1 < cLine) (ho : PE X o td) (hi : PE X i ty) (hv : PE X value tv) (hs : swapsWith value (some (.Subscript o i pos')) pos.line X.env = pure false) :
    PS X (.Assign [.Subscript o i pos'] value pos) (sDPut td ty tv) := by
  intro pins s σ H D I h
  refine wpAny_Assign_Subscript (thn (hv pins s σ H _ I h) fun r s1 ⟨v, H1, I1, rv, q1⟩ => thn (ho pins s1 σ H1 _ I1 q1) fun u s2 ⟨x, H2, I2, rx, q2⟩ => thn (hi pins s2 σ H2 _ I2 q2) fun iv s3 ⟨y, H3, I3, ry, a, H4, ex, g, q3⟩ => ?_) hs
  subst ex
  obtain rfl : u = Value.ref a := rx
  exact d_setItem hu I3 g ry rv fun s4 I4 => ⟨σ, H4, I4, q3⟩
end
theorem dk_empty {P : Program} {w : World} {H : Hp} (h : Heap) (hb : sysModules < h.objs.size) : ObjOk P w H (h.push { cls := .type "dict", data := .dict #[] }) h.objs.size (.dK []) :=
  ⟨Nat.zero_le _, beq_eq_false_iff_ne.mpr (Ne.symm (Nat.ne_of_lt hb)), [], .nil, Heap.DictOf.new h⟩
def tDNewK : TE := fun _ H Q => ∀ p, H p = none → Q (.ref p) (upd H p (.dK []))
def tDNewT : TE := fun _ H Q => ∀ p, H p = none → Q (.ref p) (upd H p (.dT []))
section
variable {X : Cx} {pos : Pos}
theorem pe_dnewK : PE X (.Dict [] [] pos) tDNewK := fun pins s σ H Q I h =>
  wpAny_Dict_empty ⟨.ref s.heap.objs.size, _, I.laid (a := s.heap.objs.size) (o := .dK []) (t' := s.toks) (fun _ _ q => Heap.get?_push_of_some _ q) (Nat.le_refl _) (dk_empty s.heap I.big), rfl, h _ (I.hok.fresh (Nat.le_refl _))⟩
end
structure M1 (X : Cx) (o : Expr) (m : Str) (apos : Pos) (e : Expr) (cpos : Pos) : Prop where
  base : attributeBase o m X.env (eval o X.env) = eval o X.env
  few : ((backTo cpos (starEach [e] X.env)).all (fun x => !x.1) && (backToKw cpos (keywordEach [] X.env)).all (fun x => x.1.isSome)
    && decide (([e] : List Expr).length + ([] : List Keyword).length + (if ([] : List Keyword).isEmpty then 0 else 1) < 30)) = true
  line : (apos.endLine == cpos.line) = true
  trees : backTo cpos (starEach [e] X.env) = [(false, eval e X.env)]
structure M2 (X : Cx) (o : Expr) (m : Str) (apos : Pos) (e f : Expr) (cpos : Pos) : Prop where
  base : attributeBase o m X.env (eval o X.env) = eval o X.env
  few : ((backTo cpos (starEach [e, f] X.env)).all (fun x => !x.1) && (backToKw cpos (keywordEach [] X.env)).all (fun x => x.1.isSome)
    && decide (([e, f] : List Expr).length + ([] : List Keyword).length + (if ([] : List Keyword).isEmpty then 0 else 1) < 30)) = true
  line : (apos.endLine == cpos.line) = true
  trees : backTo cpos (starEach [e, f] X.env) = [(false, eval e X.env), (false, eval f X.env)]
def IsD (H : Hp) (a : Addr) : Prop := (∃ kvs, Rd H a (.dK kvs)) ∨ ∃ kvs, Rd H a (.dT kvs)
section
variable {X : Cx} {pins : List (Addr × Obj)} {σ : St} {H : Hp} {s : Shared} {a : Addr} {y d : V} {u r : Value} {o : Option V} {A : Around} {E : Value → Shared → Prop}
end
def tDGet2 (td ty tx : TE) : TE := fun σ H Q => td σ H fun x H1 => ∃ a, x = .ref a ∧ IsD H1 a ∧ ty σ H1 fun y H2 => tx σ H2 fun z H3 => ∃ o, DGet H3 a y o ∧ Q (o.getD z) H3
section
variable {X : Cx} {o e f : Expr} {apos cpos : Pos} {td ty tx : TE}
end
section
variable {X : Cx} {pins : List (Addr × Obj)} {σ : St} {H : Hp} {s : Shared} {a : Addr} {kvs : List (Key × V)} {A : Around} {E : Value → Shared → Prop}
end
section
variable {X : Cx} {pins : List (Addr × Obj)} {σ : St} {H : Hp} {s : Shared} {a : Addr} {y : V} {u : Value} {A : Around} {E : Value → Shared → Prop}
end
end L2
namespace HT
open PySem PyProof.Rows
section
open PySem.SeqAt
open PySem.AutoSeq1 (wpAny_loadPart')
open PySem.MeetsSeq PySem.MeetsSeq2 PySem.MeetsSeq3
end
section
variable {prog : Program} {w : World} {A : Around} {E : Value → Shared → Prop} {s : Shared}
def sIx (n d : Nat) : Option Int → Nat
  | none => d
  | some v => if v < 0 then (v + (n : Int)).toNat else min v.toNat n
theorem sIx_none (n d : Nat) : sIx n d none = d := rfl
theorem sIx_nat (n d k : Nat) : sIx n d (some (k : Int)) = min k n := by
  show (if (k : Int) < 0 then ((k : Int) + (n : Int)).toNat else min (k : Int).toNat n) = min k n
  rw [if_neg (by omega), Int.toNat_natCast]
end
end HT
namespace L2
open PySem PySem.Spec PyProof.Rows
abbrev TO := St → Hp → (Option Int → Hp → Prop) → Prop
def PO (X : Cx) (e : Option Expr) (t : TO) : Prop :=
  ∀ (pins : List (Addr × Obj)) (s : Shared) (σ : St) (H : Hp) (Q : Option Int → Hp → Prop), Inv X pins σ H s → t σ H Q →
    wpAny (model X.prog X.w) X.A (evalPart e X.env) (fun u s' => ∃ o H', Inv X pins σ H' s' ∧ IsPart u o ∧ Q o H') X.xe s
def tNoPart : TO := fun _ H Q => Q none H
def tPart (t : TE) : TO := fun σ H Q => t σ H fun x H1 => ∃ i, x = .int i ∧ Q (some i) H1
section
variable {X : Cx} {e : Expr} {te : TE} {lo hi : Option Expr} {tl th : TO} {pos p2 : Pos}
theorem po_none : PO X none tNoPart := by
  intro pins s σ H Q I h
  rw [evalPart_none]
  exact wpAny_pure ⟨none, H, I, .none, h⟩
theorem po_some (h : PE X e te) : PO X (some e) (tPart te) := by
  intro pins s σ H Q I hw
  rw [evalPart_some]
  refine thn (h pins s σ H _ I hw) fun u s1 ⟨x, H1, I1, r1, q1⟩ => ?_
  obtain ⟨i, rfl, q⟩ := q1
  obtain ⟨t, rfl⟩ := r1
  exact ⟨some i, H1, I1, .int i t, q⟩
def SlR (X : Cx) (r : V → Option Int → Option Int → Hp → VK → Prop) : Prop :=
  ∀ (pins : List (Addr × Obj)) (s : Shared) (σ : St) (H : Hp) (x : V) (v vl vu : Value) (lo hi : Option Int) (sl : Addr) (Q : VK), Inv X pins σ H s → RelV x v → s.heap.IsSliceOf sl vl vu .none → IsPart vl lo → IsPart vu hi → r x lo hi H Q →
    ∃ T id, typeLookup (.type T) "__getitem__" = pure (some (.builtin id)) ∧ s.TypeIs v T ∧ wpAny (model X.prog X.w) X.A (getItem v (.ref sl)) (EP X pins σ Q) X.xe s
def tSl (r : V → Option Int → Option Int → Hp → VK → Prop) (te : TE) (tl th : TO) : TE := fun σ H Q => te σ H fun x H1 => tl σ H1 fun l H2 => th σ H2 fun u H3 => r x l u H3 Q
theorem pe_slice {r : V → Option Int → Option Int → Hp → VK → Prop} (hr : SlR X r) (he : PE X e te) (hl : PO X lo tl) (hu : PO X hi th) : PE X (.Subscript e (.Slice lo hi none p2) pos) (tSl r te tl th) := by
  intro pins s σ H Q I h
  refine Subscript_ (thn (he pins s σ H _ I h) fun v s1 ⟨x, H1, I1, r1, q1⟩ => ?_)
  refine wpAny_Slice (thn (hl pins s1 σ H1 _ I1 q1) fun vl s2 ⟨l, H2, I2, pl, q2⟩ => thn (hu pins s2 σ H2 _ I2 q2) fun vu s3 ⟨u, H3, I3, pu, q3⟩ => ?_)
  rw [evalPart_none]
  refine wpAny_pure ?_
  have I4 : Inv X pins σ H3 { s3 with heap := s3.heap.push { cls := .type "slice", data := .fields #[vl, vu, .none] } } := I3.kept (t' := s3.toks) fun b ob q => Heap.get?_push_of_some _ q
  obtain ⟨T, id, hT, ht, hg⟩ := hr pins { s3 with heap := s3.heap.push { cls := .type "slice", data := .fields #[vl, vu, .none] } } σ H3 x v vl vu l u s3.heap.objs.size Q I4 r1 (Heap.IsSliceOf.new ..) pl pu q3
  show wpAny (model X.prog X.w) X.A (subscriptTail e (.Slice lo hi none p2) v (.ref s3.heap.objs.size)) (EP X pins σ Q) X.xe { s3 with heap := s3.heap.push { cls := .type "slice", data := .fields #[vl, vu, .none] } }
  exact tail_any (ops := [.ref s3.heap.objs.size, v]) ht hT hg (by with_unfolding_all rfl)
def cutV (xs : List V) (lo hi : Option Int) : List V := (xs.drop (HT.sIx xs.length 0 lo)).take (HT.sIx xs.length xs.length hi - HT.sIx xs.length 0 lo)
theorem cutV_length (xs : List V) (lo hi : Option Int) : (cutV xs lo hi).length ≤ xs.length := by
  unfold cutV
  rw [List.length_take, List.length_drop]
  omega
def rSlT (K : PySem.W.Frag) : V → Option Int → Option Int → Hp → VK → Prop := fun x lo hi H Q => ∃ a xs, x = .ref a ∧ SqT K H a xs ∧
  ¬ (HT.sIx xs.length 0 lo = 0 ∧ HT.sIx xs.length xs.length hi = xs.length) ∧ ∀ p, H p = none → Q (.ref p) (upd H p (.tup (cutV xs lo hi)))
end
end L2
namespace L2
open PySem PySem.Spec PyProof.Rows
def ixN (n : Nat) (i : Int) : Option Nat := if 0 ≤ i then (if i < n then some i.toNat else none) else if -(n : Int) ≤ i then some (i + n).toNat else none
def atI {α : Type} (xs : List α) (i : Int) : Option α := (ixN xs.length i).bind fun j => xs[j]?
theorem ixN_seq {n : Nat} {i : Int} {j : Nat} (h : ixN n i = some j) : seqIndex? i n = some j ∧ j < n ∧ -(n : Int) ≤ i ∧ i < n := by
  unfold ixN at h
  by_cases h0 : 0 ≤ i
  · rw [if_pos h0] at h
    by_cases h1 : i < n
    · rw [if_pos h1] at h
      have e : i.toNat = j := Option.some.inj h
      exact ⟨by rw [seqIndex_of h0 h1, e], by omega, by omega, h1⟩
    · rw [if_neg h1] at h; cases h
  · rw [if_neg h0] at h
    by_cases h1 : -(n : Int) ≤ i
    · rw [if_pos h1] at h
      have e : (i + n).toNat = j := Option.some.inj h
      exact ⟨by rw [seqIndex_neg (by omega) h1, e], by omega, h1, by omega⟩
    · rw [if_neg h1] at h; cases h
theorem atI_get {α : Type} {xs : List α} {i : Int} {v : α} (h : atI xs i = some v) : ∃ j, seqIndex? i xs.length = some j ∧ xs[j]? = some v ∧ j < xs.length ∧ -(xs.length : Int) ≤ i ∧ i < xs.length := by
  unfold atI at h
  cases e : ixN xs.length i with
  | none => rw [e] at h; cases h
  | some j =>
    rw [e] at h
    obtain ⟨h1, h2, h3, h4⟩ := ixN_seq e
    exact ⟨j, h1, h, h2, h3, h4⟩
theorem atI_nat {α : Type} {xs : List α} {j : Nat} {v : α} (h : xs[j]? = some v) : atI xs (j : Int) = some v := by
  have hj : j < xs.length := (List.getElem?_eq_some_iff.mp h).1
  have e : ixN xs.length (j : Int) = some j := by
    unfold ixN
    rw [if_pos (by omega), if_pos (by omega)]; simp
  unfold atI; rw [e]; exact h
def PlainIx (b : Expr) : Prop := ∀ o i, subscripted b false o i = operate [o, i] (getItem o i)
def IxR (X : Cx) (r : R2) : Prop :=
  ∀ (value slice : Expr) (pins : List (Addr × Obj)) (s : Shared) (σ : St) (H : Hp) (x y : V) (v u : Value) (Q : VK), Inv X pins σ H s → RelV x v → RelV y u → r x y H Q →
    subscripted slice false v u = operate [v, u] (getItem v u) → wpAny (model X.prog X.w) X.A (subscriptTail value slice v u) (EP X pins σ Q) X.xe s
def MtR (X : Cx) (id : String) (r : V → List V → Hp → VK → Prop) : Prop :=
  ∀ (pins : List (Addr × Obj)) (s : Shared) (σ : St) (H : Hp) (x : V) (xs : List V) (v : Value) (us : List Value) (Q : VK), Inv X pins σ H s → RelV x v → Vals xs us → r x xs H Q →
    wpAny (model X.prog X.w) X.A (call (.builtin id) (v :: us)) (EP X pins σ Q) X.xe s
section
variable {X : Cx} {a b : Expr} {ta tb : TE} {pos : Pos}
theorem pe_ix {r : R2} (hr : IxR X r) (ha : PE X a ta) (hb : PE X b tb) (hs : PlainIx b) : PE X (.Subscript a b pos) (tOp r ta tb) := by
  intro pins s σ H Q I h
  exact Subscript_ (binT ha hb I h fun v u s2 x y H2 I2 rx ry q => hr a b pins s2 σ H2 x y v u Q I2 rx ry q (hs _ _))
def rIxL (K : PySem.W.Frag) : R2 := fun x y H Q => ∃ p xs i v, x = .ref p ∧ y = .int i ∧ SqL K H p xs ∧ atI xs i = some v ∧ Q v H
def rIxT (K : PySem.W.Frag) : R2 := fun x y H Q => ∃ p xs i v, x = .ref p ∧ y = .int i ∧ SqT K H p xs ∧ atI xs i = some v ∧ Q v H
theorem ix_list : IxR X (rIxL X.K) := by
  intro value slice pins s σ H x y v u Q I rx ry h hs
  obtain ⟨p, xs, i, z, rfl, rfl, hq, he, q⟩ := h
  cases rx
  obtain ⟨t, rfl⟩ := ry
  obtain ⟨its, r, pl, hz⟩ := I.list hq
  obtain ⟨j, h1, h2, h3, h4, h5⟩ := atI_get he
  obtain ⟨w, ew, rw'⟩ := r.get h2
  have hl := r.length
  have hn := line63
  have fin : EP X pins σ Q w s := ⟨z, H, I, rw', q⟩
  by_cases h0 : 0 ≤ i
  · have hj : i.toNat = j := by
      rw [seqIndex_of h0 h5] at h1
      exact Option.some.inj h1
    exact item_listR pl.isList h0 (by omega) (by rw [hj]; simpa using ew) fin hs
  · have hj : (i + (its.toArray.size : Int)).toNat = j := by
      rw [seqIndex_neg (by omega) h4] at h1
      rw [List.size_toArray, ← hl]
      exact Option.some.inj h1
    exact subscriptTail_builtinR (x := w) pl.isList.typeIs slot_list_getitem.lookup
      (wpAny_getItem_list_neg (Q := fun r s' => r = w ∧ EP X pins σ Q r s') pl.isList (by omega) (by rw [List.size_toArray] <;> omega) (by omega) (by rw [hj]; simpa using ew) ⟨rfl, fin⟩) hs
theorem ix_tup : IxR X (rIxT X.K) := by
  intro value slice pins s σ H x y v u Q I rx ry h hs
  obtain ⟨p, xs, i, z, rfl, rfl, hq, he, q⟩ := h
  cases rx
  obtain ⟨t, rfl⟩ := ry
  obtain ⟨its, r, pl, hz⟩ := I.tuple hq
  obtain ⟨j, h1, h2, h3, h4, h5⟩ := atI_get he
  obtain ⟨w, ew, rw'⟩ := r.get h2
  have hl := r.length
  have hn := line63
  have fin : EP X pins σ Q w s := ⟨z, H, I, rw', q⟩
  exact subscriptTail_builtinR (x := w) pl.typeIs slot_tuple_getitem.lookup
    (getItem_tuple (j := j) (Q := fun r s' => r = w ∧ EP X pins σ Q r s') pl (by omega) (by omega) (by rw [List.size_toArray, ← hl]; exact h1) (by simpa using ew) ⟨rfl, fin⟩) hs
theorem mapSeq_set (its : List Value) (n j : Nat) (u : Value) : Obj.mapSeq (·.setIfInBounds j u) { cls := .type "list", data := .seq its.toArray n } = { cls := .type "list", data := .seq (its.set j u).toArray n } := by
  simp [Obj.mapSeq]
theorem Inv.lst {pins : List (Addr × Obj)} {σ : St} {H : Hp} {s : Shared} {p : Addr} {xs : List V} (I : Inv X pins σ H s) (h : H p = some (.lst xs)) :
    ∃ (its : List Value) (n : Nat), Vals xs its ∧ s.heap.get? p = some { cls := .type "list", data := .seq its.toArray n } ∧ xs.length ≤ sizeLine := by
  obtain ⟨z, its, n, r, e⟩ := I.hok p _ h
  exact ⟨its, n, r, e, z⟩
theorem Inv.lstUpd {pins : List (Addr × Obj)} {σ : St} {H : Hp} {s : Shared} {p : Addr} {xs ys : List V} {its its' : List Value} {n n' : Nat} {f : Obj → Obj} (I : Inv X pins σ H s) (h : H p = some (.lst xs))
    (ho : s.heap.get? p = some { cls := .type "list", data := .seq its.toArray n }) (hf : f { cls := .type "list", data := .seq its.toArray n } = { cls := .type "list", data := .seq its'.toArray n' }) (r : Vals ys its') (hz : ys.length ≤ sizeLine) (t : Nat) :
    Inv X pins σ (upd H p (.lst ys)) { s with heap := s.heap.update p f, toks := t } := by
  have e : (s.heap.update p f).get? p = some { cls := .type "list", data := .seq its'.toArray n' } := by
    rw [Heap.get?_update_self f ho (by rw [hf] <;> rfl), hf]
  refine I.write (x := p) (e := p) (by rw [h]; trivial) (.inl rfl) (fun b u hb q => (Heap.get?_update_other _ _ (Ne.symm hb)).trans q) ⟨_, e⟩ ?_
  exact ⟨hz, its', n', r, e⟩
def rSetL : V → V → V → Hp → (Hp → Prop) → Prop := fun o i v H Q => ∃ p xs k j, o = .ref p ∧ i = .int k ∧ H p = some (.lst xs) ∧ ixN xs.length k = some j ∧ Q (upd H p (.lst (xs.set j v)))
theorem set_list : PSet X rSetL := by
  intro pins s σ H o i v ov iv u Q I ro ri rv h
  obtain ⟨p, xs, k, j, rfl, rfl, hp, hj, q⟩ := h
  cases ro
  obtain ⟨t, rfl⟩ := ri
  obtain ⟨its, n, r, ho, hz⟩ := I.lst hp
  obtain ⟨h1, h2, h3, h4⟩ := ixN_seq hj
  have hl := r.length
  have hn := line63
  have I' : Inv X pins σ (upd H p (.lst (xs.set j v))) { s with heap := s.heap.update p (Obj.mapSeq (·.setIfInBounds j u)) } :=
    I.lstUpd hp ho (mapSeq_set its n j u) (r.set rv j) (by rw [List.length_set]; exact hz) s.toks
  by_cases h0 : 0 ≤ k
  · have hk : k.toNat = j := by
      rw [seqIndex_of h0 h4] at h1
      exact Option.some.inj h1
    exact PySem.W.ki_setAt ho h0 (by omega) (by rw [List.size_toArray, ← hl]; exact h4) (by rw [hk]; exact ⟨_, I', q⟩)
  · have hk : (k + (its.toArray.size : Int)).toNat = j := by
      rw [seqIndex_neg (by omega) h3] at h1
      rw [List.size_toArray, ← hl]
      exact Option.some.inj h1
    exact PySem.W.ki_setBack ho (by omega) (by rw [List.size_toArray, ← hl]; exact h3) (by omega) (by rw [hk]; exact ⟨_, I', q⟩)
theorem slice_bounds (lo hi : Option Int) (n : Nat) : (sliceBounds lo hi none n).1 = ((HT.sIx n 0 lo : Nat) : Int) ∧ (sliceBounds lo hi none n).2.1 = ((HT.sIx n n hi : Nat) : Int) ∧ (sliceBounds lo hi none n).2.2 = 1 := by
  refine ⟨?_, ?_, rfl⟩
  · cases lo with
    | none => simp [sliceBounds, HT.sIx]
    | some i =>
      simp only [sliceBounds, HT.sIx, Option.getD_none, show (1 : Int) > 0 by decide, if_true]
      by_cases h : i < 0
      · simp only [h, if_true] <;> omega
      · simp only [h, if_false] <;> omega
  · cases hi with
    | none => simp [sliceBounds, HT.sIx]
    | some i =>
      simp only [sliceBounds, HT.sIx, Option.getD_none, show (1 : Int) > 0 by decide, if_true]
      by_cases h : i < 0
      · simp only [h, if_true] <;> omega
      · simp only [h, if_false] <;> omega
theorem slicePick_cut (its : List Value) (lo hi : Option Int) : slicePick its.toArray lo hi none = ((its.drop (HT.sIx its.length 0 lo)).take (HT.sIx its.length its.length hi - HT.sIx its.length 0 lo)).toArray := by
  obtain ⟨h1, h2, h3⟩ := slice_bounds lo hi its.toArray.size
  unfold slicePick
  rw [h1, h2, h3]
  simp only [sliceRange_one, pick_run, List.size_toArray] <;> rfl
def rSlL (K : PySem.W.Frag) : V → Option Int → Option Int → Hp → VK → Prop := fun x lo hi H Q => ∃ a xs, x = .ref a ∧ SqL K H a xs ∧ ∀ p, H p = none → Q (.ref p) (upd H p (.lst (cutV xs lo hi)))
theorem sl_list : SlR X (rSlL X.K) := by
  intro pins s σ H x v vl vu lo hi sl Q I rx hs pl pu h
  obtain ⟨a, xs, rfl, hx, q⟩ := h
  cases rx
  obtain ⟨its, r, ht, hz⟩ := I.list hx
  have hlen := r.length
  refine ⟨"list", _, slot_list_getitem.lookup, ht.isList.typeIs, ?_⟩
  refine wpAny_getItem_list_slice ht.isList hs pl pu .none (by simp) ?_ (by rw [List.size_toArray] <;> omega)
  rw [slicePick_cut, ← hlen]
  refine ⟨.ref s.heap.objs.size, _, I.laid (t' := s.toks) (o := .lst (cutV xs lo hi)) (fun b ob q => Heap.get?_push_of_some _ q) (Nat.le_refl _) ?_, rfl, q _ (I.hok.fresh (Nat.le_refl _))⟩
  exact ⟨Nat.le_trans (cutV_length xs lo hi) hz, _, 0, (r.drop (HT.sIx xs.length 0 lo)).take (HT.sIx xs.length xs.length hi - HT.sIx xs.length 0 lo), Heap.get?_push_size _ rfl⟩
def flatV : V → Bool
  | .non => true
  | .bl _ => true
  | .int _ => true
  | .str _ => true
  | _ => false
def eqV : V → V → Bool
  | .non, .non => true
  | .bl a, .bl b => a == b
  | .bl a, .int b => (if a then 1 else 0) == b
  | .int a, .bl b => a == (if b then 1 else 0)
  | .int a, .int b => a == b
  | .str a, .str b => a == b
  | _, _ => false
def inV (x : V) (xs : List V) : Bool := xs.any fun y => eqV y x
def rIn (K : PySem.W.Frag) (neg : Bool) : R2 := fun x y H Q => ∃ p xs, y = .ref p ∧ (SqL K H p xs ∨ SqT K H p xs) ∧ flatV x = true ∧ xs.all flatV = true ∧ Q (.bl (if neg then !inV x xs else inV x xs)) H
theorem call_len_seq : CallR X (.builtin "len") (fun xs H Q => ∃ p ys, xs = [.ref p] ∧ (SqL X.K H p ys ∨ SqT X.K H p ys) ∧ Q (.int ys.length) H) := by
  intro pins s σ H xs us Q I r h
  obtain ⟨p, ys, rfl, hq, q⟩ := h
  obtain ⟨u, rfl, rx⟩ := vals1 r
  cases rx
  have hn := line63
  rcases hq with hq | hq
  · obtain ⟨its, r', pl, hz⟩ := I.list hq
    have hlen := r'.length
    exact Calls.call_len_list pl.isList (by simp only [List.size_toArray] <;> omega) ⟨.int ys.length, H, I.tok _, ⟨s.toks + 1, by rw [List.size_toArray, hlen]⟩, q⟩
  · obtain ⟨its, r', pl, hz⟩ := I.tuple hq
    have hlen := r'.length
    exact len_tuple pl (by simp only [List.size_toArray] <;> omega) ⟨.int ys.length, H, I.tok _, ⟨s.toks + 1, by rw [List.size_toArray, hlen]⟩, q⟩
theorem call_len_str : CallR X (.builtin "len") (fun xs H Q => ∃ z, xs = [.str z] ∧ z.length ≤ sizeLine ∧ Q (.int z.length) H) := by
  intro pins s σ H xs us Q I r h
  obtain ⟨z, rfl, hz, q⟩ := h
  obtain ⟨u, rfl, t, rfl⟩ := vals1 r
  have hn := line63
  exact len_str (by omega) ⟨.int z.length, H, I.tok _, ⟨_, rfl⟩, q⟩
theorem call_list_of : CallR X (.type "list") (fun xs H Q => ∃ p ys, xs = [.ref p] ∧ (SqL X.K H p ys ∨ SqT X.K H p ys) ∧ ∀ l, H l = none → Q (.ref l) (upd H l (.lst ys))) := by
  intro pins s σ H xs us Q I r h
  obtain ⟨p, ys, rfl, hq, q⟩ := h
  obtain ⟨u, rfl, rx⟩ := vals1 r
  cases rx
  have fin : ∀ (its : List Value), Vals ys its → ys.length ≤ sizeLine → ∀ (h' : Heap) (c' : Nat), (∀ b o', s.heap.get? b = some o' → h'.get? b = some o') →
      h'.get? s.heap.objs.size = some { cls := .type "list", dict := none, data := .seq its.toArray c', slots := #[] } → EP X pins σ Q (.ref s.heap.objs.size) { s with heap := h' } := fun its r' hz h' c' kp e =>
    ⟨.ref s.heap.objs.size, _, I.laid (t' := s.toks) kp (Nat.le_refl _) (show ObjOk X.prog X.w _ h' _ (.lst ys) from ⟨hz, its, c', r', e⟩), rfl, q _ (I.hok.fresh (Nat.le_refl _))⟩
  rcases hq with hq | hq
  · obtain ⟨its, r', pl, hz⟩ := I.list hq
    have hlen := r'.length
    obtain ⟨o, ho, hc, n, hd⟩ := pl.isList
    exact call_list_seq p (.inl rfl) ho hc hd (fun h' c' kp e => fin its r' hz h' c' kp e) (by simp only [List.size_toArray] <;> omega)
  · obtain ⟨its, r', pl, hz⟩ := I.tuple hq
    have hlen := r'.length
    obtain ⟨o, ho, hc, n, hd⟩ := pl
    exact call_list_seq p (.inr rfl) ho hc hd (fun h' c' kp e => fin its r' hz h' c' kp e) (by simp only [List.size_toArray] <;> omega)
def tyV (K : PySem.W.Frag) (T : String) (x : V) (H : Hp) : Prop := match x with
  | .str _ => T = "str"
  | .int _ => T = "int"
  | .ref p => (T = "list" ∧ ∃ xs, SqL K H p xs) ∨ (T = "tuple" ∧ ∃ o, K.lookup p = some o ∧ o.cls = .type "tuple" ∧ o.dict = none) ∨
      (T = "dict" ∧ ((∃ kvs, H p = some (.dK kvs)) ∨ ∃ kvs, H p = some (.dT kvs))) ∨ (T = "set" ∧ ∃ S n, H p = some (.set S n))
  | _ => False
theorem tyV_is {pins : List (Addr × Obj)} {σ : St} {H : Hp} {s : Shared} {T : String} {x : V} {v : Value} (I : Inv X pins σ H s) (r : RelV x v) (ty : tyV X.K T x H) :
    s.TypeIs v T ∧ ∀ a, v = .ref a → ∃ ob, s.heap.get? a = some ob ∧ ob.dict = none := by
  cases x with
  | str z =>
    obtain ⟨t, rfl⟩ := r
    cases (show T = "str" from ty)
    exact ⟨typeIs_str s z t, fun _ e => nomatch e⟩
  | int i =>
    obtain ⟨t, rfl⟩ := r
    cases (show T = "int" from ty)
    exact ⟨typeIs_int s i t, fun _ e => nomatch e⟩
  | ref p =>
    cases r
    rcases ty with ⟨rfl, xs, hq⟩ | ⟨rfl, o, hk, hc, hd⟩ | ⟨rfl, hk⟩ | ⟨rfl, S, n, hk⟩
    · obtain ⟨its, _, pl, _⟩ := I.list hq
      refine ⟨pl.isList.typeIs, fun a e => ?_⟩
      cases e
      obtain ⟨o, n, e, c, hd, _⟩ := pl
      exact ⟨o, e, hd⟩
    · refine ⟨⟨o, I.kIn p o hk, hc⟩, fun a e => ?_⟩
      cases e
      exact ⟨o, I.kIn _ o hk, hd⟩
    · have z : ∃ o, s.heap.get? p = some o ∧ o.ExactDict := by
        rcases hk with ⟨kvs, hk⟩ | ⟨kvs, hk⟩
        · obtain ⟨_, _, _, _, o, _, _, e, ex, _⟩ := I.hok p _ hk
          exact ⟨o, e, ex⟩
        · obtain ⟨_, _, _, _, o, _, _, e, ex, _⟩ := I.hok p _ hk
          exact ⟨o, e, ex⟩
      obtain ⟨o, e, ex⟩ := z
      refine ⟨⟨o, e, ex.1⟩, fun a e2 => ?_⟩
      cases e2
      exact ⟨o, e, ex.2.1⟩
    · obtain ⟨o, _, _, _, e, ex, _⟩ := I.hok p _ hk
      refine ⟨⟨o, e, ex.1⟩, fun a e2 => ?_⟩
      cases e2
      exact ⟨o, e, ex.2.1⟩
  | _ => exact False.elim ty
def tBM0 (K : PySem.W.Frag) (T : String) (r : V → List V → Hp → VK → Prop) (to : TE) : TE := fun σ H Q => to σ H fun x H1 => tyV K T x H1 ∧ r x [] H1 Q
def tBM (K : PySem.W.Frag) (T : String) (r : V → List V → Hp → VK → Prop) (to : TE) (t : TA) : TE := fun σ H Q => to σ H fun x H1 => tyV K T x H1 ∧ t σ H1 fun xs H2 => r x xs H2 Q
variable {o e : Expr} {es : List Expr} {to : TE} {t : TA} {name : Str} {apos cpos : Pos} {T id : String} {r : V → List V → Hp → VK → Prop}
theorem pe_bm (pa : PlainAttrs T) (slot : Slot T name id) (hty : typeOf (.builtin id) = pure (.type "method_descriptor")) (hm : MtR X id r) (ho : PE X o to) (ha : PA X (e :: es) t)
    (hbase : attributeBase o name X.env (eval o X.env) = eval o X.env := by rfl)
    (hfew : ((backTo cpos (starEach (e :: es) X.env)).all (fun x => !x.1) && (backToKw cpos (keywordEach [] X.env)).all (fun x => x.1.isSome)
      && decide ((e :: es).length + ([] : List Keyword).length + (if ([] : List Keyword).isEmpty then 0 else 1) < 30)) = true := by rfl)
    (hline : (apos.endLine == cpos.line) = true := by rfl) (hs : starEach (e :: es) X.env = (false, eval e X.env) :: starEach es X.env := by rfl) (hplain : (backTo cpos (starEach es X.env)).any (·.1) = false := by rfl) :
    PE X (.Call (.Attribute o name apos) (e :: es) [] cpos) (tBM X.K T r to t) := by
  intro pins s σ H Q I h
  refine wpAny_Call_method_late hbase hfew hline rfl (thn (ho pins s σ H _ I h) fun v s1 ⟨x, H1, I1, r1, ty, q1⟩ => ?_)
  obtain ⟨h1, h2⟩ := tyV_is I1 r1 ty
  refine ⟨T, id, pa, slot, hty, h1, h2, ?_⟩
  have hA := ha cpos pins s1 σ H1 _ I1 q1
  rw [hs] at hA ⊢
  refine Calls.callWith_builtin (by show (false || (backTo cpos (starEach es X.env)).any (·.1)) = false; rw [hplain] <;> rfl) (Calls.evalArgs_plain ?_)
  exact thn hA fun us s2 ⟨vs, H2, I2, r2, q2⟩ => hm pins s2 σ H2 x vs v us Q I2 r1 r2 q2
/- xs.append(e), list.index on a module's tuple .. are MtR facts of 06m -/
end
end L2
namespace L2
open PySem PySem.Spec PyProof.Rows
def MtM (X : Cx) (id : String) (r : V → List V → Hp → VK → Prop) : Prop :=
  ∀ (pins : List (Addr × Obj)) (s : Shared) (σ : St) (H : Hp) (x : V) (xs : List V) (v : Value) (us : List Value) (Q : VK), Inv X pins σ H s → RelV x v → Vals xs us → r x xs H Q →
    wpAny (model X.prog X.w) X.A (call (.builtin id) (v :: us)) (EP X pins σ Q) X.xe s
theorem Vals.one : ∀ {x : V} {us : List Value}, Vals [x] us → ∃ u, us = [u] ∧ RelV x u
  | _, _, .cons r .nil => ⟨_, rfl, r⟩
theorem Vals.rep {xs : List V} {us : List Value} (h : Vals xs us) : ∀ k : Nat, Vals (List.replicate k xs).flatten (List.replicate k us).flatten
  | 0 => .nil
  | k + 1 => by
    rw [List.replicate_succ, List.replicate_succ, List.flatten_cons, List.flatten_cons]
    exact Vals.append h (Vals.rep h k)
theorem foldl_rep (its : List Value) : ∀ (k : Nat) (acc : List Value),
    List.foldl (fun x1 x2 => x1 ++ x2) acc.toArray (List.replicate k its.toArray) = (acc ++ (List.replicate k its).flatten).toArray
  | 0, acc => by simp
  | k + 1, acc => by
    have e : acc.toArray ++ its.toArray = (acc ++ its).toArray := by simp
    have e2 : (acc ++ its) ++ (List.replicate k its).flatten = acc ++ (List.replicate (k + 1) its).flatten := by
      rw [List.replicate_succ, List.flatten_cons, List.append_assoc]
    rw [← e2, ← foldl_rep its k (acc ++ its), ← e, List.replicate_succ, List.foldl_cons]
section
variable {X : Cx} {pins : List (Addr × Obj)} {σ : St} {H : Hp} {s : Shared} {l b : Addr} {xs ys zs : List V}
theorem Inv.lset {its its' : List Value} {n : Nat} {f : Array Value → Array Value} {t' : Nat} (I : Inv X pins σ H s) (hH : H l = some (.lst xs))
    (e : s.heap.get? l = some { cls := .type "list", data := .seq its.toArray n }) (hf : f its.toArray = its'.toArray) (hv : Vals ys its') (hz : ys.length ≤ sizeLine) :
    Inv X pins σ (upd H l (.lst ys)) { s with heap := s.heap.update l (Obj.mapSeq f), toks := t' } := by
  have q := PySem.IsL.update e f
  rw [hf] at q
  refine I.write (x := l) (e := l) (by rw [hH]; exact trivial) (.inl rfl) (fun b' u hb hu => (Heap.get?_update_other s.heap (Obj.mapSeq f) (Ne.symm hb)).trans hu) ⟨_, q⟩ ?_
  exact ⟨hz, its', _, hv, q⟩
theorem Inv.lnew {its : List Value} {t' : Nat} (I : Inv X pins σ H s) (hv : Vals ys its) (hz : ys.length ≤ sizeLine) :
    Inv X pins σ (upd H s.heap.objs.size (.lst ys)) { s with heap := s.heap.push { cls := .type "list", data := .seq its.toArray }, toks := t' } :=
  I.laid (fun _ _ q => Heap.get?_push_of_some _ q) (Nat.le_refl _) ⟨hz, its, 0, hv, Heap.get?_push_size _ rfl⟩
theorem Inv.fresh (I : Inv X pins σ H s) : H s.heap.objs.size = none := I.hok.fresh (Nat.le_refl _)
theorem Inv.lstM (I : Inv X pins σ H s) (hH : H l = some (.lst xs)) : xs.length ≤ sizeLine ∧ ∃ (its : List Value) (n : Nat), Vals xs its ∧ xs.length = its.length ∧ s.heap.get? l = some { cls := .type "list", data := .seq its.toArray n } := by
  obtain ⟨z, its, n, r, e⟩ := I.hok l _ hH
  exact ⟨z, its, n, r, r.length, e⟩
theorem notLongL {n : Nat} (h : n ≤ sizeLine) : Builtin.List.listTooLong n = false := by
  unfold Builtin.List.listTooLong
  exact decide_eq_false (by omega)
end
section
variable {X : Cx}
def rAppend : V → List V → Hp → VK → Prop := fun x vs H Q => ∃ l xs y, x = .ref l ∧ vs = [y] ∧ H l = some (.lst xs) ∧ xs.length < sizeLine ∧ Q .non (upd H l (.lst (xs ++ [y])))
theorem mt_append : MtM X "list.append" rAppend := by
  intro pins s σ H x vs v us Q I rx rv h
  obtain ⟨l, xs, y, rfl, rfl, hH, hz, q⟩ := h
  cases rx
  obtain ⟨u, rfl, ru⟩ := rv.one
  obtain ⟨z, its, n, r, hl, e⟩ := I.lstM hH
  refine call_meets F.slot_list_append ⟨_, e, rfl⟩ F.entry_list_append (F.args_list_append_2 _ _) (PySem.list_append l its.toArray n u (by rw [List.size_toArray]; omega)) ⟨e, ?_⟩
  refine ⟨.non, _, I.lset (its' := its ++ [u]) hH e (by simp) (r.append (.cons ru .nil)) ?_, rfl, q⟩
  rw [List.length_append, List.length_singleton]
  omega
def rExtend : V → List V → Hp → VK → Prop := fun x vs H Q => ∃ l b xs zs, x = .ref l ∧ vs = [.ref b] ∧ H l = some (.lst xs) ∧ H b = some (.lst zs) ∧ xs.length + zs.length ≤ sizeLine ∧ Q .non (upd H l (.lst (xs ++ zs)))
def rClear : V → List V → Hp → VK → Prop := fun x vs H Q => ∃ l xs, x = .ref l ∧ vs = [] ∧ H l = some (.lst xs) ∧ Q .non (upd H l (.lst []))
def rCat : R2 := fun x y H Q => ∃ l b xs zs, x = .ref l ∧ y = .ref b ∧ H l = some (.lst xs) ∧ H b = some (.lst zs) ∧ xs.length + zs.length ≤ sizeLine ∧ ∀ p, H p = none → Q (.ref p) (upd H p (.lst (xs ++ zs)))
theorem op_cat : OpR X (binaryOp .Add) rCat := by
  intro pins s σ H x y v u Q I rx ry h
  obtain ⟨l, b, xs, zs, rfl, rfl, hH, hB, hz, q⟩ := h
  cases rx
  cases ry
  obtain ⟨z, its, n, r, hl, e⟩ := I.lstM hH
  obtain ⟨z2, its2, n2, r2, hl2, e2⟩ := I.lstM hB
  refine PySem.P.add_list e e2 ?_ (by rw [List.size_toArray, List.size_toArray]; omega)
  have ea : its.toArray ++ its2.toArray = (its ++ its2).toArray := by simp
  rw [ea]
  exact ⟨.ref _, _, I.lnew (t' := s.toks) (r.append r2) (by rw [List.length_append]; omega), rfl, q _ I.fresh⟩
def rRep : R2 := fun x y H Q => ∃ l k xs, x = .ref l ∧ y = .int k ∧ H l = some (.lst xs) ∧ -(2 ^ 63) ≤ k ∧ k < 2 ^ 63 ∧ xs.length * k.toNat ≤ sizeLine ∧
  ∀ p, H p = none → Q (.ref p) (upd H p (.lst (List.replicate k.toNat xs).flatten))
theorem len_rep {α : Type} (xs : List α) (k : Nat) : (List.replicate k xs).flatten.length = k * xs.length := by
  induction k with
  | zero => simp
  | succ k ih => rw [List.replicate_succ, List.flatten_cons, List.length_append, ih, Nat.succ_mul, Nat.add_comm]
theorem op_rep : OpR X (binaryOp .Mult) rRep := by
  intro pins s σ H x y v u Q I rx ry h
  obtain ⟨l, k, xs, rfl, rfl, hH, h1, h2, hz, q⟩ := h
  cases rx
  obtain ⟨t, rfl⟩ := ry
  obtain ⟨z, its, n, r, hl, e⟩ := I.lstM hH
  have hlen : its.toArray.size * k.toNat ≤ sizeLine := by rw [List.size_toArray, ← hl]; exact hz
  have hcap : ¬ its.toArray.size * k.toNat > (2 ^ 63 - 1) / 8 := by
    have : (sizeLine : Nat) ≤ (2 ^ 63 - 1) / 8 := by decide
    omega
  have hfit : ¬ (!Builtin.List.listFitsIndex k) = true := by
    rw [fitsIndex_both h1 h2]
    exact Bool.false_ne_true
  have hlong : ¬ Builtin.List.listTooLong (its.toArray.size * k.toNat) = true := by
    rw [notLongL hlen]
    exact Bool.false_ne_true
  have hnew : List.foldl (fun x1 x2 => x1 ++ x2) #[] (List.replicate (if its.toArray.isEmpty = true then 0 else k.toNat) its.toArray) = (List.replicate k.toNat its).flatten.toArray := by
    have f0 : ∀ m : Nat, List.foldl (fun x1 x2 => x1 ++ x2) #[] (List.replicate m its.toArray) = (List.replicate m its).flatten.toArray := fun m => by
      have := foldl_rep its m []
      rw [List.nil_append] at this
      exact this
    rw [f0]
    cases its with
    | nil => simp
    | cons a r' => rw [if_neg (by simp)]
  refine wpAny_binaryOp_repeat_ref (T := "list") (U := "int") (by decide) ⟨_, e, rfl⟩ (fun s' => typeIs_int s' k t) noFill_list_mul F.fills_int_mul F.slot_int_rmul repeat_list F.slot_int_index.lookup
    (call_meets F.slot_int_rmul (typeIs_int s k t) F.entry_int_rmul (F.args_int_rmul_2 _ _) (int___rmul___int_list k t l its.toArray n)
      ⟨e, rfl, ⟨_, e, rfl⟩, call_meets F.slot_list_mul ⟨_, e, rfl⟩ F.entry_list_mul (F.args_list_mul_2 _ _) (AutoListH.list___mul___list_int_3 l its.toArray n k t hfit hcap hlong) ⟨e, ?_⟩⟩)
  rw [hnew]
  exact ⟨.ref _, _, I.lnew (t' := s.toks) (r.rep k.toNat) (by rw [len_rep, Nat.mul_comm]; exact hz), rfl, q _ I.fresh⟩
end
section
variable {prog : Program} {w : World} {A : Around} {E : Value → Shared → Prop} {s : Shared}
set_option maxRecDepth 100000 in
end
section
variable {X : Cx}
end
end L2
namespace Att
open PySem PySem.W PySem.Calls PyProof.Rows
theorem ints_of_wellAll {P : Params} {h : Heap} : ∀ (ns : List Int) (vs : List Value), WellAll P h vs (ns.map WData.int) → IntsAre vs ns := by
  intro ns
  induction ns with
  | nil =>
    intro vs w
    rw [List.map_nil] at w
    cases w
    exact .nil
  | cons n ns ih =>
    intro vs w
    rw [List.map_cons] at w
    cases w with
    | cons a b =>
      cases a
      exact .cons _ _ (ih _ b)
theorem script_of {l : OpenLaw} {n : Nat} (hn : l.most = some n) {P : Params} {h : Heap} {args : List WData} {vals : List Value}
    (hpre : l.row.toRowW.claim.pre args = true) (hwl : WellAll P h vals args) :
    ∃ a vs ns, vals = [Value.ref a] ∧ args = [WData.list (ns.map WData.int)] ∧ h.get? a = some { cls := .type "list", data := .seq vs.toArray } ∧ IntsAre vs ns ∧ ns.length ≤ n := by
  have hsh : WShape.hasAll [] args [.list .int] = true := (pre_splitW hpre).1
  have hc : l.pre.holds [] { args := args } = true := (pre_splitW hpre).2
  obtain ⟨d, r, rfl, h1, h2⟩ := hasAllW_cons hsh
  obtain rfl := hasAllW_nil h2
  obtain ⟨xs, rfl, h3⟩ := hasW_list h1
  obtain ⟨ns, rfl⟩ := items_int h3
  have hlen : ns.length ≤ n := by
    unfold OpenLaw.pre at hc
    have h4 : (WTm.not (.lt (.lit (.int (n : Int))) (.len (.arg 0)))).holds [] { args := [.list (ns.map .int)] } = true := by
      have h4 := (holds_andW hc).1
      rw [hn] at h4
      exact h4
    have h5 := condW_of h4 (w_not (w_lt w_lit (w_len_list (w_arg rfl))))
    rw [List.length_map] at h5
    refine Nat.le_of_not_lt fun q => ?_
    have q' : (n : Int) < ((ns.length : Nat) : Int) := by omega
    first
      | (rw [decide_eq_true q'] at h5; exact absurd h5 (by decide))
      | (simp at h5; omega)
  cases hwl with
  | cons w1 w2 =>
    cases w2
    cases w1 with
    | list ho hall => exact ⟨_, _, ns, rfl, rfl, ho, ints_of_wellAll ns _ hall, hlen⟩
theorem post_true (l : OpenLaw) (args : List WData) : l.row.toRowW.claim.post args (.bool true) args = true :=
  postW_of (r := l.row.toRowW) (X := (true == true))
    (show WShape.has [] (.bool true) .bool = true by first | rfl | decide | simp [WShape.has, WShape.arms, WShape.armsAll])
    (show (WTm.eq .res (.lit (.bool true))).value [] { args := args, res := some (.bool true), after := args } = some (.bool (true == true)) from w_eq_bool (w_res rfl) w_lit) rfl
theorem attach_call {l : OpenLaw} {n : Nat} {q : Program} {loose : List Str} {XP : (Str → Option Value) → Heap → Prop} {YP : World → Heap → Prop} {d : DefRec}
    (hn : l.most = some n) (hdf : d.params.defaults = [])
    (call : ∀ (w : World) (s₀ s₁ : Shared) (mg mb : Str → Option Value) (fa : Addr) (o : Obj) (pm cd doc : Value) (a : Addr) (vs : List Value) (ns : List Int),
      Ground q loose [] XP w s₀ mg mb s₁.heap → YP w s₁.heap →
      s₁.heap.get? fa = some o → o.data = .func (docDef d.name d.params d.body d.scope pm cd doc) → s₁.heap.CodeRec cd d.name → mg d.name = some (.ref fa) →
      s₁.heap.get? a = some { cls := .type "list", data := .seq vs.toArray } → IntsAre vs ns → ns.length ≤ n → s₁.gens = #[] →
      codeAny (model l.prog w) callerA (.call (.ref fa) ⟨[.ref a], []⟩) (fun r s' => r = .ok (.ret (.bool true)) ∧ OldK s₁.heap s'.heap ∧ s'.os = s₁.os ∧ AllBare s'.gens) s₁) :
    WalkO q loose XP YP l.row.toRowW d [] (fun f vs => PySem.call f vs) := by
  intro w s₀ s₁ mg mb G Y fa o pm cd doc dV kV ho hd hcd hD hmg hg args vals as hpre hlay hrd hwl hlo
  obtain rfl : dV = .none := Dflts.none hD hdf
  obtain rfl : kV = .none := Dflts.noKw hD
  obtain ⟨a, vs, ns, rfl, rfl, hobj, hints, hlen⟩ := script_of hn hpre hwl
  refine enter_call (codeAny_mono (call w s₀ s₁ mg mb fa o pm cd doc a vs ns G Y ho (fd_plain hd) hcd hmg hobj hints hlen hg) fun r s' hq => ?_)
  obtain ⟨rfl, h2, h3, h4⟩ := hq
  exact ⟨.inl ⟨.bool true, .bool true, [], rfl, fun _ => rfl, .bool true, post_true l _, fun _ => ⟨List.Pairwise.nil, fun _ hm => (nomatch hm)⟩⟩, h2, h3, h4⟩
section
variable {prog : Program} {w : World} {A : Around} {E : Value → Shared → Prop} {s : Shared} {K : Frag}
end
end Att
namespace L2
open PySem PySem.Spec PyProof.Rows
theorem vals_ints : ∀ {vs : List Value} {ns : List Int}, IntsAre vs ns → Vals (ns.map V.int) vs
  | _, _, .nil => .nil
  | _, _, .cons n t h => .cons ⟨t, rfl⟩ (vals_ints h)
def Only (H : Hp) : Prop := ∀ b, H b = none ∨ ∃ o xs, H b = some (.frz o (.lst xs))
theorem law_call {P : Program} {w : World} {K : PySem.W.Frag} {mg mb : Str → Option Value} {CX : CXT} {k : Nat} {fa a : Addr} {fd : FuncData} {x : Str} {sp : Sp} {s₁ : Shared} {vs : List Value} {ns : List Int}
    (KX : K.In s₁.heap) (hns : s₁.heap.Ns mainGlobals mg) (hb : s₁.heap.Ns builtinsNs mb) (hbb : ∀ x : Str, x ≠ "__name__" → mb x = bootBuiltins x) (hlim : s₁.heap.NoLimit) (hg : s₁.gens = #[])
    (ha : s₁.heap.get? a = some { cls := .type "list", data := .seq vs.toArray }) (hi : IntsAre vs ns) (hl : ns.length ≤ sizeLine) (hr : Room k callerA)
    (F : ∀ base : Heap, K.In base → base.Ns mainGlobals mg → FnOk P w K mg base CX k fa fd [x] sp) (hbind : ∀ (s : Shared) (u : Value), BindsTo s fd ⟨[u], []⟩ [(x, u)])
    (hsp : ∀ H : Hp, Only H → SqL K H a (ns.map V.int) → sp [.ref a] H (fun v _ => v = .bl true) fun _ _ _ => False)
    (hCX : ∀ H e s', CX [] H s₁ (fun _ _ _ => False) e s' → False) :
    codeAny (model P w) callerA (.call (.ref fa) ⟨[.ref a], []⟩) (fun r s' => r = .ok (.ret (.bool true)) ∧ OldK s₁.heap s'.heap ∧ s'.os = s₁.os ∧ AllBare s'.gens) s₁ := by
  have rv := vals_ints hi
  have lenV := hi.length
  have core : ∀ H : Hp, Only H → SqL K H a (ns.map V.int) → HOk P w H s₁.heap → (∀ b, H b ≠ none → b = a) → (H a ≠ none → K.lookup a = none) →
      codeAny (model P w) callerA (.call (.ref fa) ⟨[.ref a], []⟩) (fun r s' => r = .ok (.ret (.bool true)) ∧ OldK s₁.heap s'.heap ∧ s'.os = s₁.os ∧ AllBare s'.gens) s₁ := by
    intro H hO hS hok hA hK
    have base_of : ∀ {b : Addr} {o : Obj}, s₁.heap.get? b = some o → H b = none → (hidT s₁.heap H).get? b = some o := fun e n => hidT_get e n
    have noA : ∀ {b : Addr} {o : Obj} {es : Array DictEntry} {ep : Nat}, s₁.heap.get? b = some o → o.data = .dict es ep → H b = none := fun {b o es ep} e d => by
      cases q : H b with
      | none => rfl
      | some u =>
        have e' : b = a := hA b (by rw [q]; simp)
        subst e'
        rw [ha] at e; cases e
        have d' : Data.seq vs.toArray _ = Data.dict es ep := d
        cases d'
    have nsK : ∀ {b : Addr} {m : Str → Option Value}, s₁.heap.Ns b m → (hidT s₁.heap H).Ns b m := fun {b m} ⟨o, es, ep, e, d, r⟩ => ⟨o, es, ep, base_of e (noA e d), d, r⟩
    have hKb : K.In (hidT s₁.heap H) := fun b o e => base_of (KX b o e) (by
      cases q : H b with
      | none => rfl
      | some u =>
        have e' : b = a := hA b (by rw [q]; simp)
        subst e'
        rw [hK (by rw [q]; simp)] at e; cases e)
    have hM : Mod K mg (hidT s₁.heap H) := ⟨hKb, nsK hns, ⟨mb, nsK hb, hbb⟩, let ⟨mc, h1, h2⟩ := hlim; ⟨mc, nsK h1, h2⟩⟩
    have e0 : Env0 P w K mg (hidT s₁.heap H) callerA [] s₁ H := ⟨rfl, hM, fun b o e => of_hidT e, Nat.le_of_eq (hidT_size _ _), trivial, fun b hb => absurd (show b ∈ ([] : List Addr) from hb) (by simp), hok, .of_eq hg⟩
    refine codeAny_mono ((F _ hKb (nsK hns)).run callerA [] s₁ H ⟨[.ref a], []⟩ [.ref a] [.ref a] _ _ hr e0 (hbind s₁ (.ref a)) (.cons rfl .nil) (hsp H hO hS)) fun r s' h => ?_
    cases r with
    | error e => exact (hCX H e s' h).elim
    | ok fl =>
      cases fl with
      | next => exact False.elim h
      | brk => exact False.elim h
      | cont => exact False.elim h
      | ret u =>
        obtain ⟨v, H', os, bare, un, hok', r', q⟩ := h
        have q' : v = .bl true := q
        subst q'
        obtain rfl : u = Value.bool true := r'
        refine ⟨rfl, OldK.of_keep fun b o e => ?_, os, bare⟩
        cases q : H b with
        | none => exact un.keep b o e q (by intro z; exact absurd (show b ∈ ([] : List Addr) from z) (by simp)) (by simp)
        | some u =>
          rcases hO b with z | ⟨ob, xs, z⟩
          · rw [q] at z; cases z
          · have z2 := un.frzs b ob _ z
            obtain ⟨e1, _⟩ := hok b _ z
            obtain ⟨e2, _⟩ := hok' b _ z2
            rw [e] at e1; cases e1
            exact e2
  cases hk : K.lookup a with
  | some o =>
    have e := KX a o hk
    rw [ha] at e
    cases e
    refine core (fun _ => none) (fun _ => .inl rfl) (.inr ⟨_, vs.toArray, _, hk, rfl, rfl, rfl, by rw [List.size_toArray, lenV]; exact hl, by simpa using rv⟩) (fun b u z => by have z' : (none : Option HO) = some u := z; cases z') (fun b z => absurd rfl z) fun z => absurd rfl z
  | none =>
    refine core (fun b => if b = a then some (.frz { cls := .type "list", data := .seq vs.toArray } (.lst (ns.map V.int))) else none) (fun b => ?_) (.inl (.inr ⟨{ cls := .type "list", data := .seq vs.toArray }, if_pos rfl⟩)) (fun b u z => ?_) (fun b z => ?_) fun _ => hk
    · by_cases hb : b = a
      · exact .inr ⟨_, _, if_pos hb⟩
      · exact .inl (if_neg hb)
    · by_cases hb : b = a
      · have z' := (if_pos hb).symm.trans z
        cases z'
        subst hb
        exact ⟨ha, by rw [List.length_map]; exact hl, vs, _, rv, ha⟩
      · have z' := (if_neg hb).symm.trans z
        cases z'
    · by_cases hb : b = a
      · exact hb
      · exact absurd (if_neg hb) z
end L2
namespace L2
open PySem PySem.Spec PyProof.Rows
abbrev KOf {K : PySem.W.Frag} {h : Heap} (_ : K.In h) : PySem.W.Frag := K
theorem walk_of {l : PySem.W.OpenLaw} {n k : Nat} {q : Program} {loose : List Str} {XP : (Str → Option Value) → Heap → Prop} {YP : World → Heap → Prop} {d : DefRec} {K : Params → PySem.W.Frag} {CX : World → CXT} {sp : World → Sp} {x : Str}
    (hn : l.most = some n) (hn2 : n ≤ sizeLine) (hdf : d.params.defaults = []) (hr : Room k callerA)
    (hY : ∀ (w : World) (h : Heap), YP w h → (K w.params).In h)
    (F : ∀ (w : World) (mg : Str → Option Value) (fa : Addr) (h : Heap), (K w.params).In h → h.Ns mainGlobals mg → mg d.name = some (.ref fa) →
      ∃ fd : FuncData, (∀ (s : Shared) (u : Value), BindsTo s fd ⟨[u], []⟩ [(x, u)]) ∧
        ∀ base : Heap, (K w.params).In base → base.Ns mainGlobals mg → FnOk l.prog w (K w.params) mg base (CX w) k fa fd [x] (sp w))
    (hsp : ∀ (w : World) (H : Hp) (a : Addr) (ns : List Int), ns.length ≤ n → Only H → SqL (K w.params) H a (ns.map V.int) → sp w [.ref a] H (fun v _ => v = .bl true) fun _ _ _ => False)
    (hCX : ∀ (w : World) (H : Hp) (s : Shared) (e : Value) (s' : Shared), CX w [] H s (fun _ _ _ => False) e s' → False) :
    PySem.W.WalkO q loose XP YP l.row.toRowW d [] (fun f vs => PySem.call f vs) := by
  refine Att.attach_call hn hdf fun w s₀ s₁ mg mb fa o pm cd doc a vs ns G Y ho hd hcd hmg hobj hints hlen hg => ?_
  have KX := hY w _ Y
  obtain ⟨fd, hb, hF⟩ := F w mg fa _ KX G.T.g hmg
  exact law_call KX G.T.g G.T.b G.T.builtins G.T.nolimit hg hobj hints (Nat.le_trans hlen hn2) hr hF hb (fun H hO hS => hsp w H a ns hlen hO hS) fun H e s' => hCX w H s₁ e s'
end L2
/- THE LAST THEOREM (shape; LID, My.* are yours):
   My.Adr: a structure of the addresses that your layer names (classes, functions); My.Txt K t: a structure (Prop) of the equations over K;
   My.txt_mk : {K} {implicit addresses ..} (e1 : nsIn K mainGlobals "law" = some (some (.ref f))) (e2 : K.lookup f = some ⟨oc, od, .func (fnOf "law" "law" params body scope dV kV doc pm an cdv ct), sl⟩) (e3 : codeIn K cdv "law" = true) .. : ∃ t, My.Txt K t
set_option maxRecDepth 100000 in
set_option maxHeartbeats 0 in
theorem PySem.Challenge.cw_LID_holds : PySem.Challenge.rw_LID.Holds := by
  w_on; o_law; k_head; (case hw => w_witness2)
  k_fill
  refine L2.walk_of (l := PySem.Challenge.rw_LID) (n := 63) (k := 40) (x := "script") (CX := fun w => ..) (sp := fun _ => My.sp_law) rfl (by decide) rfl ⟨rfl, by decide, by decide⟩ (fun w h Y => PySem.W.kIn_of Y) ?F ?S ?C
  case F =>
    intro w mg fa h KX G hmg
    have T : ∃ t, My.Txt (L2.KOf KX) t := by
      dsimp only [L2.KOf]                          -- K must stand as «<heap const> w.params» for k_is
      refine' My.txt_mk ?e1 ?e2 ?e3 ..
      (case e1 => PySem.W.k_is)                    -- in the order: a name -> its address -> its object -> its parts
      (case e2 => PySem.W.k_is)
      ..
    obtain ⟨t, T⟩ := T
    have e0 := hmg.symm.trans (PySem.W.mg_of KX G T.law)
    cases e0                                       -- fa is the law's own address
    exact ⟨_, fun s u => .of_eq rfl, fun base kb nb => My.law_fn T kb nb⟩     -- if «.of_eq rfl» comes too early: refine' ⟨_, ?b, fun base kb nb => My.law_fn T kb nb⟩; exact fun s u => .of_eq rfl
  case S => exact fun w H a ns hl hO hS => ..
  case C => exact ..
(the tactic k_is has no namespace: write k_is) -/
namespace L2
open PySem PySem.Spec PyProof.Rows
def defArgs (s : Stmt) : Arguments := match s with
  | .FunctionDef _ a _ _ _ _ _ _ _ _ => a
  | _ => { posonlyargs := [], args := [], vararg := none, kwonlyargs := [], kw_defaults := [], kwarg := none, defaults := [] }
def defBody (s : Stmt) : List Stmt := match s with
  | .FunctionDef _ _ b _ _ _ _ _ _ _ => b
  | _ => []
def defScope (s : Stmt) : Scope := match s with
  | .FunctionDef _ _ _ _ _ _ sc _ _ _ => sc
  | _ => { kind := .function, names := [], isGenerator := false, isCoroutine := false }
abbrev CX0 : CXT := fun _ _ _ _ _ _ => False
abbrev E0 : XK := fun _ _ _ => False
theorem pass0 {X : Cx} : Passes CX0 X E0 := fun _ _ _ _ _ _ _ h => h.elim
structure Fun (K : PySem.W.Frag) (x qual : Str) (st : Stmt) (f : Addr) (fd : FuncData) : Prop where
  ex : ∃ (oc : Value) (od : Option Addr) (kV doc pm : Value) (an : Option Addr) (cdv ct : Value) (osl : Array (Option Value)),
    fd = PySem.W.fnOf x qual (defArgs st) (defBody st) (defScope st) .none kV doc pm an cdv ct ∧ K.lookup f = some ⟨oc, od, .func fd, osl⟩ ∧ PySem.W.codeIn K cdv qual = true
  kp : PySem.W.keepIn K (.ref f) = true
section
variable {P : Program} {w : World} {K : PySem.W.Frag} {mg : Str → Option Value} {base : Heap}
theorem Fun.ok {x qual : Str} {st : Stmt} {f : Addr} {fd : FuncData} {N ps : List Str} {k : Nat} {sp : Sp} (F : Fun K x qual st f fd) (S : FnScope N ps (defScope st)) (len : ∀ vs H Q E, sp vs H Q E → vs.length = ps.length)
    (hbody : ∀ (cdv : Value) (A : Around) (outer : List Env) (s : Shared) (H : Hp) (vs : List V) (Q : VK) (E : XK), Room k (A.deeper (envOfC qual (defScope st) s.heap.objs.size f cdv)) → sp vs H Q E →
      ∃ t, PSs (cxOf CX0 P w K mg base N qual (defScope st) f cdv A outer s H E).nox (defBody st) t ∧ t { nx := fun _ H' => Q .non H', rt := Q } (start N vs) H) : FnOk P w K mg base CX0 (k + 1) f fd ps sp := by
  obtain ⟨oc, od, kV, doc, pm, an, cdv, ct, osl, rfl, lk, hcd⟩ := F.ex
  refine fn_of lk hcd S len fun A outer s H vs Q E hr hsp => ?_
  obtain ⟨t, h, q⟩ := hbody cdv A outer s H vs Q E hr hsp
  exact ⟨t, h.nox, q⟩
theorem Fun.binds {x qual : Str} {st : Stmt} {f : Addr} {fd : FuncData} {ps : List Str} (F : Fun K x qual st f fd)
    (h : ∀ (kV doc pm : Value) (an : Option Addr) (cdv ct : Value) (us : List Value), us.length = ps.length → bindArgs (PySem.W.fnOf x qual (defArgs st) (defBody st) (defScope st) .none kV doc pm an cdv ct) ⟨us, []⟩ = pure (ps.zip us)) : Binds K fd ps [] := by
  obtain ⟨oc, od, kV, doc, pm, an, cdv, ct, osl, rfl, lk, hcd⟩ := F.ex
  exact .all (h kV doc pm an cdv ct)
theorem fun_mk {x qual : Str} {st : Stmt} {f : Addr} {oc : Value} {od an : Option Addr} {osl : Array (Option Value)} {kV doc pm cdv ct : Value} (l : K.lookup f = some ⟨oc, od, .func (PySem.W.fnOf x qual (defArgs st) (defBody st) (defScope st) .none kV doc pm an cdv ct), osl⟩)
    (c : PySem.W.codeIn K cdv qual = true) (k : PySem.W.keepIn K (.ref f) = true) : Fun K x qual st f (PySem.W.fnOf x qual (defArgs st) (defBody st) (defScope st) .none kV doc pm an cdv ct) := ⟨⟨oc, od, kV, doc, pm, an, cdv, ct, osl, rfl, l, c⟩, k⟩
end
section
variable {X : Cx}
theorem pv (i : Nat) {x : Str} {pos : Pos} (hN : X.N[i]? = some x := by rfl) (hv : Vis X.env.scope x := by first | exact Or.inl rfl | exact Or.inr (Or.inl rfl) | exact Or.inr (Or.inr rfl)) (hd : (x == ("__debug__" : Str)) = false := by decide)
    (hcd : (x == ("__classdict__" : Str)) = false := by decide) : PE X (.Name x pos) (tVar i) := pe_var hN hv hd hcd
end
theorem ite2 {c A B : Prop} [Decidable c] (h1 : c → A) (h2 : ¬ c → B) : if c then A else B := by
  by_cases h : c
  · rw [if_pos h]
    exact h1 h
  · rw [if_neg h]
    exact h2 h
def Same (H H' : Hp) : Prop := ∀ b o, H b = some o → H' b = some o
theorem Same.refl (H : Hp) : Same H H := fun _ _ h => h
theorem Same.trans {H H1 H2 : Hp} (a : Same H H1) (b : Same H1 H2) : Same H H2 := fun c o h => b c o (a c o h)
theorem Same.free {H H' : Hp} (e : Same H H') {l : Addr} (h : H' l = Option.none) : H l = Option.none := by
  cases q : H l with
  | none => rfl
  | some o =>
    rw [e l o q] at h
    cases h
theorem Same.seq {K : PySem.W.Frag} {H H' : Hp} {a : Addr} {xs : List V} (e : Same H H') (h : SqL K H a xs) : SqL K H' a xs := by
  rcases h with (h | ⟨o, h⟩) | h
  · exact .inl (.inl (e _ _ h))
  · exact .inl (.inr ⟨o, e _ _ h⟩)
  · exact .inr h
end L2
namespace L2
open PySem PySem.Spec PyProof.Rows
section
variable {κ : Type} [DecidableEq κ]
end
end L2
set_option autoImplicit false
namespace Dr
theorem pow_pos {p : Int} (h : 2 ≤ p) : ∀ n : Nat, 0 < p ^ n
  | 0 => by simp
  | n + 1 => by
    rw [Int.pow_succ]
    exact Int.mul_pos (pow_pos h n) (by omega)
theorem pow_add' (p : Int) (m : Nat) : ∀ n : Nat, p ^ (m + n) = p ^ m * p ^ n
  | 0 => by simp
  | n + 1 => by rw [← Nat.add_assoc, Int.pow_succ, pow_add' p m n, Int.pow_succ, Int.mul_assoc]
theorem dvd_of_le {p x : Int} {j k : Nat} (h : x % p ^ k = 0) (hj : j ≤ k) : x % p ^ j = 0 := by
  obtain ⟨i, rfl⟩ : ∃ i, k = j + i := ⟨k - j, by omega⟩
  rw [pow_add'] at h
  exact Int.emod_eq_zero_of_dvd (Int.dvd_trans (Int.dvd_mul_right _ _) (Int.dvd_of_emod_eq_zero h))
def primes : List Int := [2, 3, 5, 7, 11, 13, 17, 19, 23, 29, 31, 37, 41, 43, 47, 53, 59, 61, 67, 71, 73, 79, 83, 89, 97]
theorem primes_ge {p : Int} (h : p ∈ primes) : 2 ≤ p ∧ p ≤ 97 :=
  of_decide_eq_true (List.all_eq_true.mp (show (primes.all fun q => decide (2 ≤ q ∧ q ≤ 97)) = true by decide +kernel) p h)
def invs (p : Nat) : Bool := (List.range p).all fun r => r == 0 || (List.range p).any fun y => r * y % p == 1
theorem invs_all : (primes.map Int.toNat).all invs = true := by decide +kernel
theorem inv_ex {p x : Int} (hp : p ∈ primes) (hx : x % p ≠ 0) : ∃ y : Int, 1 ≤ y ∧ y < p ∧ x * y % p = 1 := by
  have g := primes_ge hp
  have h := List.all_eq_true.mp invs_all p.toNat (List.mem_map.mpr ⟨p, hp, rfl⟩)
  have r0 := Int.emod_nonneg x (show p ≠ 0 by omega)
  have r1 := Int.emod_lt_of_pos x (show 0 < p by omega)
  have h2 := List.all_eq_true.mp h (x % p).toNat (List.mem_range.mpr (by omega))
  have z : ((x % p).toNat == 0) = false := by
    rw [beq_eq_false_iff_ne]; omega
  rw [z, Bool.false_or] at h2
  obtain ⟨y, hy, e⟩ := List.any_eq_true.mp h2
  have e' : (x % p).toNat * y % p.toNat = 1 := by simpa using e
  have hy' := List.mem_range.mp hy
  refine ⟨(y : Int), ?_, by omega, ?_⟩
  · rcases Nat.eq_zero_or_pos y with q | q
    · subst q; simp at e'
    · omega
  · rw [Int.mul_emod, Int.emod_eq_of_lt (Int.natCast_nonneg y) (show (y : Int) < p by omega)]
    have e3 := congrArg (fun n : Nat => (n : Int)) e'
    simp only [Int.natCast_emod, Int.natCast_mul] at e3
    rw [Int.toNat_of_nonneg r0, Int.toNat_of_nonneg (by omega)] at e3
    exact e3
theorem euclid {p a b : Int} (hp : p ∈ primes) (h : a * b % p = 0) (ha : a % p ≠ 0) : b % p = 0 := by
  obtain ⟨y, _, _, e⟩ := inv_ex hp ha
  have g := primes_ge hp
  have h1 : (y * (a * b)) % p = 0 := by rw [Int.mul_emod, h]; simp
  have h2 : (y * (a * b)) % p = (a * y) * b % p := by
    congr 1
    rw [← Int.mul_assoc, Int.mul_comm y a]
  rw [h2, Int.mul_emod, e, Int.one_mul, Int.emod_emod] at h1
  exact h1
end Dr
namespace Dr
theorem pow_dv {p : Int} {m n : Nat} (h : m ≤ n) : p ^ n % p ^ m = 0 := by
  obtain ⟨k, rfl⟩ : ∃ k, n = k + m := ⟨n - m, by omega⟩
  rw [pow_add', Int.mul_emod_left]
end Dr
namespace Dr
structure InvE (p x y : Int) (e : Nat) : Prop where
  lo : 0 ≤ y
  hi : y < p ^ e
  one : (x * y - 1) % p ^ e = 0
theorem dvd_sub_of {m a b : Int} (h : a % m = 0) (h' : b % m = 0) : (a - b) % m = 0 := by rw [Int.sub_emod, h, h']; simp
theorem dvd_add_of {m a b : Int} (h : a % m = 0) (h' : b % m = 0) : (a + b) % m = 0 := by rw [Int.add_emod, h, h']; simp
theorem dvd_mul_l {m a : Int} (b : Int) (h : a % m = 0) : (b * a) % m = 0 := by rw [Int.mul_emod, h]; simp
theorem rest_sub (m a : Int) : (a % m - a) % m = 0 := by
  rw [Int.sub_emod, Int.emod_emod]
  simp
theorem inv_step {p x y : Int} {e r : Nat} (h : (x * y - 1) % p ^ (min r e) = 0) : (x * (y * (2 - x * y) % p ^ e) - 1) % p ^ (min (r * 2) e) = 0 := by
  have k1 : (y * (2 - x * y) % p ^ e - y * (2 - x * y)) % p ^ e = 0 := rest_sub _ _
  have k2 : (x * (y * (2 - x * y) % p ^ e) - x * (y * (2 - x * y))) % p ^ (min (r * 2) e) = 0 := by
    rw [← Int.mul_sub]
    exact dvd_mul_l _ (dvd_of_le k1 (Nat.min_le_right ..))
  have k3 : x * (y * (2 - x * y)) - 1 = -((x * y - 1) * (x * y - 1)) := by
    have e1 : x * (y * (2 - x * y)) = 2 * (x * y) - (x * y) * (x * y) := by
      rw [← Int.mul_assoc, Int.mul_sub, Int.mul_comm (x * y) 2]
    have e2 : (x * y - 1) * (x * y - 1) = (x * y) * (x * y) - 2 * (x * y) + 1 := by
      rw [Int.sub_mul, Int.mul_sub]
      omega
    rw [e1, e2]
    omega
  have k4 : (x * (y * (2 - x * y)) - 1) % p ^ (min (r * 2) e) = 0 := by
    rw [k3]
    refine Int.emod_eq_zero_of_dvd (Int.dvd_neg.mpr ?_)
    obtain ⟨q, hq⟩ := Int.dvd_of_emod_eq_zero h
    have : p ^ (min r e) * p ^ (min r e) ∣ (x * y - 1) * (x * y - 1) := by
      refine ⟨q * q, ?_⟩
      conv => lhs; rw [hq]
      simp only [Int.mul_assoc, Int.mul_left_comm]
    refine Int.dvd_trans ?_ this
    rw [← pow_add']
    exact Int.dvd_of_emod_eq_zero (pow_dv (by omega))
  have : x * (y * (2 - x * y) % p ^ e) - 1 = (x * (y * (2 - x * y) % p ^ e) - x * (y * (2 - x * y))) + (x * (y * (2 - x * y)) - 1) := by omega
  rw [this]
  exact dvd_add_of k2 k4
theorem InvE.zero (p x : Int) : InvE p x 0 0 := ⟨by decide, by simp, by simp [Int.emod_one]⟩
end Dr
namespace Dr
end Dr
namespace Dr
def IsP (n : Int) : Prop := 2 ≤ n ∧ ∀ d : Int, 2 ≤ d → d * d ≤ n → n % d ≠ 0
def vpF : Nat → Nat → Nat → Nat
  | 0, _, _ => 0
  | f + 1, q, n => if n % q = 0 then vpF f q (n / q) + 1 else 0
def nprimes : List Nat := [2, 3, 5, 7, 11, 13, 17, 19, 23, 29, 31, 37, 41, 43, 47, 53, 59, 61, 67, 71, 73, 79, 83, 89, 97]
def outOf (n r q : Nat) : Nat := if n % q = 0 then r / q ^ vpF 10 q n else r
def left (n : Nat) : Nat := nprimes.foldl (outOf n) n
end Dr
namespace Dr
def pev : List Int → Int → Int
  | [], _ => 0
  | a :: f, x => a + x * pev f x
def dm : Int → List Int → List Int
  | _, [] => []
  | k, a :: f => k * a :: dm (k + 1) f
theorem pev_append (f g : List Int) (x : Int) : pev (f ++ g) x = pev f x + x ^ f.length * pev g x := by
  induction f with
  | nil => simp [pev]
  | cons a f ih =>
    simp only [List.cons_append, pev, ih, List.length_cons]
    grind
theorem pev_zeros (n : Nat) (x : Int) : pev (List.replicate n 0) x = 0 := by
  induction n with
  | zero => rfl
  | succ n ih => simp [List.replicate_succ, pev, ih]
theorem pev_set (x d : Int) : ∀ (f : List Int) (k : Nat) (c : Int), f[k]? = some c → pev (f.set k (c + d)) x = pev f x + d * x ^ k
  | a :: f, 0, c, h => by
    have : a = c := by simpa using h
    subst this
    simp only [List.set_cons_zero, pev, Int.pow_zero]
    omega
  | a :: f, k + 1, c, h => by
    simp only [List.set_cons_succ, pev, pev_set x d f k c (by simpa using h)]
    grind
theorem pev_take_succ {f : List Int} {i : Nat} {c : Int} (h : f[i]? = some c) (x : Int) : pev (f.take (i + 1)) x = pev (f.take i) x + c * x ^ i := by
  have hi := (List.getElem?_eq_some_iff.mp h).1
  rw [List.take_add_one, h, pev_append, List.length_take, Nat.min_eq_left (Nat.le_of_lt hi)]
  simp only [Option.toList, pev]
  grind
def Sm (n : Int) (k : Nat) : Prop := n.natAbs < 2 ^ k
theorem Sm.mono {n : Int} {k l : Nat} (h : Sm n k) (hl : k ≤ l) : Sm n l := Nat.lt_of_lt_of_le h (Nat.pow_le_pow_right (by decide) hl)
theorem Sm.zero (k : Nat) : Sm 0 k := Nat.pow_pos (by decide)
theorem Sm.add {a b : Int} {k l : Nat} (ha : Sm a k) (hb : Sm b l) : Sm (a + b) (max k l + 1) := by
  have h1 := ha.mono (Nat.le_max_left k l)
  have h2 := hb.mono (Nat.le_max_right k l)
  unfold Sm at *
  rw [Nat.pow_succ]
  omega
theorem Sm.neg {a : Int} {k : Nat} (ha : Sm a k) : Sm (-a) k := by
  unfold Sm at *
  rw [Int.natAbs_neg]
  exact ha
theorem Sm.sub {a b : Int} {k l : Nat} (ha : Sm a k) (hb : Sm b l) : Sm (a - b) (max k l + 1) := by
  rw [Int.sub_eq_add_neg]
  exact ha.add hb.neg
theorem Sm.mul {a b : Int} {k l : Nat} (ha : Sm a k) (hb : Sm b l) : Sm (a * b) (k + l) := by
  unfold Sm at *
  rw [Int.natAbs_mul, Nat.pow_add]
  exact Nat.mul_lt_mul_of_lt_of_lt ha hb
def PolyB (f : List Int) (m : Nat) : Prop := ∀ c, c ∈ f → Sm c m
theorem pev_inj_from : ∀ (f g : List Int) (N : Int), f.length = g.length → (∀ x, N ≤ x → pev f x = pev g x) → f = g
  | [], [], _, _, _ => rfl
  | a :: f, b :: g, N, hl, h => by
    have hab : a = b := by
      let D : Int := ((a - b).natAbs : Int) + 1 + (N.natAbs : Int)
      have hD : N ≤ D := by omega
      have e := h D hD
      simp only [pev] at e
      have e2 : a - b = D * (pev g D - pev f D) := by grind
      refine Decidable.byContradiction fun hne => ?_
      have hz : pev g D - pev f D ≠ 0 := fun z => by
        rw [z] at e2
        simp at e2
        omega
      have h3 : (a - b).natAbs = D.natAbs * (pev g D - pev f D).natAbs := by rw [← Int.natAbs_mul, ← e2]
      have h4 : D.natAbs * 1 ≤ D.natAbs * (pev g D - pev f D).natAbs := Nat.mul_le_mul_left _ (by omega)
      omega
    subst hab
    congr 1
    refine pev_inj_from f g (max N 1) (by simpa using hl) fun x hx => ?_
    have e := h x (by omega)
    simp only [pev] at e
    have e2 : x * pev f x = x * pev g x := by omega
    exact Int.eq_of_mul_eq_mul_left (by omega) e2
  | [], _ :: _, _, hl, _ => by simp at hl
  | _ :: _, [], _, hl, _ => by simp at hl
theorem pev_inj {f g : List Int} (hl : f.length = g.length) (h : ∀ x, pev f x = pev g x) : f = g := pev_inj_from f g 0 hl fun x _ => h x
def IsDeg (f : List Int) (d : Int) : Prop := (d = -1 ∧ ∀ c, c ∈ f → c = 0) ∨ ∃ (k : Nat) (c : Int), d = (k : Int) ∧ f[k]? = some c ∧ c ≠ 0 ∧ ∀ (j : Nat) (b : Int), k < j → f[j]? = some b → b = 0
theorem IsDeg.nil : IsDeg [] (-1) := .inl ⟨rfl, fun _ h => nomatch h⟩
theorem IsDeg.snoc {f : List Int} {d x : Int} (h : IsDeg f d) : IsDeg (f ++ [x]) (if x ≠ 0 then (f.length : Int) else d) := by
  by_cases hx : x = 0
  · rw [if_neg (by simp [hx])]
    rcases h with ⟨rfl, h⟩ | ⟨k, c, rfl, e, hc, h⟩
    · exact .inl ⟨rfl, fun c hc => by rcases List.mem_append.mp hc with z | z; exact h c z; rw [List.mem_singleton.mp z, hx]⟩
    · have hk := (List.getElem?_eq_some_iff.mp e).1
      refine .inr ⟨k, c, rfl, by rw [List.getElem?_append_left hk]; exact e, hc, fun j b hj e' => ?_⟩
      by_cases hl : j < f.length
      · rw [List.getElem?_append_left hl] at e'
        exact h j b hj e'
      · rw [List.getElem?_append_right (by omega)] at e'
        by_cases hz : j - f.length = 0
        · rw [hz] at e'
          simp at e'
          rw [← e', hx]
        · rw [List.getElem?_eq_none (by simp; omega)] at e'
          cases e'
  · rw [if_pos hx]
    refine .inr ⟨f.length, x, rfl, by rw [List.getElem?_append_right (Nat.le_refl _)]; simp, hx, fun j b hj e' => ?_⟩
    rw [List.getElem?_eq_none (by simp; omega)] at e'
    cases e'
theorem IsDeg.uniq {f : List Int} {d d' : Int} (h : IsDeg f d) (h' : IsDeg f d') : d = d' := by
  rcases h with ⟨rfl, h⟩ | ⟨k, c, rfl, e, hc, h⟩ <;> rcases h' with ⟨rfl, h'⟩ | ⟨k', c', rfl, e', hc', h'⟩
  · rfl
  · exact absurd (h c' (List.mem_of_getElem? e')) hc'
  · exact absurd (h' c (List.mem_of_getElem? e)) hc
  · have h1 : ¬ k < k' := fun z => hc' (h k' c' z e')
    have h2 : ¬ k' < k := fun z => hc (h' k c z e)
    omega
theorem IsDeg.take_succ {f : List Int} {i : Nat} {x d : Int} (hx : f[i]? = some x) (h : IsDeg (f.take i) d) : IsDeg (f.take (i + 1)) (if x ≠ 0 then (i : Int) else d) := by
  have hi := (List.getElem?_eq_some_iff.mp hx).1
  have := h.snoc (x := x)
  rw [List.length_take, Nat.min_eq_left (Nat.le_of_lt hi)] at this
  rw [List.take_add_one, hx]
  exact this
end Dr
namespace Dr
structure IsProd (f g r : List Int) : Prop where
  len : r.length + 1 = f.length + g.length
  ev : ∀ x, pev r x = pev f x * pev g x
theorem IsProd.uniq {f g r r' : List Int} (h : IsProd f g r) (h' : IsProd f g r') : r = r' := pev_inj (by have := h.len; have := h'.len; omega) fun x => by rw [h.ev, h'.ev]
def padd : List Int → List Int → List Int
  | [], g => g
  | f, [] => f
  | a :: f, b :: g => (a + b) :: padd f g
theorem padd_ev (x : Int) : ∀ f g : List Int, pev (padd f g) x = pev f x + pev g x
  | [], g => by simp [padd, pev]
  | a :: f, [] => by simp [padd, pev]
  | a :: f, b :: g => by
    simp only [padd, pev, padd_ev x f g]
    grind
theorem padd_len : ∀ f g : List Int, (padd f g).length = max f.length g.length
  | [], g => by simp [padd]
  | a :: f, [] => by simp [padd]
  | a :: f, b :: g => by
    simp only [padd, List.length_cons, padd_len f g]
    omega
theorem pev_map (k x : Int) : ∀ f : List Int, pev (f.map (k * ·)) x = k * pev f x
  | [] => by simp [pev]
  | a :: f => by
    simp only [List.map_cons, pev, pev_map k x f]
    grind
def pmul : List Int → List Int → List Int
  | [], _ => []
  | a :: f, g => padd (g.map (a * ·)) (match f with | [] => [] | _ => 0 :: pmul f g)
theorem pmul_ev (x : Int) (g : List Int) : ∀ f : List Int, pev (pmul f g) x = pev f x * pev g x
  | [] => by simp [pmul, pev]
  | [a] => by
    simp only [pmul, padd_ev, pev_map, pev]
    grind
  | a :: b :: f => by
    simp only [pmul, padd_ev, pev_map]
    have := pmul_ev x g (b :: f)
    simp only [pmul, padd_ev, pev_map] at this
    simp only [pev, padd_ev, pev_map] at this ⊢
    grind
theorem pmul_len (g : List Int) (hg : 0 < g.length) : ∀ f : List Int, 0 < f.length → (pmul f g).length + 1 = f.length + g.length
  | [a], _ => by
    simp only [pmul, padd_len, List.length_map, List.length_nil, List.length_cons]
    omega
  | a :: b :: f, _ => by
    have := pmul_len g hg (b :: f) (by simp)
    simp only [pmul, padd_len, List.length_map, List.length_cons] at this ⊢
    omega
theorem pmul_prod {f g : List Int} (hf : 0 < f.length) (hg : 0 < g.length) : IsProd f g (pmul f g) := ⟨pmul_len g hg f hf, fun x => pmul_ev x g f⟩
def pdiv (q : Int) (f : List Int) : List Int := f.map (· / q)
theorem pdiv_back {q : Int} : ∀ {f : List Int}, (∀ x, x ∈ f → x % q = 0) → f = (pdiv q f).map (q * ·)
  | [], _ => rfl
  | a :: l, hl => by
    have ih := pdiv_back (f := l) fun x hx => hl x (List.mem_cons_of_mem _ hx)
    unfold pdiv at ih ⊢
    rw [List.map_cons, List.map_cons, ← ih]
    congr 1
    have e := Int.mul_ediv_add_emod a q
    rw [hl a (List.mem_cons_self ..)] at e
    omega
theorem pdiv_ev {q : Int} {f : List Int} (h : ∀ x, x ∈ f → x % q = 0) (x : Int) : pev f x = q * pev (pdiv q f) x := by
  conv => lhs; rw [pdiv_back h]
  rw [pev_map]
end Dr
namespace Dr
end Dr
namespace Dr
structure Rows (M a R S r t s : Int) : Prop where
  sg : s = 1 ∨ s = -1
  r0 : 0 ≤ r
  rR : r < R
  st : 1 ≤ s * t
  sS : s * S ≤ 0
  det : R * t - r * S = s * M
  h1 : (R - a * S) % M = 0
  h2 : (r - a * t) % M = 0
end Dr
namespace Dr
def DegP (p : Int) (f : List Int) (m : Nat) : Prop := f.getD m 0 % p ≠ 0 ∧ ∀ j, m < j → f.getD j 0 % p = 0
theorem padd_getD : ∀ (f g : List Int) (j : Nat), (padd f g).getD j 0 = f.getD j 0 + g.getD j 0
  | [], g, j => by simp [padd]
  | a :: f, [], j => by simp [padd]
  | a :: f, b :: g, 0 => by simp [padd]
  | a :: f, b :: g, j + 1 => by
    have := padd_getD f g j
    simpa [padd] using this
theorem map_getD (k : Int) (f : List Int) (j : Nat) : (f.map (k * ·)).getD j 0 = k * f.getD j 0 := by
  rw [List.getD_eq_getElem?_getD, List.getD_eq_getElem?_getD, List.getElem?_map]
  cases f[j]? <;> simp
theorem DegP.zero {p r : Int} {f : List Int} (h : DegP p f 0) : pev f r % p ≠ 0 := by
  intro z
  apply h.1
  have : ∀ (g : List Int), (∀ j, 0 < j → g.getD j 0 % p = 0) → (pev g r - g.getD 0 0) % p = 0 := by
    intro g
    induction g with
    | nil => intro _; simp [pev]
    | cons a g ih =>
      intro hg
      have hg' : ∀ j, g.getD j 0 % p = 0 := fun j => by
        have := hg (j + 1) (by omega)
        simpa using this
      have h1 := ih fun j _ => hg' j
      have h2 : pev g r % p = 0 := by
        have := dvd_add_of h1 (hg' 0)
        rwa [Int.sub_add_cancel] at this
      have e : pev (a :: g) r - (a :: g).getD 0 0 = r * pev g r := by
        simp only [pev]
        simp
        omega
      rw [e]
      exact dvd_mul_l r h2
  have h1 := this f h.2
  have h2 := dvd_sub_of z h1
  rwa [show pev f r - (pev f r - f.getD 0 0) = f.getD 0 0 by omega] at h2
end Dr
namespace Dr
def InB (p x : Int) (b : Int × Nat) : Prop := (x - b.1) % p ^ b.2 = 0
end Dr
namespace Dr
end Dr
namespace Dr
def l1 : List Int → Nat
  | [] => 0
  | a :: f => a.natAbs + l1 f
def sn (r q : Int) : List Int → List Int
  | [] => []
  | a :: f => padd [a] (padd ((sn r q f).map (r * ·)) (0 :: (sn r q f).map (q * ·)))
end Dr
namespace Dr
instance (p x : Int) (b : Int × Nat) : Decidable (InB p x b) := inferInstanceAs (Decidable ((x - b.1) % p ^ b.2 = 0))
def Within (p : Int) (d b : Int × Nat) : Prop := b.2 ≤ d.2 ∧ (d.1 - b.1) % p ^ b.2 = 0
instance (p : Int) (d b : Int × Nat) : Decidable (Within p d b) := inferInstanceAs (Decidable (_ ∧ _))
end Dr
namespace Dr
def Stp (a b : Int × Int) : Prop := a.2 * b.1 < b.2 * a.1
def Par (a b : Int × Int) : Prop := a.2 * b.1 = b.2 * a.1
instance (a b : Int × Int) : Decidable (Stp a b) := inferInstanceAs (Decidable (_ < _))
instance (a b : Int × Int) : Decidable (Par a b) := inferInstanceAs (Decidable (_ = _))
end Dr
namespace Dr
end Dr
namespace Dr
end Dr
namespace Dr
end Dr
namespace Dr
end Dr
namespace Dr
end Dr
namespace Dr
end Dr
namespace Dr
def Un (p : Int) (F : List Int) : Prop := 0 < F.length ∧ ∀ y, pev F y % p ≠ 0
def hits (p r : Int) (W : List (Int × Int)) : List (Int × Int) := W.filter fun w => decide ((w.2 * r - w.1) % p = 0)
end Dr
namespace Dr
def vl (p : Int) (N : Nat) (β : Int → Int) (a : Int) (e : Nat) (w : Int × Int) : Int := (a + p ^ e * (w.1 * β w.2)) % p ^ N
theorem emod_same {x y q : Int} (h : (x - y) % q = 0) : x % q = y % q := Int.emod_emod_of_dvd x (Int.dvd_refl q) ▸ (Int.emod_emod_of_dvd y (Int.dvd_refl q) ▸ (by
  obtain ⟨k, e⟩ := Int.dvd_of_emod_eq_zero h
  rw [show x = y + q * k by omega, Int.add_mul_emod_self_left]))
end Dr
namespace Dr
theorem same_of {p x y : Int} {M : Nat} (hx : 0 ≤ x ∧ x < p ^ M) (hy : 0 ≤ y ∧ y < p ^ M) (h : (x - y) % p ^ M = 0) : x = y := by
  have := emod_same h
  rwa [Int.emod_eq_of_lt hx.1 hx.2, Int.emod_eq_of_lt hy.1 hy.2] at this
def lv (p : Int) (N : Nat) (a : Int) (e : Nat) (η : Nat → Int) : Int := (a + p ^ e * η (N - e)) % p ^ N
end Dr
namespace Dr
end Dr
namespace Dr
noncomputable def turn (p : Int) (b : Int) : Int := Classical.epsilon fun y => (b * y - 1) % p ^ 64 = 0
end Dr
namespace Dr
end Dr
namespace Dr
def PF (F : Int → Int) : Prop := ∃ k : List Int, ∀ x, F x = pev k x
theorem PF.of (k : List Int) : PF (pev k) := ⟨k, fun _ => rfl⟩
theorem PF.const (c : Int) : PF fun _ => c := ⟨[c], fun x => by simp [pev]⟩
theorem PF.add {F G : Int → Int} (hF : PF F) (hG : PF G) : PF fun x => F x + G x := by
  obtain ⟨a, ha⟩ := hF
  obtain ⟨b, hb⟩ := hG
  exact ⟨padd a b, fun x => by rw [padd_ev, ← ha, ← hb]⟩
theorem PF.mul {F G : Int → Int} (hF : PF F) (hG : PF G) : PF fun x => F x * G x := by
  obtain ⟨a, ha⟩ := hF
  obtain ⟨b, hb⟩ := hG
  exact ⟨pmul a b, fun x => by rw [pmul_ev, ← ha, ← hb]⟩
theorem PF.sub {F G : Int → Int} (hF : PF F) (hG : PF G) : PF fun x => F x - G x := by
  obtain ⟨k, hk⟩ := hF.add ((PF.const (-1)).mul hG)
  exact ⟨k, fun x => by rw [← hk]; show F x - G x = F x + -1 * G x; omega⟩
theorem PF.x : PF fun x => x := ⟨[0, 1], fun x => by simp [pev]⟩
def Cg (q : Int) (F G : Int → Int) : Prop := ∃ K, PF K ∧ ∀ x, F x - G x = q * K x
theorem Cg.of_eq {q : Int} {F G : Int → Int} (h : ∀ x, F x = G x) : Cg q F G := ⟨fun _ => 0, PF.const 0, fun x => by rw [h, Int.sub_self, Int.mul_zero]⟩
theorem Cg.refl {q : Int} (F : Int → Int) : Cg q F F := Cg.of_eq fun _ => rfl
theorem Cg.symm {q : Int} {F G : Int → Int} (h : Cg q F G) : Cg q G F := by
  obtain ⟨K, hK, e⟩ := h
  exact ⟨fun x => (-1) * K x, (PF.const (-1)).mul hK, fun x => by have := e x; generalize K x = k at *; grind⟩
theorem Cg.trans {q : Int} {F G H : Int → Int} (h : Cg q F G) (h' : Cg q G H) : Cg q F H := by
  obtain ⟨K, hK, e⟩ := h
  obtain ⟨L, hL, e'⟩ := h'
  exact ⟨fun x => K x + L x, hK.add hL, fun x => by have := e x; have := e' x; generalize K x = k at *; generalize L x = l at *; grind⟩
theorem Cg.add {q : Int} {F F' G G' : Int → Int} (h : Cg q F F') (h' : Cg q G G') : Cg q (fun x => F x + G x) (fun x => F' x + G' x) := by
  obtain ⟨K, hK, e⟩ := h
  obtain ⟨L, hL, e'⟩ := h'
  exact ⟨fun x => K x + L x, hK.add hL, fun x => by have := e x; have := e' x; generalize K x = k at *; generalize L x = l at *; grind⟩
theorem Cg.sub {q : Int} {F F' G G' : Int → Int} (h : Cg q F F') (h' : Cg q G G') : Cg q (fun x => F x - G x) (fun x => F' x - G' x) := by
  obtain ⟨K, hK, e⟩ := h
  obtain ⟨L, hL, e'⟩ := h'
  exact ⟨fun x => K x - L x, hK.sub hL, fun x => by have := e x; have := e' x; generalize K x = k at *; generalize L x = l at *; grind⟩
theorem Cg.mul {q : Int} {F F' G G' : Int → Int} (hF : PF F) (hG : PF G') (h : Cg q F F') (h' : Cg q G G') : Cg q (fun x => F x * G x) (fun x => F' x * G' x) := by
  obtain ⟨K, hK, e⟩ := h
  obtain ⟨L, hL, e'⟩ := h'
  refine ⟨fun x => F x * L x + K x * G' x, (hF.mul hL).add (hK.mul hG), fun x => ?_⟩
  have e1 := e x
  have e2 := e' x
  generalize K x = k at *
  generalize L x = l at *
  grind
theorem Cg.mulL {q : Int} {F G G' : Int → Int} (hF : PF F) (h : Cg q G G') : Cg q (fun x => F x * G x) (fun x => F x * G' x) := by
  obtain ⟨L, hL, e⟩ := h
  exact ⟨fun x => F x * L x, hF.mul hL, fun x => by have := e x; generalize L x = l at *; grind⟩
theorem Cg.mulR {q : Int} {F F' G : Int → Int} (hG : PF G) (h : Cg q F F') : Cg q (fun x => F x * G x) (fun x => F' x * G x) := by
  obtain ⟨L, hL, e⟩ := h
  exact ⟨fun x => L x * G x, hL.mul hG, fun x => by have := e x; generalize L x = l at *; grind⟩
theorem Cg.down {q r : Int} {F G : Int → Int} (h : Cg q F G) (hr : q % r = 0) : Cg r F G := by
  obtain ⟨K, hK, e⟩ := h
  obtain ⟨c, ec⟩ := Int.dvd_of_emod_eq_zero hr
  exact ⟨fun x => c * K x, (PF.const c).mul hK, fun x => by rw [e x, ec, Int.mul_assoc]⟩
theorem Cg.up {q r : Int} {F G : Int → Int} (h : Cg r F G) : Cg (q * r) (fun x => q * F x) (fun x => q * G x) := by
  obtain ⟨K, hK, e⟩ := h
  exact ⟨K, hK, fun x => by have := e x; generalize K x = k at *; grind⟩
theorem Cg.cancel {q r : Int} {F G : Int → Int} (hq : q ≠ 0) (h : Cg (q * r) (fun x => q * F x) (fun x => q * G x)) : Cg r F G := by
  obtain ⟨K, hK, e⟩ := h
  refine ⟨K, hK, fun x => Int.eq_of_mul_eq_mul_left hq ?_⟩
  have := e x
  simp only at this
  generalize K x = k at *
  grind
theorem pev_pad (f : List Int) (n : Nat) (x : Int) : pev (f ++ List.replicate n 0) x = pev f x := by
  rw [pev_append, pev_zeros]
  simp
theorem getD_pad (f : List Int) (n i : Nat) : (f ++ List.replicate n 0).getD i 0 = f.getD i 0 := by
  rw [List.getD_eq_getElem?_getD, List.getD_eq_getElem?_getD]
  by_cases c : i < f.length
  · rw [List.getElem?_append_left c]
  · rw [List.getElem?_append_right (by omega), List.getElem?_eq_none (l := f) (by omega)]
    by_cases c2 : i - f.length < n
    · rw [List.getElem?_replicate, if_pos c2]
      rfl
    · rw [List.getElem?_eq_none (by rw [List.length_replicate]; omega)]
theorem pev_getD {f g : List Int} (h : ∀ x, pev f x = pev g x) (i : Nat) : f.getD i 0 = g.getD i 0 := by
  have := pev_inj (f := f ++ List.replicate (g.length - f.length) 0) (g := g ++ List.replicate (f.length - g.length) 0) (by simp only [List.length_append, List.length_replicate]; omega) (fun x => by rw [pev_pad, pev_pad, h])
  rw [← getD_pad f (g.length - f.length), this, getD_pad]
def Cf (q : Int) (f g : List Int) : Prop := ∀ i, (f.getD i 0 - g.getD i 0) % q = 0
theorem Cg.cf {q : Int} {f g : List Int} (h : Cg q (pev f) (pev g)) : Cf q f g := by
  obtain ⟨K, ⟨k, hk⟩, e⟩ := h
  intro i
  have := pev_getD (f := f) (g := padd g (k.map (q * ·))) (fun x => by rw [padd_ev, pev_map, ← hk]; have := e x; omega) i
  rw [this, padd_getD, map_getD, show g.getD i 0 + q * k.getD i 0 - g.getD i 0 = q * k.getD i 0 by omega]
  simp
theorem Cf.cg {q : Int} : ∀ {f g : List Int}, Cf q f g → Cg q (pev f) (pev g)
  | [], [], _ => Cg.refl _
  | a :: f, [], h => by
    have h0 := h 0
    have h1 : Cf q f [] := fun i => by have := h (i + 1); simpa using this
    obtain ⟨K, hK, e⟩ := Cf.cg h1
    obtain ⟨c, ec⟩ := Int.dvd_of_emod_eq_zero h0
    simp at ec
    refine ⟨fun x => c + x * K x, (PF.const c).add (PF.x.mul hK), fun x => ?_⟩
    have := e x
    simp only [pev] at this ⊢
    generalize K x = k at *
    grind
  | [], a :: g, h => by
    have h0 := h 0
    have h1 : Cf q [] g := fun i => by have := h (i + 1); simpa using this
    obtain ⟨K, hK, e⟩ := Cf.cg h1
    obtain ⟨c, ec⟩ := Int.dvd_of_emod_eq_zero h0
    simp at ec
    refine ⟨fun x => c + x * K x, (PF.const c).add (PF.x.mul hK), fun x => ?_⟩
    have := e x
    simp only [pev] at this ⊢
    generalize K x = k at *
    grind
  | a :: f, b :: g, h => by
    have h0 := h 0
    have h1 : Cf q f g := fun i => by have := h (i + 1); simpa using this
    obtain ⟨K, hK, e⟩ := Cf.cg h1
    obtain ⟨c, ec⟩ := Int.dvd_of_emod_eq_zero h0
    simp at ec
    refine ⟨fun x => c + x * K x, (PF.const c).add (PF.x.mul hK), fun x => ?_⟩
    have := e x
    simp only [pev] at this ⊢
    generalize K x = k at *
    grind
theorem Cf.rests (q : Int) (f : List Int) : Cf q (f.map (· % q)) f := fun i => by
  rw [List.getD_eq_getElem?_getD, List.getD_eq_getElem?_getD, List.getElem?_map]
  cases h : f[i]? with
  | none => simp
  | some x => simpa using rest_sub q x
theorem Cf.symm {q : Int} {f g : List Int} (h : Cf q f g) : Cf q g f := fun i => by
  have := dvd_mul_l (-1) (h i)
  rwa [show -1 * (f.getD i 0 - g.getD i 0) = g.getD i 0 - f.getD i 0 by omega] at this
theorem Cf.trans {q : Int} {f g k : List Int} (h : Cf q f g) (h' : Cf q g k) : Cf q f k := fun i => by
  have := dvd_add_of (h i) (h' i)
  rwa [show f.getD i 0 - g.getD i 0 + (g.getD i 0 - k.getD i 0) = f.getD i 0 - k.getD i 0 by omega] at this
theorem Cf.refl (q : Int) (f : List Int) : Cf q f f := fun i => by rw [Int.sub_self]; simp
theorem pmul_top : ∀ (f g : List Int) (n m : Nat), f.length = n + 1 → g.length = m + 1 → (pmul f g).getD (n + m) 0 = f.getD n 0 * g.getD m 0
  | [], _, _, _, h, _ => by simp at h
  | [a], g, n, m, h, hg => by
    have : n = 0 := by simpa using h.symm
    subst this
    show (padd (g.map (a * ·)) []).getD (0 + m) 0 = _
    rw [padd_getD, map_getD, Nat.zero_add]
    simp
  | a :: b :: f, g, n, m, h, hg => by
    obtain ⟨k, rfl⟩ : ∃ k, n = k + 1 := ⟨n - 1, by simp at h; omega⟩
    have ih := pmul_top (b :: f) g k m (by simp at h ⊢; omega) hg
    show (padd (g.map (a * ·)) (0 :: pmul (b :: f) g)).getD (k + 1 + m) 0 = _
    rw [padd_getD, map_getD, show k + 1 + m = (k + m) + 1 by omega]
    have e : g.getD (k + m + 1) 0 = 0 := by
      rw [List.getD_eq_getElem?_getD, List.getElem?_eq_none (by omega)]
      rfl
    rw [e]
    simp only [List.getD_cons_succ, Int.mul_zero, Int.zero_add]
    exact ih
theorem getD_len {f : List Int} {i : Nat} (h : f.length ≤ i) : f.getD i 0 = 0 := by
  rw [List.getD_eq_getElem?_getD, List.getElem?_eq_none h]
  rfl
theorem DegP.lt {p : Int} {f : List Int} {m : Nat} (h : DegP p f m) : m < f.length := by
  refine Decidable.byContradiction fun z => h.1 ?_
  rw [getD_len (by omega)]
  simp
theorem Cf.take {p : Int} {f : List Int} {m : Nat} (h : ∀ j, m < j → f.getD j 0 % p = 0) : Cf p (f.take (m + 1)) f := fun i => by
  by_cases c : i < m + 1
  · have : (f.take (m + 1)).getD i 0 = f.getD i 0 := by
      rw [List.getD_eq_getElem?_getD, List.getD_eq_getElem?_getD, List.getElem?_take_of_lt c]
    rw [this, Int.sub_self]
    simp
  · rw [getD_len (by rw [List.length_take]; omega)]
    have := dvd_mul_l (-1) (h i (by omega))
    rwa [show -1 * f.getD i 0 = 0 - f.getD i 0 by omega] at this
theorem Cf.deg {p : Int} {f g : List Int} {m : Nat} (h : Cf p f g) (hf : DegP p f m) : DegP p g m := by
  have e : ∀ i, f.getD i 0 % p = g.getD i 0 % p := fun i => emod_same (h i)
  exact ⟨by rw [← e]; exact hf.1, fun j hj => by rw [← e]; exact hf.2 j hj⟩
theorem DegP.mul {p : Int} (hp : p ∈ primes) {f g : List Int} {n m : Nat} (hf : DegP p f n) (hg : DegP p g m) : DegP p (pmul f g) (n + m) := by
  have lf := hf.lt
  have lg := hg.lt
  have l1 : (f.take (n + 1)).length = n + 1 := by rw [List.length_take]; omega
  have l2 : (g.take (m + 1)).length = m + 1 := by rw [List.length_take]; omega
  have c1 := (Cf.take hf.2).cg
  have c2 := (Cf.take hg.2).cg
  have cc : Cf p (pmul (f.take (n + 1)) (g.take (m + 1))) (pmul f g) := Cg.cf (by
    have := Cg.mul (PF.of _) (PF.of _) c1 c2
    refine (Cg.of_eq fun x => pmul_ev _ _ _).trans (this.trans (Cg.of_eq fun x => (pmul_ev _ _ _).symm)))
  refine cc.deg ⟨?_, fun j hj => ?_⟩
  · rw [pmul_top _ _ n m l1 l2]
    have e1 : (f.take (n + 1)).getD n 0 = f.getD n 0 := by rw [List.getD_eq_getElem?_getD, List.getD_eq_getElem?_getD, List.getElem?_take_of_lt (by omega)]
    have e2 : (g.take (m + 1)).getD m 0 = g.getD m 0 := by rw [List.getD_eq_getElem?_getD, List.getD_eq_getElem?_getD, List.getElem?_take_of_lt (by omega)]
    rw [e1, e2]
    exact fun z => hg.1 (euclid hp z hf.1)
  · have := pmul_len (g.take (m + 1)) (by omega) (f.take (n + 1)) (by omega)
    rw [getD_len (by omega)]
    simp
theorem deg_ex {p : Int} : ∀ (n : Nat) (f : List Int), f.length ≤ n → ¬ Cf p f [] → ∃ m, DegP p f m
  | 0, f, hl, h => absurd (fun i => by rw [getD_len (f := f) (by omega)]; simp) h
  | n + 1, f, hl, h => by
    by_cases c : f.getD n 0 % p = 0
    · have c1 : Cf p (f.take n) f := by
        cases n with
        | zero =>
            intro i
            rw [List.take_zero, List.getD_nil]
            have : f.getD i 0 % p = 0 := by
              by_cases w : i = 0
              · rw [w]; exact c
              · rw [getD_len (by omega)]; simp
            have := dvd_mul_l (-1) this
            rwa [show -1 * f.getD i 0 = 0 - f.getD i 0 by omega] at this
        | succ k =>
            refine Cf.take fun j hj => ?_
            by_cases w : j = k + 1
            · rw [w]; exact c
            · rw [getD_len (by omega)]; simp
      obtain ⟨m, hm⟩ := deg_ex n (f.take n) (by rw [List.length_take]; omega) (fun z => h (c1.symm.trans z))
      exact ⟨m, c1.deg hm⟩
    · exact ⟨n, c, fun j hj => by rw [getD_len (by omega)]; simp⟩
theorem low_zero {p : Int} (hp : p ∈ primes) {k g r : List Int} {m : Nat} (hg : DegP p g m) (h : Cg p (fun x => pev k x * pev g x) (pev r)) (hr : ∀ i, m ≤ i → r.getD i 0 % p = 0) : Cf p k [] ∧ Cf p r [] := by
  have cc : Cf p (pmul k g) r := Cg.cf ((Cg.of_eq fun x => pmul_ev _ _ _).trans h)
  have hk : Cf p k [] := by
    refine Classical.byContradiction fun z => ?_
    obtain ⟨n, hn⟩ := deg_ex _ k (Nat.le_refl _) z
    exact (cc.deg (hn.mul hp hg)).1 (hr _ (by omega))
  refine ⟨hk, cc.symm.trans (Cg.cf ?_)⟩
  have := Cg.mulR (PF.of g) hk.cg
  refine (Cg.of_eq fun x => pmul_ev _ _ _).trans (this.trans (Cg.of_eq fun x => by simp [pev]))
def Bez (p : Int) (g h : List Int) : Prop := ∃ s t : List Int, Cg p (fun x => pev s x * pev g x + pev t x * pev h x) fun _ => 1
theorem Bez.swap {p : Int} {g h : List Int} (b : Bez p g h) : Bez p h g := by
  obtain ⟨s, t, e⟩ := b
  exact ⟨t, s, (Cg.of_eq fun x => Int.add_comm _ _).trans e⟩
theorem Bez.cong {p : Int} {g h g' h' : List Int} (b : Bez p g h) (hg : Cf p g' g) (hh : Cf p h' h) : Bez p g' h' := by
  obtain ⟨s, t, e⟩ := b
  exact ⟨s, t, ((Cg.mulL (PF.of s) hg.cg).add (Cg.mulL (PF.of t) hh.cg)).trans e⟩
theorem not_bez {p : Int} (hp : p ∈ primes) {g h r a c : List Int} {m : Nat} (hr : DegP p r m) (hm : 1 ≤ m) (hg : Cg p (pev g) fun x => pev a x * pev r x) (hh : Cg p (pev h) fun x => pev c x * pev r x) : ¬ Bez p g h := by
  rintro ⟨s, t, e⟩
  have p2 := primes_ge hp
  have e1 : Cg p (fun x => pev (padd (pmul s a) (pmul t c)) x * pev r x) (pev [1]) := by
    refine (Cg.of_eq fun x => ?_).trans (((Cg.mulL (PF.of s) hg).add (Cg.mulL (PF.of t) hh)).symm.trans (e.trans (Cg.of_eq fun x => by simp [pev])))
    rw [padd_ev, pmul_ev, pmul_ev]
    grind
  have := (low_zero hp hr e1 (fun i hi => by rw [getD_len (by simp; omega)]; simp)).2 0
  have h2 : (1 : Int) % p = 0 := this
  rw [Int.emod_eq_of_lt (by omega) (by omega)] at h2
  exact absurd h2 (by decide)
end Dr
namespace Dr
theorem zip_ev (q x : Int) : ∀ (f g : List Int), f.length = g.length → pev (List.zipWith (fun a b => a + q * b) f g) x = pev f x + q * pev g x
  | [], [], _ => by simp [pev]
  | a :: f, b :: g, h => by
    have := zip_ev q x f g (by simpa using h)
    simp only [List.zipWith_cons_cons, pev]
    rw [this]
    grind
  | [], _ :: _, h => by simp at h
  | _ :: _, [], h => by simp at h
structure Parts (p : Int) (N : Nat) (f g h G H : List Int) : Prop where
  lg : G.length = g.length
  lh : H.length = h.length
  rg : ∀ x, x ∈ G → 0 ≤ x ∧ x < p ^ N
  rh : ∀ x, x ∈ H → 0 ≤ x ∧ x < p ^ N
  tg : G.getLast? = some 1
  th : H.getLast? = some 1
  cg : Cf p G g
  ch : Cf p H h
  prod : Cg (p ^ N) (pev f) fun x => pev G x * pev H x
structure May (p : Int) (N : Int) (f g h : List Int) : Prop where
  n : 1 ≤ N
  lg : 2 ≤ g.length
  lh : 2 ≤ h.length
  lf : f.length + 1 = g.length + h.length
  tf : f.getLast? = some 1
  tg : g.getLast? = some 1
  th : h.getLast? = some 1
  prod : Cg p (pev f) fun x => pev g x * pev h x
theorem last_map {f : List Int} {x : Int} (φ : Int → Int) (h : f.getLast? = some x) : (f.map φ).getLast? = some (φ x) := by
  rw [List.getLast?_map, h]
  rfl
theorem Parts.start {p N : Int} {f g h : List Int} (hp : 2 ≤ p) (m : May p N f g h) : Parts p 1 f g h (g.map (· % p)) (h.map (· % p)) := by
  have one : (1 : Int) % p = 1 := Int.emod_eq_of_lt (by omega) (by omega)
  have rng : ∀ (l : List Int) x, x ∈ l.map (· % p) → 0 ≤ x ∧ x < p ^ 1 := fun l x hx => by
    obtain ⟨y, _, rfl⟩ := List.mem_map.mp hx
    rw [Int.pow_one]
    exact ⟨Int.emod_nonneg _ (by omega), Int.emod_lt_of_pos _ (by omega)⟩
  refine ⟨List.length_map .., List.length_map .., rng g, rng h, ?_, ?_, Cf.rests p g, Cf.rests p h, ?_⟩
  · have := last_map (· % p) m.tg
    rwa [one] at this
  · have := last_map (· % p) m.th
    rwa [one] at this
  · rw [Int.pow_one]
    exact m.prod.trans (Cg.mul (PF.of _) (PF.of _) (Cf.rests p g).symm.cg (Cf.rests p h).symm.cg)
theorem getLast_zip {φ : Int → Int → Int} {f g : List Int} {a b : Int} (hl : f.length = g.length) (hf : f.getLast? = some a) (hg : g.getLast? = some b) : (List.zipWith φ f g).getLast? = some (φ a b) := by
  rw [List.getLast?_eq_getElem?] at *
  rw [List.getElem?_zipWith, List.length_zipWith, ← hl, Nat.min_self, hf, hl, hg]
theorem zip_range {p : Int} {k : Nat} (hp : 2 ≤ p) {f g : List Int} (hf : ∀ x, x ∈ f → 0 ≤ x ∧ x < p ^ k) (hg : ∀ x, x ∈ g → 0 ≤ x ∧ x < p) : ∀ x, x ∈ List.zipWith (fun a b => a + p ^ k * b) f g → 0 ≤ x ∧ x < p ^ (k + 1) := fun x hx => by
  obtain ⟨i, hi, rfl⟩ := List.getElem_of_mem hx
  have hi' := hi
  rw [List.length_zipWith] at hi'
  have l1 : i < f.length := by omega
  have l2 : i < g.length := by omega
  rw [List.getElem_zipWith]
  have h1 := hf _ (List.getElem_mem l1)
  have h2 := hg _ (List.getElem_mem l2)
  have q0 := pow_pos hp k
  generalize f[i] = a at *
  generalize g[i] = b at *
  have m0 : 0 ≤ p ^ k * b := Int.mul_nonneg (by omega) h2.1
  have m1 : p ^ k * b ≤ p ^ k * (p - 1) := Int.mul_le_mul_of_nonneg_left (by omega) (by omega)
  rw [Int.pow_succ]
  rw [Int.mul_sub, Int.mul_one] at m1
  omega
theorem Parts.step {p : Int} {k : Nat} {f g h G H m M u v : List Int} (hp : 2 ≤ p) (hk : 1 ≤ k) (P : Parts p k f g h G H) (hM : ∀ x, pev f x - pev G x * pev H x = p ^ k * pev M x) (hm : Cf p m M)
    (hu : u.length = g.length) (hv : v.length = h.length) (ru : ∀ x, x ∈ u → 0 ≤ x ∧ x < p) (rv : ∀ x, x ∈ v → 0 ≤ x ∧ x < p) (tu : u.getLast? = some 0) (tv : v.getLast? = some 0)
    (huv : Cg p (pev m) fun x => pev u x * pev h x + pev v x * pev g x) :
    Parts p (k + 1) f g h (List.zipWith (fun a b => a + p ^ k * b) G u) (List.zipWith (fun a b => a + p ^ k * b) H v) := by
  have lgu : G.length = u.length := by rw [P.lg, hu]
  have lhv : H.length = v.length := by rw [P.lh, hv]
  have dvp : p ^ k % p = 0 := by
    have := pow_dv (p := p) hk
    rwa [Int.pow_one] at this
  have cgz : ∀ {a b : List Int}, a.length = b.length → Cf p (List.zipWith (fun a b => a + p ^ k * b) a b) a := fun {a b} hl => Cg.cf (by
    refine ⟨fun x => p ^ (k - 1) * pev b x, (PF.const _).mul (PF.of b), fun x => ?_⟩
    rw [zip_ev _ _ _ _ hl]
    have e : p ^ k = p * p ^ (k - 1) := by
      rw [Int.mul_comm, ← Int.pow_succ]
      congr 1
      omega
    rw [e]
    generalize p ^ (k - 1) = A
    grind)
  refine ⟨?_, ?_, zip_range hp P.rg ru, zip_range hp P.rh rv, ?_, ?_, (cgz lgu).trans P.cg, (cgz lhv).trans P.ch, ?_⟩
  · rw [List.length_zipWith, ← lgu, Nat.min_self]
    exact P.lg
  · rw [List.length_zipWith, ← lhv, Nat.min_self]
    exact P.lh
  · rw [getLast_zip lgu P.tg tu]
    simp
  · rw [getLast_zip lhv P.th tv]
    simp
  · -- m = u h + v g by p, so M = u H + v G by p
    have e1 : Cg p (pev M) fun x => pev u x * pev H x + pev v x * pev G x :=
      hm.symm.cg.trans (huv.trans ((Cg.mulL (PF.of u) P.ch.symm.cg).add (Cg.mulL (PF.of v) P.cg.symm.cg)))
    have e2 := Cg.up (q := p ^ k) e1
    rw [← Int.pow_succ] at e2
    obtain ⟨K, hK, e⟩ := e2
    refine ⟨fun x => K x - p ^ (k - 1) * (pev u x * pev v x), hK.sub ((PF.const _).mul ((PF.of u).mul (PF.of v))), fun x => ?_⟩
    have e3 : p ^ k * pev M x - p ^ k * (pev u x * pev H x + pev v x * pev G x) = p ^ (k + 1) * K x := e x
    rw [← hM] at e3
    show pev f x - pev (List.zipWith (fun a b => a + p ^ k * b) G u) x * pev (List.zipWith (fun a b => a + p ^ k * b) H v) x = p ^ (k + 1) * (K x - p ^ (k - 1) * (pev u x * pev v x))
    rw [zip_ev _ _ _ _ lgu, zip_ev _ _ _ _ lhv]
    have e4 : p ^ (k + 1) * p ^ (k - 1) = p ^ k * p ^ k := by rw [← pow_add', ← pow_add']; congr 1; omega
    generalize K x = y at *
    generalize p ^ (k + 1) = A at *
    generalize p ^ (k - 1) = B at *
    generalize p ^ k = C at *
    grind
theorem Parts.uniq {p : Int} {N : Nat} {f g h G H G' H' : List Int} (hp : p ∈ primes) (hN : 1 ≤ N) (hg : g.getLast? = some 1) (hg2 : 2 ≤ g.length) (b : Bez p g h) (P : Parts p N f g h G H) (P' : Parts p N f g h G' H') : G = G' ∧ H = H' := by
  have p2 := primes_ge hp
  have p2' : 2 ≤ p := by omega
  have lst : ∀ {l : List Int}, l.getLast? = some 1 → ∀ i, l.length ≤ i + 1 → l.getD i 0 = if i + 1 = l.length then 1 else 0 := fun {l} hl i hi => by
    rw [List.getLast?_eq_getElem?] at hl
    split
    · rename_i c
      rw [List.getD_eq_getElem?_getD, show i = l.length - 1 by omega, hl]
      rfl
    · exact getD_len (by omega)
  have dg : ∀ {l : List Int}, l.getLast? = some 1 → 2 ≤ l.length → DegP p l (l.length - 1) := fun {l} hl h2 => by
    refine ⟨?_, fun j hj => by rw [getD_len (by omega)]; simp⟩
    rw [lst hl _ (by omega), if_pos (by omega), Int.emod_eq_of_lt (by omega) (by omega)]
    decide
  have all : ∀ j, 1 ≤ j → j ≤ N → Cf (p ^ j) G G' ∧ Cf (p ^ j) H H' := by
    intro j
    induction j with
    | zero => intro h; omega
    | succ j ih =>
      intro _ hjN
      by_cases j0 : j = 0
      · subst j0
        rw [Nat.zero_add, Int.pow_one]
        exact ⟨P.cg.trans P'.cg.symm, P.ch.trans P'.ch.symm⟩
      · obtain ⟨i1, i2⟩ := ih (by omega) (by omega)
        obtain ⟨A, ⟨a, ha⟩, e1⟩ := i1.cg
        obtain ⟨B, ⟨c, hc⟩, e2⟩ := i2.cg
        have q0 := pow_pos p2' j
        have pr : Cg (p ^ (j + 1)) (fun x => pev G x * pev H x) (fun x => pev G' x * pev H' x) := (P.prod.symm.trans P'.prod).down (pow_dv hjN)
        have h0 : Cg p (fun x => pev a x * pev h x + pev c x * pev g x) (fun _ => 0) := by
          have h1 : Cg p (fun x => pev a x * pev H x + pev c x * pev G' x) (fun _ => 0) := by
            refine Cg.cancel (q := p ^ j) (by omega) ?_
            rw [← Int.pow_succ]
            refine (Cg.of_eq fun x => ?_).trans ((pr.sub (Cg.refl fun x => pev G' x * pev H' x)).trans (Cg.of_eq fun x => by rw [Int.sub_self, Int.mul_zero]))
            have := e1 x
            have := e2 x
            rw [ha] at *
            rw [hc] at *
            generalize p ^ j = C at *
            grind
          exact ((Cg.mulL (PF.of a) P.ch.symm.cg).add (Cg.mulL (PF.of c) P'.cg.symm.cg)).trans h1
        obtain ⟨s, t, bz⟩ := b
        have h2 : Cg p (fun x => pev (padd (pmul a s) ((pmul t c).map (-1 * ·))) x * pev g x) (pev a) := by
          have h3 := Cg.mulL (PF.of a) bz
          have h4 := Cg.mulL (PF.of t) h0
          refine ((Cg.of_eq fun x => ?_).trans (h3.sub h4)).trans (Cg.of_eq fun x => by rw [Int.mul_one, Int.mul_zero, Int.sub_zero])
          rw [padd_ev, pev_map, pmul_ev, pmul_ev]
          grind
        have az : ∀ i, g.length - 1 ≤ i → a.getD i 0 % p = 0 := fun i hi => by
          have ei := pev_getD (f := G) (g := padd G' (a.map (p ^ j * ·))) (fun x => by rw [padd_ev, pev_map, ← ha]; have := e1 x; omega) i
          rw [padd_getD, map_getD, lst P.tg i (by rw [P.lg]; omega), lst P'.tg i (by rw [P'.lg]; omega), P.lg, P'.lg] at ei
          have : p ^ j * a.getD i 0 = 0 := by omega
          rcases Int.mul_eq_zero.mp this with z | z
          · omega
          · rw [z]; simp
        have A0 := (low_zero hp (dg hg hg2) h2 az).2
        have h5 : Cg p (fun x => pev c x * pev g x) (pev []) := by
          have := h0.sub (Cg.mulR (PF.of h) A0.cg)
          refine ((Cg.of_eq fun x => ?_).trans this).trans (Cg.of_eq fun x => by simp [pev])
          omega
        have C0 := (low_zero hp (dg hg hg2) h5 (fun i _ => by simp)).1
        have lift : ∀ {X Y a : List Int} {A : Int → Int}, (∀ x, A x = pev a x) → (∀ x, pev X x - pev Y x = p ^ j * A x) → Cf p a [] → Cf (p ^ (j + 1)) X Y := fun {X Y a A} ha e0 a0 => Cg.cf (by
          have := Cg.up (q := p ^ j) a0.cg
          rw [← Int.pow_succ] at this
          obtain ⟨K, hK, e⟩ := this
          exact ⟨K, hK, fun x => by rw [e0, ha, ← e]; simp [pev]⟩)
        exact ⟨lift ha e1 A0, lift hc e2 C0⟩
  obtain ⟨c1, c2⟩ := all N hN (Nat.le_refl _)
  have fin : ∀ {X Y : List Int}, X.length = Y.length → Cf (p ^ N) X Y → (∀ x, x ∈ X → 0 ≤ x ∧ x < p ^ N) → (∀ x, x ∈ Y → 0 ≤ x ∧ x < p ^ N) → X = Y := fun {X Y} hl hc hx hy => by
    refine List.ext_getElem hl fun i h1 h2 => ?_
    have := hc i
    rw [List.getD_eq_getElem?_getD, List.getD_eq_getElem?_getD, List.getElem?_eq_getElem h1, List.getElem?_eq_getElem h2] at this
    exact same_of (hx _ (List.getElem_mem h1)) (hy _ (List.getElem_mem h2)) this
  exact ⟨fin (by rw [P.lg, P'.lg]) c1 P.rg P'.rg, fin (by rw [P.lh, P'.lh]) c2 P.rh P'.rh⟩
theorem Parts.swap {p : Int} {N : Nat} {f g h G H : List Int} (P : Parts p N f g h G H) : Parts p N f h g H G :=
  ⟨P.lh, P.lg, P.rh, P.rg, P.th, P.tg, P.ch, P.cg, P.prod.trans (Cg.of_eq fun x => Int.mul_comm _ _)⟩
theorem May.swap {p N : Int} {f g h : List Int} (m : May p N f g h) : May p N f h g :=
  ⟨m.n, m.lh, m.lg, by have := m.lf; omega, m.tf, m.th, m.tg, m.prod.trans (Cg.of_eq fun x => Int.mul_comm _ _)⟩
end Dr
namespace Dr
structure Divd (p : Int) (f g : List Int) (m : Nat) (Q r : List Int) : Prop where
  lq : Q.length = f.length - m
  lr : r.length = min m f.length
  rq : ∀ x, x ∈ Q → 0 ≤ x ∧ x < p
  rr : ∀ x, x ∈ r → 0 ≤ x ∧ x < p
  eq : Cg p (pev f) fun x => pev Q x * pev g x + pev r x
theorem Divd.top {p : Int} {f g Q r : List Int} {m : Nat} (hp : p ∈ primes) (h : Divd p f g m Q r) (hg : DegP p g m) (hl : m < f.length) (ht : f.getD (f.length - 1) 0 % p = 0) : Q.getLast? = some 0 := by
  have lq := h.lq
  have lr := h.lr
  have l1 : Q.length - 1 < Q.length := by omega
  rw [List.getLast?_eq_getElem?, List.getElem?_eq_getElem l1]
  have rg := h.rq _ (List.getElem_mem l1)
  have e0 : Q.getD (Q.length - 1) 0 = Q[Q.length - 1] := by rw [List.getD_eq_getElem?_getD, List.getElem?_eq_getElem l1]; rfl
  have z : Q.getD (Q.length - 1) 0 % p = 0 := by
    refine Decidable.byContradiction fun c => ?_
    have dq : DegP p Q (Q.length - 1) := ⟨c, fun j hj => by rw [getD_len (by omega)]; simp⟩
    have dm := dq.mul hp hg
    have cc : Cf p f (padd (pmul Q g) r) := Cg.cf (h.eq.trans (Cg.of_eq fun x => by rw [padd_ev, pmul_ev]))
    have := cc (f.length - 1)
    rw [padd_getD, getD_len (f := r) (by omega), Int.add_zero] at this
    apply dm.1
    rw [show Q.length - 1 + m = f.length - 1 by omega]
    have := dvd_sub_of ht this
    rwa [show f.getD (f.length - 1) 0 - (f.getD (f.length - 1) 0 - (pmul Q g).getD (f.length - 1) 0) = (pmul Q g).getD (f.length - 1) 0 by omega] at this
  rw [e0, Int.emod_eq_of_lt rg.1 rg.2] at z
  rw [z]
structure Dv (p : Int) (f g : List Int) (m : Nat) (place : Int) (Q R : List Int) : Prop where
  lq : Q.length = f.length - m
  lr : R.length = f.length
  rq : ∀ x, x ∈ Q → 0 ≤ x ∧ x < p
  rr : ∀ x, x ∈ R → 0 ≤ x ∧ x < p
  zq : ∀ i : Nat, (i : Int) ≤ place → Q.getD i 0 = 0
  zr : ∀ i : Nat, place + m < (i : Int) → R.getD i 0 = 0
  eq : Cg p (pev f) fun x => pev Q x * pev g x + pev R x
theorem Dv.start {p : Int} {f g : List Int} {m : Nat} (hp : 2 ≤ p) : Dv p f g m ((f.length : Int) - 1 - m) (List.replicate (f.length - m) 0) (f.map (· % p)) := by
  refine ⟨by simp, by simp, fun x hx => ?_, fun x hx => ?_, fun i _ => ?_, fun i hi => getD_len (by rw [List.length_map]; omega), ?_⟩
  · rw [(List.mem_replicate.mp hx).2]; omega
  · obtain ⟨y, _, rfl⟩ := List.mem_map.mp hx
    exact ⟨Int.emod_nonneg _ (by omega), Int.emod_lt_of_pos _ (by omega)⟩
  · have := getD_pad [] (f.length - m) i
    simpa using this
  · exact (Cf.rests p f).symm.cg.trans (Cg.of_eq fun x => by rw [pev_zeros]; omega)
structure Dw (p : Int) (g : List Int) (m pl : Nat) (t : Int) (R : List Int) (j : Nat) (S : List Int) : Prop where
  len : S.length = R.length
  rr : ∀ x, x ∈ S → 0 ≤ x ∧ x < p
  keep : ∀ i, pl + j ≤ i → S.getD i 0 = R.getD i 0
  top : m < j → S.getD (pl + m) 0 = 0
  eq : Cg p (pev S) fun x => pev R x - t * x ^ pl * pev (g.take j) x
theorem PF.pow (n : Nat) : PF fun x => x ^ n := by
  refine ⟨List.replicate n 0 ++ [1], fun x => ?_⟩
  rw [pev_append, pev_zeros, List.length_replicate]
  simp [pev]
theorem Dw.start {p t : Int} {g R : List Int} {m pl : Nat} (hR : ∀ x, x ∈ R → 0 ≤ x ∧ x < p) : Dw p g m pl t R 0 R := by
  refine ⟨rfl, hR, fun i _ => rfl, fun h => by omega, Cg.of_eq fun x => ?_⟩
  simp [pev]
theorem getD_set {f : List Int} {k i : Nat} {v : Int} (hk : k < f.length) : (f.set k v).getD i 0 = if i = k then v else f.getD i 0 := by
  rw [List.getD_eq_getElem?_getD, List.getElem?_set]
  split
  · rename_i c
    subst c
    simp [hk]
  · rename_i c
    rw [if_neg (fun z => c z.symm), List.getD_eq_getElem?_getD]
theorem mem_set_or {f : List Int} {k : Nat} {v x : Int} (h : x ∈ f.set k v) : x ∈ f ∨ x = v := by
  rcases List.mem_or_eq_of_mem_set h with z | z
  · exact .inl z
  · exact .inr z
theorem Dw.step {p t c b : Int} {g R S : List Int} {m pl j : Nat} (hp : 2 ≤ p) (h : Dw p g m pl t R j S) (hc : S[pl + j]? = some c) (hb : g[j]? = some b) (hj : j ≤ m) (ht : j = m → (R.getD (pl + m) 0 - t * b) % p = 0) : Dw p g m pl t R (j + 1) (S.set (pl + j) ((c - t * b) % p)) := by
  have hl := (List.getElem?_eq_some_iff.mp hc).1
  have ec : S.getD (pl + j) 0 = c := by rw [List.getD_eq_getElem?_getD, hc]; rfl
  refine ⟨by rw [List.length_set]; exact h.len, fun x hx => ?_, fun i hi => ?_, fun hm => ?_, ?_⟩
  · rcases mem_set_or hx with z | z
    · exact h.rr x z
    · rw [z]
      exact ⟨Int.emod_nonneg _ (by omega), Int.emod_lt_of_pos _ (by omega)⟩
  · rw [getD_set hl, if_neg (by omega)]
    exact h.keep i (by omega)
  · have e : j = m := by omega
    subst e
    rw [getD_set hl, if_pos rfl, ← ec, h.keep _ (Nat.le_refl _)]
    exact ht rfl
  · have e1 : ∀ x, pev (S.set (pl + j) ((c - t * b) % p)) x = pev S x + ((c - t * b) % p - c) * x ^ (pl + j) := fun x => by
      have := pev_set x ((c - t * b) % p - c) S (pl + j) c hc
      rwa [show c + ((c - t * b) % p - c) = (c - t * b) % p by omega] at this
    obtain ⟨k, ek⟩ := Int.dvd_of_emod_eq_zero (rest_sub p (c - t * b))
    obtain ⟨K, hK, e⟩ := h.eq
    refine ⟨fun x => K x + k * x ^ (pl + j), hK.add ((PF.const k).mul (PF.pow _)), fun x => ?_⟩
    have e2 : pev S x - (pev R x - t * x ^ pl * pev (g.take j) x) = p * K x := e x
    show pev (S.set (pl + j) ((c - t * b) % p)) x - (pev R x - t * x ^ pl * pev (g.take (j + 1)) x) = p * (K x + k * x ^ (pl + j))
    rw [e1, pev_take_succ hb]
    have e3 : x ^ (pl + j) = x ^ pl * x ^ j := pow_add' x pl j
    generalize (c - t * b) % p = w at *
    generalize K x = y at *
    rw [e3]
    generalize x ^ pl = A at *
    generalize x ^ j = B at *
    grind
theorem Dv.step {p t : Int} {f g Q R S : List Int} {m pl : Nat} (h : Dv p f g m (pl : Int) Q R) (hl : pl + m < f.length) (hg : ∀ x, pev (g.take (m + 1)) x = pev g x) (ht : 0 ≤ t ∧ t < p) (hS : Dw p g m pl t R (m + 1) S) : Dv p f g m ((pl : Int) - 1) (Q.set pl t) S := by
  have lq := h.lq
  have hpl : pl < Q.length := by omega
  have q0 : Q[pl]? = some 0 := by
    have := h.zq pl (by omega)
    rw [List.getD_eq_getElem?_getD, List.getElem?_eq_getElem hpl] at this
    rw [List.getElem?_eq_getElem hpl]
    exact congrArg some this
  refine ⟨by rw [List.length_set]; exact lq, hS.len.trans h.lr, fun x hx => ?_, hS.rr, fun i hi => ?_, fun i hi => ?_, ?_⟩
  · rcases mem_set_or hx with z | z
    · exact h.rq x z
    · rw [z]; exact ht
  · rw [getD_set hpl, if_neg (by omega)]
    exact h.zq i (by omega)
  · by_cases c : i = pl + m
    · rw [c]; exact hS.top (by omega)
    · rw [hS.keep i (by omega)]
      exact h.zr i (by omega)
  · have e1 : ∀ x, pev (Q.set pl t) x = pev Q x + t * x ^ pl := fun x => by
      have := pev_set x t Q pl 0 q0
      rwa [Int.zero_add] at this
    refine h.eq.trans ((Cg.of_eq fun x => ?_).trans (Cg.add (Cg.refl fun x => pev (Q.set pl t) x * pev g x) hS.eq.symm))
    rw [e1, hg]
    generalize x ^ pl = A
    grind
theorem Dv.done {p : Int} {f g Q R : List Int} {m : Nat} {place : Int} (h : Dv p f g m place Q R) (hpl2 : place = -1 ∨ f.length ≤ m) : Divd p f g m Q (R.take m) := by
  refine ⟨h.lq, by rw [List.length_take, h.lr], h.rq, fun x hx => h.rr x (List.mem_of_mem_take hx), h.eq.trans (Cg.add (Cg.refl _) (Cg.of_eq fun x => ?_))⟩
  by_cases c : f.length ≤ m
  · rw [List.take_of_length_le (by rw [h.lr]; exact c)]
  · have hp1 : place = -1 := by rcases hpl2 with z | z <;> omega
    have e : R = R.take m ++ List.replicate (R.length - m) 0 := by
      have l0 := h.lr
      refine List.ext_getElem (by rw [List.length_append, List.length_take, List.length_replicate]; omega) fun i h1 h2 => ?_
      by_cases ci : i < m
      · rw [List.getElem_append_left (by rw [List.length_take]; omega), List.getElem_take]
      · rw [List.getElem_append_right (by rw [List.length_take]; omega), List.getElem_replicate]
        have := h.zr i (by omega)
        rwa [List.getD_eq_getElem?_getD, List.getElem?_eq_getElem h1] at this
    conv => lhs; rw [e]
    exact pev_pad _ _ _
def Gen (p : Int) (a b : List Int) (F : Int → Int) : Prop := ∃ s t : List Int, Cg p F fun x => pev s x * pev a x + pev t x * pev b x
theorem Gen.left (p : Int) (a b : List Int) : Gen p a b (pev a) := ⟨[1], [], Cg.of_eq fun x => by simp [pev]⟩
theorem Gen.right (p : Int) (a b : List Int) : Gen p a b (pev b) := ⟨[], [1], Cg.of_eq fun x => by simp [pev]⟩
theorem Gen.swap {p : Int} {a b : List Int} {F : Int → Int} (h : Gen p a b F) : Gen p b a F := by
  obtain ⟨s, t, e⟩ := h
  exact ⟨t, s, e.trans (Cg.of_eq fun x => Int.add_comm _ _)⟩
theorem Gen.step {p : Int} {a b Q r : List Int} {F : Int → Int} (e : Cg p (pev a) fun x => pev Q x * pev b x + pev r x) (h : Gen p a b F) : Gen p b r F := by
  obtain ⟨s, t, c⟩ := h
  refine ⟨padd (pmul s Q) t, s, c.trans (((Cg.mulL (PF.of s) e).add (Cg.refl fun x => pev t x * pev b x)).trans (Cg.of_eq fun x => ?_))⟩
  rw [padd_ev, pmul_ev]
  grind
theorem Gen.back {p : Int} {g h a b Q r : List Int} (e : Cg p (pev a) fun x => pev Q x * pev b x + pev r x) (ha : Gen p g h (pev a)) (hb : Gen p g h (pev b)) : Gen p g h (pev r) := by
  obtain ⟨s, t, c⟩ := ha
  obtain ⟨s', t', c'⟩ := hb
  refine ⟨padd s ((pmul Q s').map (-1 * ·)), padd t ((pmul Q t').map (-1 * ·)), ?_⟩
  have h1 : Cg p (pev r) (fun x => pev a x - pev Q x * pev b x) := by
    have := e.sub (Cg.refl (q := p) fun x => pev Q x * pev b x)
    exact ((this.trans (Cg.of_eq fun x => by omega : Cg p _ (pev r)))).symm
  refine h1.trans ((c.sub (Cg.mulL (PF.of Q) c')).trans (Cg.of_eq fun x => ?_))
  rw [padd_ev, padd_ev, pev_map, pev_map, pmul_ev, pmul_ev]
  grind
structure Eu (p : Int) (g h a b : List Int) : Prop where
  g1 : Gen p a b (pev g)
  h1 : Gen p a b (pev h)
  a1 : Gen p g h (pev a)
  b1 : Gen p g h (pev b)
theorem Eu.start (p : Int) (g h : List Int) : Eu p g h g h := ⟨Gen.left .., Gen.right .., Gen.left .., Gen.right ..⟩
theorem Eu.swap {p : Int} {g h a b : List Int} (e : Eu p g h a b) : Eu p g h b a := ⟨e.g1.swap, e.h1.swap, e.b1, e.a1⟩
theorem Eu.step {p : Int} {g h a b Q r : List Int} (u : Eu p g h a b) (e : Cg p (pev a) fun x => pev Q x * pev b x + pev r x) : Eu p g h b r :=
  ⟨u.g1.step e, u.h1.step e, u.b1, Gen.back e u.a1 u.b1⟩
theorem Eu.no {p : Int} (hp : p ∈ primes) {g h a b : List Int} {m : Nat} (u : Eu p g h a b) (hb : Cf p b []) (ha : DegP p a m) (hm : 1 ≤ m) : ¬ Bez p g h := by
  have one : ∀ {F : Int → Int}, Gen p a b F → ∃ s : List Int, Cg p F fun x => pev s x * pev a x := fun {F} ⟨s, t, c⟩ => ⟨s, c.trans (((Cg.refl fun x => pev s x * pev a x).add (Cg.mulL (PF.of t) hb.cg)).trans (Cg.of_eq fun x => by simp [pev]))⟩
  obtain ⟨s, c1⟩ := one u.g1
  obtain ⟨t, c2⟩ := one u.h1
  exact not_bez hp ha hm c1 c2
def Inv (p : Int) (g h t : List Int) : Prop := ∃ s : List Int, Cg p (fun x => pev t x * pev h x + pev s x * pev g x) fun _ => 1
theorem Inv.bez {p : Int} {g h t : List Int} (i : Inv p g h t) : Bez p g h := by
  obtain ⟨s, c⟩ := i
  exact ⟨s, t, (Cg.of_eq fun x => Int.add_comm _ _).trans c⟩
def Row (p : Int) (g h r t : List Int) : Prop := ∃ s : List Int, Cg p (pev r) fun x => pev t x * pev h x + pev s x * pev g x
theorem Row.first (p : Int) (g h : List Int) : Row p g h g [0] := ⟨[1], Cg.of_eq fun x => by simp [pev]⟩
theorem Row.second {p : Int} {g h Q r : List Int} (e : Cg p (pev h) fun x => pev Q x * pev g x + pev r x) : Row p g h r [1] := by
  refine ⟨Q.map (-1 * ·), ?_⟩
  have := e.sub (Cg.refl (q := p) fun x => pev Q x * pev g x)
  refine (this.trans (Cg.of_eq fun x => by omega : Cg p _ (pev r))).symm.trans (Cg.of_eq fun x => ?_)
  rw [pev_map]
  simp [pev]
  grind
theorem Row.next {p : Int} {g h r0 t0 r1 t1 Q r2 t2 : List Int} (a : Row p g h r0 t0) (b : Row p g h r1 t1) (e : Cg p (pev r0) fun x => pev Q x * pev r1 x + pev r2 x) (ht : Cg p (pev t2) fun x => pev t0 x - pev Q x * pev t1 x) : Row p g h r2 t2 := by
  obtain ⟨s, c⟩ := a
  obtain ⟨s', c'⟩ := b
  refine ⟨padd s ((pmul Q s').map (-1 * ·)), ?_⟩
  have h1 : Cg p (pev r2) (fun x => pev r0 x - pev Q x * pev r1 x) := by
    have := e.sub (Cg.refl (q := p) fun x => pev Q x * pev r1 x)
    exact ((this.trans (Cg.of_eq fun x => by omega : Cg p _ (pev r2)))).symm
  refine h1.trans ((c.sub (Cg.mulL (PF.of Q) c')).trans ?_)
  refine Cg.trans ?_ (Cg.add (Cg.mulR (PF.of h) ht.symm) (Cg.refl fun x => pev (padd s ((pmul Q s').map (-1 * ·))) x * pev g x))
  refine Cg.of_eq fun x => ?_
  rw [padd_ev, pev_map, pmul_ev]
  grind
theorem Row.inv {p y : Int} {g h r t t' : List Int} (a : Row p g h r t) (hr : Cf p r [r.getD 0 0]) (hy : (r.getD 0 0 * y - 1) % p = 0) (ht : Cg p (pev t') fun x => pev t x * y) : Inv p g h t' := by
  obtain ⟨s, c⟩ := a
  refine ⟨s.map (y * ·), ?_⟩
  have c2 := Cg.mulL (PF.const y) (hr.symm.cg.trans c)
  refine (Cg.add (Cg.mulR (PF.of h) ht) (Cg.refl fun x => pev (s.map (y * ·)) x * pev g x)).trans (((Cg.of_eq fun x => ?_).trans c2.symm).trans ?_)
  · rw [pev_map]
    grind
  · obtain ⟨k, ek⟩ := Int.dvd_of_emod_eq_zero hy
    refine ⟨fun _ => k, PF.const _, fun x => ?_⟩
    simp only [pev, Int.mul_zero, Int.add_zero]
    rw [Int.mul_comm y]
    exact ek
theorem missing {p : Int} (hp : p ∈ primes) {g h t m A Q u D v r : List Int} {n : Nat} (i : Inv p g h t) (hg : DegP p g n) (hA : ∀ x, pev A x = pev m x * pev t x) (h1 : Cg p (pev A) fun x => pev Q x * pev g x + pev u x) (hD : ∀ x, pev D x = pev m x - pev u x * pev h x) (h2 : Cg p (pev D) fun x => pev v x * pev g x + pev r x) (hr : r.length ≤ n) : Cg p (pev m) fun x => pev u x * pev h x + pev v x * pev g x := by
  obtain ⟨s, c⟩ := i
  have e1 : Cg p (pev D) fun x => (pev m x * pev s x + pev Q x * pev h x) * pev g x := by
    have a1 : Cg p (fun x => pev u x * pev h x) (fun x => (pev A x - pev Q x * pev g x) * pev h x) := Cg.mulR (PF.of h) (by
      have := h1.sub (Cg.refl (q := p) fun x => pev Q x * pev g x)
      exact ((this.trans (Cg.of_eq fun x => by omega : Cg p _ (pev u)))).symm)
    have a2 := Cg.mulL (PF.of m) c
    refine (Cg.of_eq hD).trans (((Cg.refl (pev m)).sub a1).trans ?_)
    have a3 := (a2.symm.sub (Cg.refl (q := p) fun x => (pev A x - pev Q x * pev g x) * pev h x))
    refine ((Cg.of_eq fun x => ?_).trans a3).trans (Cg.of_eq fun x => ?_)
    · rw [Int.mul_one]
    · rw [hA]
      grind
  have e2 : Cg p (fun x => pev (padd (padd (pmul m s) (pmul Q h)) (v.map (-1 * ·))) x * pev g x) (pev r) := by
    have := (e1.symm.trans h2).sub (Cg.refl (q := p) fun x => pev v x * pev g x)
    refine ((Cg.of_eq fun x => ?_).trans this).trans (Cg.of_eq fun x => by omega)
    rw [padd_ev, padd_ev, pmul_ev, pmul_ev, pev_map]
    grind
  have z := (low_zero hp hg e2 (fun i hi => by rw [getD_len (by omega)]; simp)).2
  have h3 := h2.trans ((Cg.refl (q := p) fun x => pev v x * pev g x).add z.cg)
  have h4 := (Cg.refl (q := p) fun x => pev u x * pev h x).add h3
  refine ((Cg.of_eq fun x => ?_).trans h4).trans (Cg.of_eq fun x => by simp [pev])
  rw [hD]
  omega
end Dr
namespace Dr
theorem div_lin (w : Int) : ∀ h : List Int, ∃ q : List Int, ∀ x, pev h x = (x - w) * pev q x + pev h w
  | [] => ⟨[], fun x => by simp [pev]⟩
  | c :: t => by
    obtain ⟨q, hq⟩ := div_lin w t
    refine ⟨pev t w :: q, fun x => ?_⟩
    have := hq x
    simp only [pev]
    rw [this]
    generalize pev t w = A at *
    generalize pev q x = B at *
    grind
theorem bez_lin {p w : Int} (hp : p ∈ primes) {h : List Int} (hw : pev h w % p ≠ 0) : Bez p [0 - w, 1] h := by
  obtain ⟨q, hq⟩ := div_lin w h
  obtain ⟨y, _, _, hy⟩ := inv_ex hp hw
  refine ⟨q.map (-y * ·), [y], fun _ => pev h w * y / p, PF.const _, fun x => ?_⟩
  have e := hq x
  have d := Int.mul_ediv_add_emod (pev h w * y) p
  rw [hy] at d
  show pev (q.map (-y * ·)) x * pev [0 - w, 1] x + pev [y] x * pev h x - 1 = p * (pev h w * y / p)
  rw [pev_map, e]
  simp only [pev]
  generalize pev h w = A at *
  generalize pev q x = B at *
  generalize A * y / p = C at *
  grind
theorem one_mod {p : Int} (hp : p ∈ primes) : (1 : Int) % p ≠ 0 := by
  have := primes_ge hp
  rw [Int.emod_eq_of_lt (by omega) (by omega)]
  decide
end Dr
namespace Dr
def prodR : List Int → Int → Int
  | [], _ => 1
  | r :: l, x => (x - r) * prodR l x
theorem prodR_app (a b : List Int) (x : Int) : prodR (a ++ b) x = prodR a x * prodR b x := by
  induction a with
  | nil => rw [List.nil_append]; show _ = 1 * _; rw [Int.one_mul]
  | cons r a ih => show (x - r) * prodR (a ++ b) x = (x - r) * prodR a x * prodR b x; rw [ih, Int.mul_assoc]
structure Blt (rs f : List Int) : Prop where
  len : f.length = rs.length + 1
  top : f.getLast? = some 1
  ev : ∀ x, pev f x = prodR rs x
theorem Blt.nil : Blt [] [1] := ⟨rfl, rfl, fun x => by show 1 + x * 0 = 1; omega⟩
theorem top_of {f g r : List Int} (hr : IsProd f g r) (hf : f.getLast? = some 1) (hg : g.getLast? = some 1) (lf : 0 < f.length) (lg : 0 < g.length) : r.getLast? = some 1 := by
  have e2 : r = pmul f g := hr.uniq (pmul_prod lf lg)
  have t := pmul_top f g (f.length - 1) (g.length - 1) (by omega) (by omega)
  have one : ∀ {l : List Int}, l.getLast? = some 1 → l.getD (l.length - 1) 0 = 1 := fun {l} h => by
    rw [List.getLast?_eq_getElem?] at h
    rw [List.getD_eq_getElem?_getD, h]
    rfl
  rw [one hf, one hg] at t
  have ln := hr.len
  have h1 : r.getD (f.length - 1 + (g.length - 1)) 0 = 1 := by rw [e2]; exact t
  rw [List.getLast?_eq_getElem?, show r.length - 1 = f.length - 1 + (g.length - 1) by omega]
  rw [List.getD_eq_getElem?_getD] at h1
  cases z : r[f.length - 1 + (g.length - 1)]? with
  | none => rw [z] at h1; cases h1
  | some v => rw [z] at h1; exact congrArg some h1
theorem Blt.snoc {rs f r : List Int} {t : Int} (h : Blt rs f) (hr : IsProd f [0 - t, 1] r) : Blt (rs ++ [t]) r := by
  have l := h.len
  have ln := hr.len
  refine ⟨by rw [List.length_append, List.length_singleton]; simp only [List.length_cons, List.length_nil] at ln; omega, top_of hr h.top rfl (by omega) (by simp), fun x => ?_⟩
  rw [hr.ev, h.ev, prodR_app]
  show prodR rs x * (0 - t + x * (1 + x * 0)) = prodR rs x * ((x - t) * 1)
  congr 1
  rw [Int.mul_zero, Int.add_zero, Int.mul_one, Int.mul_one]
  omega
theorem Blt.app {a b f g r : List Int} (hf : Blt a f) (hg : Blt b g) (hr : IsProd f g r) : Blt (a ++ b) r := by
  have l1 := hf.len
  have l2 := hg.len
  have ln := hr.len
  exact ⟨by rw [List.length_append]; omega, top_of hr hf.top hg.top (by omega) (by omega), fun x => by rw [hr.ev, hf.ev, hg.ev, prodR_app]⟩
theorem prodR_ne {p : Int} (hp : p ∈ primes) {b : List Int} {w : Int} (h : ∀ y, y ∈ b → (w - y) % p ≠ 0) : prodR b w % p ≠ 0 := by
  induction b with
  | nil => exact one_mod hp
  | cons y b ih =>
    intro z
    exact ih (fun u hu => h u (.tail _ hu)) (euclid hp z (h y (.head _)))
theorem Bez.mul {p : Int} {g g' h r : List Int} (b : Bez p g h) (b' : Bez p g' h) (e : ∀ x, pev r x = pev g x * pev g' x) : Bez p r h := by
  obtain ⟨s, t, K, hK, c⟩ := b
  obtain ⟨s', t', K', hK', c'⟩ := b'
  obtain ⟨S, hS⟩ := (PF.of s).mul (PF.of s')
  obtain ⟨T, hT⟩ := (((PF.of s).mul (PF.of g)).mul (PF.of t')).add (((PF.of t).mul ((PF.of s').mul (PF.of g'))).add ((PF.of t).mul ((PF.of t').mul (PF.of h))))
  refine ⟨S, T, fun x => K x + K' x + p * (K x * K' x), (hK.add hK').add ((PF.const p).mul (hK.mul hK')), fun x => ?_⟩
  have e1 := c x
  have e2 := c' x
  have e3 := hS x
  have e4 := hT x
  have e5 := e x
  dsimp only at e1 e2 e3 e4 ⊢
  rw [← e3, ← e4, e5]
  grind
theorem Blt.one (w : Int) : Blt [w] [0 - w, 1] := ⟨rfl, rfl, fun x => by
  show 0 - w + x * (1 + x * 0) = (x - w) * 1
  rw [Int.mul_zero, Int.add_zero, Int.mul_one, Int.mul_one]
  omega⟩
theorem Blt.ex : ∀ a : List Int, ∃ f, Blt a f
  | [] => ⟨_, Blt.nil⟩
  | w :: a => by
    obtain ⟨f, hf⟩ := Blt.ex a
    exact ⟨_, (Blt.one w).app hf (pmul_prod (by simp) (by rw [hf.len]; omega))⟩
theorem Blt.bez {p : Int} (hp : p ∈ primes) {a b f g : List Int} (hf : Blt a f) (hg : Blt b g) (h : ∀ x, x ∈ a → ∀ y, y ∈ b → (x - y) % p ≠ 0) : Bez p f g := by
  induction a generalizing f with
  | nil => exact ⟨[1], [], Cg.of_eq fun x => by rw [hf.ev]; show (1 + x * 0) * 1 + 0 * _ = 1; rw [Int.mul_zero, Int.zero_mul]; rfl⟩
  | cons w a ih =>
    have b1 : Bez p [0 - w, 1] g := bez_lin hp (by rw [hg.ev]; exact prodR_ne hp (h w (.head _)))
    obtain ⟨f', hf'⟩ := Blt.ex a
    refine b1.mul (ih hf' fun x hx => h x (.tail _ hx)) fun x => ?_
    rw [hf.ev, hf'.ev]
    show (x - w) * prodR a x = (0 - w + x * (1 + x * 0)) * prodR a x
    rw [Int.mul_zero, Int.add_zero, Int.mul_one, show x - w = 0 - w + x by omega]
theorem Cf.down {q r : Int} {f g : List Int} (h : Cf q f g) (hr : q % r = 0) : Cf r f g := fun i => by
  have := h i
  obtain ⟨k, ek⟩ := Int.dvd_of_emod_eq_zero this
  obtain ⟨m, em⟩ := Int.dvd_of_emod_eq_zero hr
  rw [ek, em, Int.mul_assoc]
  exact Int.mul_emod_right ..
theorem pow_mod {p : Int} {N : Nat} (hN : 1 ≤ N) : p ^ N % p = 0 := by
  obtain ⟨k, rfl⟩ : ∃ k, N = k + 1 := ⟨N - 1, by omega⟩
  rw [Int.pow_succ]
  exact Int.mul_emod_left ..
theorem due_parts {p : Int} (hp : p ∈ primes) {N : Nat} (hN : 1 ≤ N) {one other f g h r G J : List Int} (to : one.getLast? = some 1) (th : other.getLast? = some 1) (l1 : 2 ≤ one.length) (hr : IsProd one other r) (cf : Cf (p ^ N) f r) (cg : Cf p g one) (lg : g.length = one.length) (tg : g.getLast? = some 1)
    (ch : Cf p h other) (lh : h.length = other.length) (b : Bez p g h) (P : Parts p N f g h G J) : G = one.map (· % p ^ N) ∧ J = other.map (· % p ^ N) := by
  have p2 := primes_ge hp
  have pN : 2 ≤ p ^ N := by
    obtain ⟨k, rfl⟩ : ∃ k, N = k + 1 := ⟨N - 1, by omega⟩
    rw [Int.pow_succ]
    have h1 := pow_pos (p := p) (by omega) k
    have h2 := Int.mul_le_mul (show 1 ≤ p ^ k by omega) (show 2 ≤ p by omega) (by decide) (by omega)
    omega
  have one1 : (1 : Int) % p ^ N = 1 := Int.emod_eq_of_lt (by omega) (by omega)
  have top : ∀ {l : List Int}, l.getLast? = some 1 → (l.map (· % p ^ N)).getLast? = some 1 := fun {l} h => by
    have := last_map (· % p ^ N) h
    rwa [one1] at this
  have rng : ∀ (l : List Int) (x : Int), x ∈ l.map (· % p ^ N) → 0 ≤ x ∧ x < p ^ N := fun l x hx => by
    obtain ⟨y, _, rfl⟩ := List.mem_map.mp hx
    exact ⟨Int.emod_nonneg _ (by omega), Int.emod_lt_of_pos _ (by omega)⟩
  refine Parts.uniq hp hN tg (by omega) b P ⟨by rw [List.length_map, lg], by rw [List.length_map, lh], rng one, rng other, top to, top th, ?_, ?_, ?_⟩
  · exact ((Cf.rests (p ^ N) one).down (pow_mod hN)).cg.trans cg.cg.symm |>.cf
  · exact ((Cf.rests (p ^ N) other).down (pow_mod hN)).cg.trans ch.cg.symm |>.cf
  · refine cf.cg.trans ((Cg.of_eq fun x => hr.ev x).trans ?_)
    exact Cg.mul (PF.of _) (PF.of _) (Cf.rests (p ^ N) one).cg.symm (Cf.rests (p ^ N) other).cg.symm
theorem may_of {p : Int} {N : Int} (hN : 1 ≤ N) {one other f g h r : List Int} (l1 : 2 ≤ one.length) (l2 : 2 ≤ other.length) (hr : IsProd one other r) (lf : f.length = r.length) (tf : f.getLast? = some 1) (cf : Cf p f r) (cg : Cf p g one) (lg : g.length = one.length) (tg : g.getLast? = some 1)
    (ch : Cf p h other) (lh : h.length = other.length) (th : h.getLast? = some 1) : May p N f g h := by
  have ln := hr.len
  refine ⟨hN, by omega, by omega, by omega, tf, tg, th, ?_⟩
  refine cf.cg.trans ((Cg.of_eq fun x => hr.ev x).trans ?_)
  exact Cg.mul (PF.of _) (PF.of _) cg.cg.symm ch.cg.symm
theorem not_bez_at {p w : Int} (hp : p ∈ primes) {g h : List Int} (hg : pev g w % p = 0) (hh : pev h w % p = 0) : ¬ Bez p g h := fun ⟨s, t, K, _, e⟩ => by
  have e1 := e w
  dsimp only at e1
  obtain ⟨a, ea⟩ := Int.dvd_of_emod_eq_zero hg
  obtain ⟨b, eb⟩ := Int.dvd_of_emod_eq_zero hh
  refine one_mod hp ?_
  have : (1 : Int) = p * (pev s w * a + pev t w * b - K w) := by
    rw [ea, eb] at e1
    grind
  rw [this]
  exact Int.mul_emod_right ..
theorem May.put {p d v M : Int} {f g h : List Int} {k : Nat} (m : May p M f g h) (hk : f[k]? = some v) (hd : d % p ≠ 0) (N : Int) : ¬ May p N (f.set k (v + d)) g h := fun m' => by
  have kl := (List.getElem?_eq_some_iff.mp hk).1
  have c : Cf p (f.set k (v + d)) f := Cg.cf (m'.prod.trans m.prod.symm)
  have := c k
  rw [getD_set kl, if_pos rfl, List.getD_eq_getElem?_getD, hk] at this
  have e : v + d - (some v).getD 0 = d := by show v + d - v = d; omega
  rw [e] at this
  exact hd this
theorem Blt.root {rs f : List Int} {w : Int} (h : Blt rs f) (hw : w ∈ rs) : pev f w = 0 := by
  rw [h.ev]
  clear h
  induction rs with
  | nil => cases hw
  | cons y rs ih =>
    show (w - y) * prodR rs w = 0
    rcases List.mem_cons.mp hw with e | e
    · rw [e, Int.sub_self, Int.zero_mul]
    · rw [ih e, Int.mul_zero]
end Dr
namespace Dr
def ws (rs : List Int) : List (Int × Int) := rs.map fun r => (r, 1)
end Dr
namespace L2
open PySem PySem.Spec PyProof.Rows
section
variable {X : Cx}
theorem op_mulW : OpR X (binaryOp .Mult) (rI IntMulOk fun i j => .int (i * j)) := opI fun _ _ _ _ _ _ _ hc q => mul_int q hc
def CDivW (_ j : Int) : Prop := 0 < j ∧ j.natAbs.log2 < 9000
theorem op_fdivW : OpR X (binaryOp .FloorDiv) (rI CDivW fun i j => .int (i / j)) := opI fun i j _ _ _ _ _ hc q => by
  have h1 : (0 : Int) < j := hc.1
  exact floordiv_int (by omega) (by rw [Int.fdiv_eq_ediv_of_nonneg i (by omega)]; exact q) (.inl (PyProof.noPylong_of_log2 hc.2))
end
def Itc (a c : Int) (n : Nat) : It := ⟨fun i _ => i < n, fun i H x H' => H' = H ∧ x = .int (a + i * c), fun i _ => n ≤ i⟩
section
variable {X : Cx} {tg : Expr}
def turns (a b c : Int) : Nat := if a < b then ((b - a - 1) / c + 1).toNat else 0
def iRng3 (ta : TA) : TI := fun σ H R => ta σ H fun vs H1 => ∃ i j c : Int, vs = [.int i, .int j, .int c] ∧ (-(2 ^ 60) ≤ i ∧ i < 2 ^ 60 ∧ -(2 ^ 60) ≤ j ∧ j < 2 ^ 60 ∧ 0 < c ∧ c < 1000) ∧ R (Itc i c (turns i j c)) H1
end
def clsV : V → Value
  | .ty n => .type n
  | .ref a => .ref a
  | _ => .none
def isCls : V → Bool
  | .ty _ => true
  | .ref _ => true
  | _ => false
section
variable {X : Cx}
theorem call_isinst : CallR X (.builtin "isinstance") (fun xs H Q => ∃ x y t b, xs = [x, y] ∧ isCls y = true ∧ TyOf X.K H x t ∧ PySem.W.kitOne X.K t (clsV y) = some b ∧ Q (.bl b) H) := by
  intro pins s σ H xs us Q I r h
  obtain ⟨x, y, t, b, rfl, hy, ty, e, q⟩ := h
  obtain ⟨u, w', rfl, rx, ry⟩ := vals2 r
  have ec : w' = clsV y := by
    cases y <;> first
      | (simp [isCls] at hy; done)
      | exact ry
  subst ec
  exact isinst_ok I rx ty e fun tk => ⟨.bl b, H, I.tok tk, rfl, q⟩
mutual
inductive DatV (K : PySem.W.Frag) (H : Hp) : V → PyData → Prop
  | non : DatV K H .non .none
  | bl (b : Bool) : DatV K H (.bl b) (.bool b)
  | int (i : Int) : DatV K H (.int i) (.int i)
  | str (x : Str) : DatV K H (.str x) (.str x)
  | lst {a : Addr} {xs : List V} {ds : List PyData} : SqL K H a xs → DatVs K H xs ds → DatV K H (.ref a) (.list ds)
  | tup {a : Addr} {xs : List V} {ds : List PyData} : SqT K H a xs → DatVs K H xs ds → DatV K H (.ref a) (.tuple ds)
inductive DatVs (K : PySem.W.Frag) (H : Hp) : List V → List PyData → Prop
  | nil : DatVs K H [] []
  | cons {x : V} {d : PyData} {xs : List V} {ds : List PyData} : DatV K H x d → DatVs K H xs ds → DatVs K H (x :: xs) (d :: ds)
end
theorem DatVs.ints {K : PySem.W.Frag} {H : Hp} : ∀ ns : List Int, DatVs K H (ns.map V.int) (ns.map PyData.int)
  | [] => .nil
  | n :: r => .cons (.int n) (DatVs.ints r)
variable {pins : List (Addr × Obj)} {σ : St} {H : Hp} {s : Shared}
mutual
theorem reads_of (I : Inv X pins σ H s) : ∀ {x : V} {d : PyData} {u : Value}, DatV X.K H x d → RelV x u → ∃ as, Reads s.heap u d as
  | _, _, _, .non, r => by cases r; exact ⟨_, .none⟩
  | _, _, _, .bl b, r => by cases r; exact ⟨_, .bool b⟩
  | _, _, _, .int i, r => by obtain ⟨t, rfl⟩ := r; exact ⟨_, .int i t⟩
  | _, _, _, .str x, r => by obtain ⟨t, rfl⟩ := r; exact ⟨_, .str x t⟩
  | _, _, _, .lst h q, r => by
    cases r
    obtain ⟨its, rv, pl, _⟩ := I.list h
    obtain ⟨o, ho, hc, n, hd⟩ := pl.isList
    obtain ⟨as, ra⟩ := readsAll_of I q rv
    exact ⟨_, .list ho hc hd (by simpa using ra)⟩
  | _, _, _, .tup h q, r => by
    cases r
    obtain ⟨its, rv, pl, _⟩ := I.tuple h
    obtain ⟨o, ho, hc, n, hd⟩ := pl
    obtain ⟨as, ra⟩ := readsAll_of I q rv
    exact ⟨_, .tuple ho hc hd (by simpa using ra)⟩
theorem readsAll_of (I : Inv X pins σ H s) : ∀ {xs : List V} {ds : List PyData} {us : List Value}, DatVs X.K H xs ds → Vals xs us → ∃ as, ReadsAll s.heap us ds as
  | _, _, _, .nil, r => by cases r; exact ⟨_, .nil⟩
  | _, _, _, .cons h q, r => by
    cases r with
    | cons r rr =>
      obtain ⟨as, ra⟩ := reads_of I h r
      obtain ⟨bs, rb⟩ := readsAll_of I q rr
      exact ⟨_, .cons ra rb⟩
end
def rEqD (K : PySem.W.Frag) (neg : Bool) : R2 := fun x y H Q => ∃ d e, DatV K H x d ∧ DatV K H y e ∧ SeqAt.shaped d = true ∧ SeqAt.shaped e = true ∧ Q (.bl (if neg then !PyData.eqv d e else PyData.eqv d e)) H
theorem op_eqD (hu : X.A.units + 64 < cLine) : OpR X (compareOp .Eq) (rEqD X.K false) := by
  intro pins s σ H x y v u Q I rx ry h
  obtain ⟨d, e, hd, he, sd, se, q⟩ := h
  obtain ⟨as, ra⟩ := reads_of I hd rx
  obtain ⟨bs, rb⟩ := reads_of I he ry
  exact eq_dataH ra rb sd se hu (fin_bl I q rfl)
theorem op_neD (hu : X.A.units + 64 < cLine) : OpR X (compareOp .NotEq) (rEqD X.K true) := by
  intro pins s σ H x y v u Q I rx ry h
  obtain ⟨d, e, hd, he, sd, se, q⟩ := h
  obtain ⟨as, ra⟩ := reads_of I hd rx
  obtain ⟨bs, rb⟩ := reads_of I he ry
  exact ne_dataH ra rb sd se hu (fin_bl I q rfl)
theorem eqvAll_ints : ∀ ns ms : List Int, PyData.eqvAll (ns.map PyData.int) (ms.map PyData.int) = decide (ns = ms)
  | [], [] => by simp [PyData.eqvAll]
  | [], _ :: _ => by simp [PyData.eqvAll]
  | _ :: _, [] => by simp [PyData.eqvAll]
  | a :: r, b :: t => by
    simp only [List.map_cons, PyData.eqvAll, PyData.eqv, eqvAll_ints r t]
    by_cases h : a = b <;> by_cases h' : r = t <;> simp [h, h']
end
end L2
namespace Att
open PySem PySem.W PySem.Calls PyProof.Rows
theorem bits_of_lay {ns : List Int} (h : WData.layableAll [WData.list (ns.map WData.int)] = true) : ∀ n, n ∈ ns → Builtin.Int.intBits n ≤ 2 ^ 20 := fun n hn => by
  have h1 := layableW_arg h _ (List.mem_singleton.mpr rfl)
  have h2 := layableW_item h1 (.int n) (List.mem_map.mpr ⟨n, hn, rfl⟩)
  have h3 := (layableW_iff.mp h2).2.2
  simpa only [WData.weight, Builtin.Int.intBits] using h3
theorem attach_callB {l : OpenLaw} {n : Nat} {q : Program} {loose : List Str} {XP : (Str → Option Value) → Heap → Prop} {YP : World → Heap → Prop} {d : DefRec}
    (hn : l.most = some n) (hdf : d.params.defaults = [])
    (call : ∀ (w : World) (s₀ s₁ : Shared) (mg mb : Str → Option Value) (fa : Addr) (o : Obj) (pm cd doc : Value) (a : Addr) (vs : List Value) (ns : List Int),
      Ground q loose [] XP w s₀ mg mb s₁.heap → YP w s₁.heap →
      s₁.heap.get? fa = some o → o.data = .func (docDef d.name d.params d.body d.scope pm cd doc) → s₁.heap.CodeRec cd d.name → mg d.name = some (.ref fa) →
      s₁.heap.get? a = some { cls := .type "list", data := .seq vs.toArray } → IntsAre vs ns → ns.length ≤ n → (∀ n, n ∈ ns → Builtin.Int.intBits n ≤ 2 ^ 20) → s₁.gens = #[] →
      codeAny (model l.prog w) callerA (.call (.ref fa) ⟨[.ref a], []⟩) (fun r s' => r = .ok (.ret (.bool true)) ∧ OldK s₁.heap s'.heap ∧ s'.os = s₁.os ∧ AllBare s'.gens) s₁) :
    WalkO q loose XP YP l.row.toRowW d [] (fun f vs => PySem.call f vs) := by
  intro w s₀ s₁ mg mb G Y fa o pm cd doc dV kV ho hd hcd hD hmg hg args vals as hpre hlay hrd hwl hlo
  obtain rfl : dV = .none := Dflts.none hD hdf
  obtain rfl : kV = .none := Dflts.noKw hD
  obtain ⟨a, vs, ns, rfl, rfl, hobj, hints, hlen⟩ := script_of hn hpre hwl
  refine enter_call (codeAny_mono (call w s₀ s₁ mg mb fa o pm cd doc a vs ns G Y ho (fd_plain hd) hcd hmg hobj hints hlen (bits_of_lay hlay) hg) fun r s' hq => ?_)
  obtain ⟨rfl, h2, h3, h4⟩ := hq
  exact ⟨.inl ⟨.bool true, .bool true, [], rfl, fun _ => rfl, .bool true, post_true l _, fun _ => ⟨List.Pairwise.nil, fun _ hm => (nomatch hm)⟩⟩, h2, h3, h4⟩
end Att
namespace L2
open PySem PySem.Spec PyProof.Rows
def spLaw (K : PySem.W.Frag) : Sp := fun vs H Q _ => ∃ (a : Addr) (ns : List Int), vs = [.ref a] ∧ SqL K H a (ns.map V.int) ∧ ns.length ≤ 63 ∧ (∀ n, n ∈ ns → Builtin.Int.intBits n ≤ 2 ^ 20) ∧ ∀ H', Q (.bl true) H'
theorem walk_law {l : PySem.W.OpenLaw} {k : Nat} {q : Program} {loose : List Str} {XP : (Str → Option Value) → Heap → Prop} {YP : World → Heap → Prop} {d : DefRec} {K : Params → PySem.W.Frag} {CX : World → CXT}
    (hn : l.most = some 63) (hdf : d.params.defaults = []) (hr : Room k callerA)
    (hY : ∀ (w : World) (h : Heap), YP w h → (K w.params).In h)
    (hCX : ∀ (w : World) (H : Hp) (s : Shared) (e : Value) (s' : Shared), CX w [] H s (fun _ _ _ => False) e s' → False)
    (F : ∀ (w : World) (mg : Str → Option Value) (fa : Addr) (h : Heap), (K w.params).In h → h.Ns mainGlobals mg → mg d.name = some (.ref fa) →
      ∃ fd : FuncData, (∀ (s : Shared) (u : Value), BindsTo s fd ⟨[u], []⟩ [("script", u)]) ∧
        ∀ base : Heap, (K w.params).In base → base.Ns mainGlobals mg → FnOk l.prog w (K w.params) mg base (CX w) k fa fd ["script"] (spLaw (K w.params))) :
    PySem.W.WalkO q loose XP YP l.row.toRowW d [] (fun f vs => PySem.call f vs) := by
  refine Att.attach_callB hn hdf fun w s₀ s₁ mg mb fa o pm cd doc a vs ns G Y ho hd hcd hmg hobj hints hlen hbits hg => ?_
  have KX := hY w _ Y
  obtain ⟨fd, hb, hF⟩ := F w mg fa _ KX G.T.g hmg
  exact law_call KX G.T.g G.T.b G.T.builtins G.T.nolimit hg hobj hints (Nat.le_trans hlen (by decide)) hr hF hb (fun H hO hS => ⟨a, ns, rfl, hS, hlen, hbits, fun _ => rfl⟩) fun H e s' => hCX w H s₁ e s'
end L2
namespace L2
open PySem PySem.Spec PyProof.Rows
theorem adr {a b : Addr} (h : @Ne Nat a b) : a ≠ b := h
theorem ltN {h : Heap} {b : Addr} {o : Obj} (e : h.get? b = some o) : @LT.lt Nat instLTNat b h.objs.size := Heap.lt_size e
def ClOk (cells : List (Str × Addr)) : List (Str × Addr) → Prop
  | [] => True
  | y :: r => cells.lookup y.1 = some y.2 ∧ ClOk cells r
theorem ClOk.get {cells : List (Str × Addr)} : ∀ {cl : List (Str × Addr)}, ClOk cells cl → ∀ {x : Str} {c : Addr}, cl.lookup x = some c → cells.lookup x = some c
  | (y, d) :: r, ⟨h, hr⟩, x, c, e => by
    by_cases q : x = y
    · subst q
      simp only [List.lookup_cons, beq_self_eq_true] at e
      cases e
      exact h
    · have q' : (x == y) = false := by simpa using q
      simp only [List.lookup_cons, q'] at e
      exact ClOk.get hr e
def CapsOk (X : Cx) (sc : Scope) (cl : List (Str × Addr)) : List Nat → List Str → Prop
  | [], [] => True
  | j :: js, x :: xs => X.N[j]? = some x ∧ X.env.scope.names.lookup x = some .cell ∧ sc.names.lookup x = some .cell ∧ (cl.lookup x).isSome = true ∧ CapsOk X sc cl js xs
  | _, _ => False
def capV (caps : List Nat) (σ : St) : St := caps.map fun j => (σ[j]?).getD none
def compCx (X : Cx) (N : List Str) (scope : Scope) (cl : List (Str × Addr)) (C : Addr) (s : Shared) (H : Hp) (fp : List Addr) : Cx where
  prog := X.prog
  w := X.w
  K := X.K
  mg := X.mg
  base := X.base
  A := X.A
  N := N
  s₀ := s
  H₀ := H
  env := compEnvC scope cl C X.env
  outer := X.stack
  stack := X.stack
  ex := fp
  fn := fun _ => false
  calm := X.calm
  pn := []
  xe := fun _ _ => False
theorem mem_of_lookup {α : Type} {x : Str} {k : α} : ∀ {l : List (Str × α)}, l.lookup x = some k → (x, k) ∈ l
  | (y, j) :: r, e => by
    by_cases q : x = y
    · subst q
      simp only [List.lookup_cons, beq_self_eq_true] at e
      cases e
      exact .head _
    · have q' : (x == y) = false := by simpa using q
      simp only [List.lookup_cons, q'] at e
      exact .tail _ (mem_of_lookup e)
section
variable {X : Cx} {pins : List (Addr × Obj)} {σ : St} {H : Hp} {s : Shared} {N : List Str} {scope : Scope} {cl : List (Str × Addr)} {C : Addr} {fp : List Addr} {caps : List Nat} {xs : List Str}
theorem comp_ok (I : Inv X pins σ H s) (hcl : ClOk X.env.cells cl) (hk : scope.kind = .function) (hfp : ∀ b ∈ fp, FpOk X pins H b) (hlt : ∀ b ∈ fp, b < s.heap.objs.size)
    (hhas : ((relabel scope X.env).names.all fun y => !(y.2 == .cell || y.2 == .free) || (cl.lookup y.1).isSome) = true) (hC : s.heap.objs.size ≤ C) : (compCx X N scope cl C s H fp).Ok where
  mod := I.ok.mod
  kind := hk
  glob := I.ok.glob
  blt := I.ok.blt
  above := hC
  inj := fun x y c h1 h2 => I.ok.inj x y c (hcl.get h1) (hcl.get h2)
  has := fun x h => by
    have key : ∀ k : NameKind, (k = .cell ∨ k = .free) → (relabel scope X.env).names.lookup x = some k → ∃ c, cl.lookup x = some c := fun k hk e => by
      have h1 := List.all_eq_true.mp hhas _ (mem_of_lookup e)
      have h2 : (cl.lookup x).isSome = true := by
        rcases hk with rfl | rfl <;> simpa using h1
      exact Option.isSome_iff_exists.mp h2
    rcases h with h | h
    · exact key _ (.inl rfl) h
    · exact key _ (.inr rfl) h
  cab := fun x c h => by cases h
  hd := I.ok.hd
  frames := I.ok.frames
  stk := .inl rfl
  exf := fun b hb => ⟨fun z => by
      have h1 : @LT.lt Nat instLTNat b s.heap.objs.size := hlt b hb
      have z' : @Eq Nat b C := z
      have hC' : @LE.le Nat _ s.heap.objs.size C := hC
      omega, fun x c e => (hfp b hb).2.2.2.2.1 x c (hcl.get e)⟩
  bs := I.bs
  bsz := Nat.le_trans I.ok.bsz I.sz
  noex := fun b o e hb => by
    rcases (hfp b hb).2.2.2.1 with z | z
    · exact I.ok.noex b o e z
    · have h1 : @LT.lt Nat _ b X.base.objs.size := Heap.lt_size e
      have h2 := I.ok.bsz
      have z' : @LE.le Nat _ X.s₀.heap.objs.size b := z
      omega
  exfs := fun b hb z => by
    have h1 := I.stkSub b z
    rcases List.mem_cons.mp h1 with q | q
    · exact (hfp b hb).2.1 q
    · exact (hfp b hb).2.2.1 q
  funs := I.stack
  frf := I.stkFree
theorem cap_get : ∀ {caps : List Nat} {xs : List Str}, CapsOk X (relabel scope X.env) cl caps xs → ∀ {i : Nat} {x : Str} {v : V}, xs[i]? = some x → (capV caps σ)[i]? = some (some v) →
    ∃ j : Nat, X.N[j]? = some x ∧ σ[j]? = some (some v) ∧ X.env.scope.names.lookup x = some .cell ∧ (relabel scope X.env).names.lookup x = some .cell ∧ ∃ c, cl.lookup x = some c
  | [], [], _, i, x, v, h, _ => by simp at h
  | j :: js, y :: ys, ⟨h1, h2, h3, h4, hr⟩, 0, x, v, h, e => by
    simp only [List.getElem?_cons_zero, Option.some.injEq] at h
    subst h
    have e' : (σ[j]?).getD none = some v := by simpa [capV] using e
    refine ⟨j, h1, ?_, h2, h3, Option.isSome_iff_exists.mp h4⟩
    cases q : σ[j]? with
    | none => rw [q] at e'; cases e'
    | some o => rw [q] at e'; exact congrArg some e'
  | j :: js, y :: ys, ⟨_, _, _, _, hr⟩, i + 1, x, v, h, e => cap_get hr (by simpa using h) (by simpa [capV] using e)
theorem comp_start (I : Inv X pins σ H s) (hcl : ClOk X.env.cells cl) (hk : scope.kind = .function) (hfp : ∀ b ∈ fp, FpOk X pins H b) (hlt : ∀ b ∈ fp, b < s.heap.objs.size)
    (hhas : ((relabel scope X.env).names.all fun y => !(y.2 == .cell || y.2 == .free) || (cl.lookup y.1).isSome) = true) (hC : s.heap.objs.size ≤ C)
    (hcap : CapsOk X (relabel scope X.env) cl caps xs) (hlen : caps.length = xs.length) {x : Str} {h₁ : Heap} {t : Nat} {m : Str → Option Value} (hn : h₁.Ns C m) (kp : ∀ b o, s.heap.get? b = some o → h₁.get? b = some o) :
    Inv (compCx X (x :: xs) scope cl C s H fp) [] (none :: capV caps σ) H { s with heap := h₁, toks := t } where
  ok := comp_ok I hcl hk hfp hlt hhas hC
  os := rfl
  bare := I.bare
  base := Un.kept kp
  loc := by
    refine ⟨m, hn, fun i y v h1 h2 _ => ?_⟩
    cases i with
    | zero => simp at h2
    | succ i =>
      obtain ⟨j, e1, e2, e3, e4, c, e5⟩ := cap_get (X := X) (scope := scope) hcap (i := i) (by simpa [compCx] using h1) (by simpa using h2)
      obtain ⟨m₀, _, hl⟩ := I.loc
      obtain ⟨u, r, lk⟩ := hl j y v e1 e2 (.inr (.inl e3))
      refine ⟨u, r, .inr ⟨.inl e4, c, e5, ?_⟩⟩
      rcases lk with ⟨z, _⟩ | ⟨_, c', q1, q2⟩
      · have z' : X.env.scope.names.lookup y = some .local := z
        rw [e3] at z'
        cases z'
      · rw [hcl.get e5] at q1
        cases q1
        obtain ⟨o, ho, hd⟩ := q2
        exact ⟨o, kp _ _ ho, hd⟩
  cell := fun y c e => by
    obtain ⟨v, o, ho, hd⟩ := I.cell y c (hcl.get e)
    exact ⟨v, o, kp _ _ ho, hd⟩
  free := I.hok.fresh hC
  freeC := fun y c e => I.freeC y c (hcl.get e)
  pin := fun p hp => by
    have hp' : p ∈ ([] : List (Addr × Obj)) := hp
    cases hp'
  hok := I.hok.kept kp
  len := by simp [compCx, capV, hlen]
end
def PTs (X : Cx) (ifs : List Expr) (t : TT) : Prop :=
  ∀ (pins : List (Addr × Obj)) (s : Shared) (σ : St) (H : Hp) (Q : Bool → Hp → Prop), Inv X pins σ H s → t σ H Q →
    wpAny (model X.prog X.w) X.A (forIn ifs true fun c r => if r = true then do let ok ← isTrue c X.env (eval c X.env); pure (ForInStep.yield ok) else pure (ForInStep.yield r)) (TP X pins σ Q) X.xe s
theorem pts_nil {X : Cx} : PTs X [] (fun _ H Q => Q true H) := fun _ _ _ H _ I h => wpAny_tests_nil ⟨H, I, h⟩
theorem pts_one {X : Cx} {c : Expr} {t : TT} (h : PT X c t) : PTs X [c] t := fun pins s σ H Q I q => wpAny_tests_one (h pins s σ H Q I q)
def tComp (caps : List Nat) (wi : TI) (tt : TT) (te : TE) : TE := fun σ H Q => wi σ H fun J H1 => ∃ (n : Nat) (W : Nat → List V → Hp → Prop), n ≤ sizeLine ∧ W 0 [] H1 ∧ ∀ i ys H2, W i ys H2 →
  (J.stop i H2 ∧ ∀ p, H2 p = none → Q (.ref p) (upd H2 p (.lst ys))) ∨
  (J.go i H2 ∧ i < n ∧ ∀ x H3, J.yld i H2 x H3 → tt (some x :: capV caps σ) H3 fun b H4 => if b = true then te (some x :: capV caps σ) H4 fun v H5 => W (i + 1) (ys ++ [v]) H5 else W (i + 1) ys H4)
section
variable {prog : Program} {w : World} {A : Around} {R : Result → Shared → Prop} {s : Shared}
theorem comp_loop {elt target iter : Expr} {ifs : List Expr} {scope : Scope} {pos : Pos} {it acc : Value} {env : Env} (I : Nat → Shared → Prop)
    (turn : ∀ n s, I n s → wpAny (model prog w) A (pyNext it) (fun r s₁ => match r with
      | none => R (.ok .next) s₁
      | some v => wpAny (model prog w) A (letOwnedTupleGo target it v) (fun _ s₁ => wpAny (model prog w) A (assign target env v) (fun _ s₂ =>
          wpAny (model prog w) A (forIn ifs true fun c r => if r = true then do let ok ← isTrue c env (eval c env); pure (ForInStep.yield ok) else pure (ForInStep.yield r)) (fun ok s₃ =>
            if ok = true then wpAny (model prog w) A (eval elt env) (fun x s₄ =>
              wpAny (model prog w) A (call (.builtin "list.append") [acc, x]) (fun _ s₅ => ∃ m, m < n ∧ I m s₅) (fun _ _ => False) s₄) (fun _ _ => False) s₃
            else ∃ m, m < n ∧ I m s₃) (fun _ _ => False) s₂) (fun _ _ => False) s₁) (fun _ _ => False) s₁) (fun _ _ => False) s)
    (n : Nat) (h : I n s) :
    codeAny (model prog w) A (.compLoop (.ListComp elt [⟨target, iter, ifs, 0⟩] scope pos) 0 it acc env) R s := by
  refine codeAny_loop rfl I (fun n s hI => ?_) n h
  show wpAny _ A ((compTurn (.ListComp elt [⟨target, iter, ifs, 0⟩] scope pos) 0 it acc env).onRaise (fun x => do noteFrame x env; theTreesLotGoes x)) _ _ s
  refine wpAny_noted ?_
  rw [compTurn_list]
  refine wpAny_bind (wpAny_standAt (wpAny_bind (wpAny_mono (turn n s hI) (fun r s₁ h₁ => ?_) fun _ _ h' => h'.elim)))
  cases r with
  | none => exact wpAny_pure h₁
  | some v =>
    refine wpAny_bind (wpAny_mono h₁ (fun _ s₁ h₁ => ?_) fun _ _ h' => h'.elim)
    refine wpAny_bind (wpAny_mono h₁ (fun _ s₂ h₂ => wpAny_bind (wpAny_mono h₂ (fun ok s₃ h₃ => ?_) fun _ _ h' => h'.elim)) fun _ _ h' => h'.elim)
    cases ok with
    | false => exact wpAny_pure ⟨rfl, h₃⟩
    | true =>
      exact wpAny_bind (wpAny_bind (wpAny_mono h₃ (fun x s₄ h₄ => wpAny_bind (wpAny_mono h₄ (fun _ s₅ h₅ => wpAny_pure (wpAny_pure ⟨rfl, h₅⟩)) fun _ _ h' => h'.elim)) fun _ _ h' => h'.elim))
end
def Loose (X : Cx) (pins : List (Addr × Obj)) (H : Hp) (C : Addr) : Prop :=
  H C = none ∧ C ≠ X.env.locals ∧ X.s₀.heap.objs.size ≤ C ∧ (∀ x c, X.env.cells.lookup x = some c → c ≠ C) ∧ ∀ p ∈ X.pn ++ pins, p.1 ≠ C
theorem Inv.letGo {X : Cx} {pins : List (Addr × Obj)} {σ : St} {H : Hp} {s : Shared} {C : Addr} {h' : Heap} (I : Inv X pins σ H s) (l : Loose X pins H C) (k : Heap.SameBut C s.heap h') : Inv X pins σ H { s with heap := h' } :=
  I.turned (it := C) (t' := s.toks) (fun b o hb e => k.extBut b o hb e) l.1 l.2.1 (.inr l.2.2.1) l.2.2.2.1 l.2.2.2.2
section
variable {X : Cx}
theorem comp_block {elt iter : Expr} {x : Str} {px pos : Pos} {ifs : List Expr} {scope : Scope} {cl : List (Str × Addr)} {caps : List Nat} {xs : List Str} {tt : TT} {te : TE}
    (hc : X.calm = true) (hcl : ClOk X.env.cells cl) (hcap : CapsOk X (relabel scope X.env) cl caps xs) (hlen : caps.length = xs.length)
    (hkind : scope.kind = .function) (hcell : ∀ y ∈ scope.names, y.2 ≠ .cell)
    (hhas : ((relabel scope X.env).names.all fun y => !(y.2 == .cell || y.2 == .free) || (cl.lookup y.1).isSome) = true)
    (hx : (relabel scope X.env).names.lookup x = some .local) (hN : (x :: xs).Nodup)
    (ht : ∀ C s H fp, PTs (compCx X (x :: xs) scope cl C s H fp) ifs tt) (he : ∀ C s H fp, PE (compCx X (x :: xs) scope cl C s H fp) elt te)
    {pins : List (Addr × Obj)} {σ : St} {H1 : Hp} {s2 : Shared} {it : Addr} {fp : List Addr} {tn : Nat → Heap → Prop} {J : It} {Q : VK}
    (I2 : Inv X pins σ H1 s2) (T : Turn X.prog X.w X.K (.Name x px) J fp it tn) (st0 : tn 0 s2.heap) (hfp : ∀ b ∈ fp, FpOk X pins H1 b)
    (hq : ∃ (n : Nat) (W : Nat → List V → Hp → Prop), n ≤ sizeLine ∧ W 0 [] H1 ∧ ∀ i ys H2, W i ys H2 →
      (J.stop i H2 ∧ ∀ p, H2 p = none → Q (.ref p) (upd H2 p (.lst ys))) ∨
      (J.go i H2 ∧ i < n ∧ ∀ x H3, J.yld i H2 x H3 → tt (some x :: capV caps σ) H3 fun b H4 => if b = true then te (some x :: capV caps σ) H4 fun v H5 => W (i + 1) (ys ++ [v]) H5 else W (i + 1) ys H4))
    {RR : Value → Addr → Result → Shared → Prop}
    (hRR : ∀ s1 D C m H', Inv X pins σ H' s1 → s1.heap.Ns C m → Loose X pins H' C → Q (.ref D) H' → RR (.ref D) C (.ok .next) s1) :
    wpAny (model X.prog X.w) X.A (newList []) (fun acc s₃ => wpAny (model X.prog X.w) X.A (newFunctionEnv scope X.env.globals cl [] X.env.qual none .none (some X.env)) (fun cenv s₄ =>
      codeAny (model X.prog X.w) X.A (.compStart (.ListComp elt [⟨.Name x px, iter, ifs, 0⟩] scope pos) 0 (.ref it) acc { cenv with scope := relabel scope X.env }) (RR acc cenv.locals) s₄) X.xe s₃) X.xe s2 := by
  obtain ⟨n, W, hn, w0, hW⟩ := hq
  have hlt : ∀ b ∈ fp, b < s2.heap.objs.size := fun b hb => by
    obtain ⟨o, ho, _⟩ := T.obj 0 s2.heap st0 b hb
    exact Heap.lt_size ho
  refine wpAny_newObj_type (wpAny_newFunctionEnv hcell (by intro y hy; simp at hy) (fun h₁ hns₁ hsb₁ => ?_) hkind)
  dsimp only at hns₁ hsb₁ ⊢
  generalize hH2 : s2.heap.push { cls := .type "list", dict := none, data := .seq ([] : List Value).toArray } = G at hns₁ hsb₁ ⊢
  have hC : G.objs.size = s2.heap.objs.size + 1 := by rw [← hH2, Heap.size_push]
  have hDC : s2.heap.objs.size ≠ G.objs.size := by omega
  have old : ∀ b o, s2.heap.get? b = some o → h₁.get? b = some o := fun b o e => hsb₁.extBut b o (adr (by have h1 : @LT.lt Nat _ b s2.heap.objs.size := Heap.lt_size e; omega)) (Heap.get?_push_of_some _ (hH2 ▸ Heap.get?_push_of_some _ e))
  have hacc : h₁.get? s2.heap.objs.size = some { cls := .type "list", dict := none, data := .seq ([] : List Value).toArray } :=
    hsb₁.extBut _ _ hDC (Heap.get?_push_of_some _ (hH2 ▸ Heap.get?_push_size _ rfl))
  have I3 : Inv (compCx X (x :: xs) scope cl G.objs.size s2 H1 fp) [] (none :: capV caps σ) H1 { s2 with heap := h₁, toks := s2.toks + ([] : List (Str × Value)).length } :=
    comp_start I2 hcl hkind hfp hlt hhas (by omega) hcap hlen hns₁ old
  have st1 : tn 0 h₁ := T.keep 0 _ _ st0 fun b hb o e => old b o e
  have fpX : ∀ {pins' : List (Addr × Obj)} {H' : Hp} (b : Addr), b ∈ fp → H' b = none → (∀ p ∈ pins', p.1 ≠ b) → FpOk (compCx X (x :: xs) scope cl G.objs.size s2 H1 fp) pins' H' b := fun b hb hh hp =>
    ⟨hh, fun z => by have h1 : @LT.lt Nat _ b s2.heap.objs.size := hlt b hb; have z' : @Eq Nat b G.objs.size := z; omega, fun z => by
      rcases List.mem_cons.mp (I2.stkSub b z) with q | q
      · exact (hfp b hb).2.1 q
      · exact (hfp b hb).2.2.1 q, .inl hb, fun y c e => (hfp b hb).2.2.2.2.1 y c (hcl.get e), fun p hp' => hp p hp'⟩
  let XC := compCx X (x :: xs) scope cl G.objs.size s2 H1 fp
  have loop : ∀ s3 : Shared, s3 = { s2 with heap := h₁, toks := s2.toks + ([] : List (Str × Value)).length } →
      codeAny (model X.prog X.w) X.A (.compLoop (.ListComp elt [⟨.Name x px, iter, ifs, 0⟩] scope pos) 0 (.ref it) (.ref s2.heap.objs.size) (compEnvC scope cl G.objs.size X.env))
        (RR (.ref s2.heap.objs.size) G.objs.size) s3 := by
    rintro s3 rfl
    refine comp_loop (fun m s' => ∃ (i : Nat) (ys : List V) (Hn : Hp) (its : List Value) (k : Nat) (v0 : Option V), m = n + 1 - i ∧ i ≤ n ∧ ys.length ≤ i ∧ W i ys Hn ∧ Vals ys its ∧ tn i s'.heap ∧ (∀ b ∈ fp, Hn b = none) ∧
      Inv XC [(s2.heap.objs.size, { cls := .type "list", data := .seq its.toArray k })] (v0 :: capV caps σ) Hn s') ?_ (n + 1) ?_
    · rintro m s' ⟨i, ys, Hn, its, k, v0, rfl, hin, hyl, w, rv, st, hfn, J'⟩
      have pD := J'.pin _ (List.mem_append_right _ (List.mem_singleton.mpr rfl))
      have neD : ∀ b ∈ fp, ∀ p ∈ [((s2.heap.objs.size, ({ cls := .type "list", data := .seq its.toArray k } : Obj)))], p.1 ≠ b := fun b hb p hp z => by
        have h1 : @LT.lt Nat instLTNat b s2.heap.objs.size := hlt b hb
        rw [List.mem_singleton.mp hp] at z
        have z' : @Eq Nat s2.heap.objs.size b := z
        omega
      rcases hW i ys Hn w with ⟨hstop, fin⟩ | ⟨hgo, hi', hgo'⟩
      · -- it stops
        refine wpAny_mono (T.done XC rfl rfl rfl hc i _ s' _ Hn (fun _ _ => False) J' (fun b hb => fpX b hb (hfn b hb) (neD b hb)) st hstop) (fun r s1 hr => ?_) fun _ _ z => z
        obtain ⟨rfl, J1⟩ := hr
        obtain ⟨mC, hnC, _⟩ := J1.loc
        have pD1 := J1.pin _ (List.mem_append_right _ (List.mem_singleton.mpr rfl))
        have hD' : s1.heap.get? s2.heap.objs.size = some { cls := .type "list", data := .seq its.toArray k } := pD1.1
        have hHD : Hn s2.heap.objs.size = none := pD1.2.1
        have hHC : Hn G.objs.size = none := J1.free
        have un : Un (frs X.stack) fp H1 (upd Hn s2.heap.objs.size (.lst ys)) s2.heap s1.heap := by
          have u := J1.base
          have lt2 : ∀ b o, s2.heap.get? b = some o → b ≠ G.objs.size ∧ b ≠ s2.heap.objs.size := fun b o e => by
            have h1 := ltN e
            exact ⟨adr (by omega), adr (by omega)⟩
          refine ⟨u.keep, u.slot, fun b o e n1 n2 => ?_, u.there, fun b zs e => ?_, fun b o u' e => ?_, fun b ps e => ?_⟩
          · rw [upd_ne (lt2 b o e).2]
            exact u.free b o e n1 n2
          · have q := u.tups b zs e
            rw [upd_ne (fun z => by rw [z, hHD] at q; cases q)]
            exact q
          · have q := u.frzs b o u' e
            rw [upd_ne (fun z => by rw [z, hHD] at q; cases q)]
            exact q
          · obtain ⟨more, q⟩ := u.tbls b ps e
            refine ⟨more, ?_⟩
            rw [upd_ne (fun z => by rw [z, hHD] at q; cases q)]
            exact q
        have hok : HOk X.prog X.w (upd Hn s2.heap.objs.size (.lst ys)) s1.heap := fun a o e => by
          by_cases ha : a = s2.heap.objs.size
          · subst ha
            rw [upd_same] at e
            cases e
            exact ⟨by omega, its, k, rv, hD'⟩
          · rw [upd_ne ha] at e
            have q : ObjOk X.prog X.w Hn s1.heap a o := J1.hok a o e
            refine q.stay (fun b u' hb e' => e') (fun b e' => ?_) fun b zs e' => ?_
            · rw [upd_ne (fun z => by rw [z, hHD] at e'; cases e')]; exact e'
            · rw [upd_ne (fun z => by rw [z, hHD] at e'; cases e')]; exact e'
        have I4 : Inv X pins σ (upd Hn s2.heap.objs.size (.lst ys)) s1 :=
          I2.call' (ch := fp) J1.os un hok J1.bare fun b hb => ⟨(hfp b hb).2.2.2.1, (hfp b hb).2.1, (hfp b hb).2.2.2.2.1, (hfp b hb).2.2.2.2.2⟩
        refine hRR s1 _ _ mC _ I4 hnC ⟨by rw [upd_ne (Ne.symm hDC)]; exact hHC, fun z => ?_, by have := I2.sz; omega, fun y c e z => ?_, fun p hp z => ?_⟩ (fin _ hHD)
        · have h1 : @LT.lt Nat instLTNat X.env.locals s2.heap.objs.size := I2.lt
          have z' : @Eq Nat G.objs.size X.env.locals := z
          omega
        · obtain ⟨v', o', ho', _⟩ := I2.cell y c e
          have h1 := ltN ho'
          have z' : @Eq Nat c G.objs.size := z
          omega
        · have h1 := ltN (I2.pin p hp).1
          have z' : @Eq Nat p.1 G.objs.size := z
          omega
      · -- a turn
        refine wpAny_mono (T.item XC rfl rfl rfl hc i _ s' _ Hn (fun _ _ => False) J' (fun b hb => fpX b hb (hfn b hb) (neD b hb)) st hgo) (fun r s1 hr => ?_) fun _ _ z => z
        obtain ⟨u, rfl, hr⟩ := hr
        refine wpAny_mono hr (fun _ s2' h2 => ?_) fun _ _ z => z
        obtain ⟨v, H3, J1, ru, hy, st1', hf3⟩ := h2
        refine wpAny_assign_Name ?_
        refine store_ok2 (v := v) J1 hN (i := 0) rfl (.inl hx) ru (fun s4 J2 hsb => ?_) (.inr hx)
        have st4 : tn (i + 1) s4.heap := by
          obtain ⟨a, hsa, ha⟩ := hsb
          refine T.keep _ _ _ st1' fun b hb o e => hsa.extBut b o (fun z => ?_) e
          rcases ha with ha | ha
          · have h1 : @LT.lt Nat instLTNat b s2.heap.objs.size := hlt b hb
            have ha' : @Eq Nat a G.objs.size := ha
            have z' : @Eq Nat b a := z
            omega
          · exact (hfp b hb).2.2.2.2.1 x a (hcl.get ha) z.symm
        have J2' : Inv XC [(s2.heap.objs.size, { cls := .type "list", data := .seq its.toArray k })] (some v :: capV caps σ) H3 s4 := J2
        have ob4 : ∀ b ∈ fp, ∃ o, s4.heap.get? b = some o ∧ ∀ v, o.data ≠ .cell v := fun b hb => T.obj _ _ st4 b hb
        have J3 := J2'.pinned (fun b hb => fpX b hb (hf3 b hb) (neD b hb)) ob4
        have tnAt : ∀ {σ' : St} {H' : Hp} {s'' : Shared}, Inv XC ([(s2.heap.objs.size, ({ cls := .type "list", data := .seq its.toArray k } : Obj))] ++ pinsAt fp s4.heap) σ' H' s'' → tn (i + 1) s''.heap ∧ ∀ b ∈ fp, H' b = none := fun J4 =>
          ⟨T.keep _ _ _ st4 fun b hb o e => (J4.pin (b, o) (List.mem_append_right _ (List.mem_append_right _ (mem_pinsAt hb e)))).1, fun b hb => by
            obtain ⟨o, e, _⟩ := ob4 b hb
            exact (J4.pin (b, o) (List.mem_append_right _ (List.mem_append_right _ (mem_pinsAt hb e)))).2.1⟩
        refine thn (ht _ _ _ _ _ s4 _ H3 _ J3 (hgo' v H3 hy)) fun ok s5 ⟨H4, J4, q4⟩ => ?_
        cases ok with
        | false =>
          rw [if_neg (by simp)]
          have q4' : W (i + 1) ys H4 := q4
          obtain ⟨a1, a2⟩ := tnAt J4
          exact ⟨n + 1 - (i + 1), by omega, i + 1, ys, H4, its, k, some v, rfl, by omega, by omega, q4', rv, a1, a2, J4.unpinned⟩
        | true =>
          rw [if_pos rfl]
          have q4' : te (some v :: capV caps σ) H4 fun v H5 => W (i + 1) (ys ++ [v]) H5 := q4
          refine thn (he _ _ _ _ _ s5 _ H4 _ J4 q4') fun uv s6 ⟨y, H5, J5, ry, q5⟩ => ?_
          obtain ⟨a1, a2⟩ := tnAt J5
          have pD6 := J5.pin _ (List.mem_append_right _ (List.mem_append_left _ (List.mem_singleton.mpr rfl)))
          have hl6 := rv.length
          refine call_meets F.slot_list_append ⟨_, pD6.1, rfl⟩ F.entry_list_append (F.args_list_append_2 _ _) (PySem.list_append s2.heap.objs.size its.toArray k uv (by rw [List.size_toArray]; omega)) ⟨pD6.1, ?_⟩
          have J6 : Inv XC [] (some v :: capV caps σ) H5 s6 := J5.pins_of fun p hp => by cases hp
          have ne6 : s2.heap.objs.size ∉ fp := fun z => by have h1 : @LT.lt Nat instLTNat s2.heap.objs.size s2.heap.objs.size := hlt _ z; omega
          have J7 : Inv XC [] (some v :: capV caps σ) H5 { s6 with heap := s6.heap.update s2.heap.objs.size (Obj.mapSeq fun xs => xs.push uv), toks := s6.toks } :=
            J6.turned (it := s2.heap.objs.size) (fun b o hb e => by rw [Heap.get?_update_other _ _ (Ne.symm hb)]; exact e) pD6.2.1 (fun z => hDC z) (.inr (Nat.le_refl _)) (fun y c e z => by
              have e1 := I2.cell y c (hcl.get e)
              obtain ⟨v', o', ho', _⟩ := e1
              have h1 := ltN ho'
              have z' : @Eq Nat c s2.heap.objs.size := z
              omega) (fun p hp => by cases hp)
          refine ⟨n + 1 - (i + 1), by omega, i + 1, ys ++ [y], H5, its ++ [uv], k + 1, some v, rfl, by omega, by rw [List.length_append, List.length_singleton]; omega, q5, rv.append (.cons ry .nil), ?_, a2, ?_⟩
          · refine T.keep _ _ _ a1 fun b hb o e => ?_
            show (s6.heap.update s2.heap.objs.size _).get? b = some o
            rw [Heap.get?_update_other _ _ (fun z => ne6 (by rw [z]; exact hb))]
            exact e
          · refine J7.pins_of fun p hp => ?_
            rw [List.mem_singleton.mp hp]
            refine ⟨?_, pD6.2.1, fun z => hDC z, pD6.2.2.2.1, fun v' z => ?_⟩
            · show (s6.heap.update s2.heap.objs.size _).get? s2.heap.objs.size = _
              rw [Heap.get?_update_self _ pD6.1 rfl]
              simp only [Obj.mapSeq, List.push_toArray]
              rw [if_neg (by simp)]
            · have z' : Data.seq _ _ = Data.cell v' := z
              cases z'
    · exact ⟨0, [], H1, [], 0, none, by omega, by omega, by simp, w0, .nil, st1, fun b hb => (hfp b hb).1, I3.pins_of fun p hp => by
        rw [List.mem_singleton.mp hp]
        refine ⟨hacc, I2.hok.fresh (Nat.le_refl _), fun z => hDC z, fun z => ?_, fun v' z => ?_⟩
        · have := I2.stkFree _ z
          rcases List.mem_cons.mp (I2.stkSub _ z) with q | q
          · have h1 : @LT.lt Nat instLTNat X.env.locals s2.heap.objs.size := I2.lt
            have z' : @Eq Nat s2.heap.objs.size X.env.locals := q
            omega
          · exact I2.nofs (Nat.le_refl _) q
        · have z' : Data.seq _ _ = Data.cell v' := z
          cases z'⟩
  exact codeAny_compStart_list (loop _ rfl) (T.self X.A 0 _ _ _ st1 (loop _ rfl))
theorem pe_comp {elt iter : Expr} {x : Str} {px pos : Pos} {ifs : List Expr} {scope : Scope} {cl : List (Str × Addr)} (caps : List Nat) (xs : List Str) {wi : TI} {tt : TT} {te : TE}
    (hc : X.calm = true) (hclos : closureFor scope X.env = pure cl) (hcl : ClOk X.env.cells cl) (hcap : CapsOk X (relabel scope X.env) cl caps xs) (hlen : caps.length = xs.length)
    (hkind : scope.kind = .function) (hcell : ∀ y ∈ scope.names, y.2 ≠ .cell) (hnames : ∀ y ∈ scope.names, y.2 = .local → scope.names.lookup y.1 = some .local)
    (hhas : ((relabel scope X.env).names.all fun y => !(y.2 == .cell || y.2 == .free) || (cl.lookup y.1).isSome) = true)
    (hx : (relabel scope X.env).names.lookup x = some .local) (hN : (x :: xs).Nodup)
    (hi : PI X (.Name x px) iter wi) (ht : ∀ C s H fp, PTs (compCx X (x :: xs) scope cl C s H fp) ifs tt) (he : ∀ C s H fp, PE (compCx X (x :: xs) scope cl C s H fp) elt te)
    (hs : ∀ v, foldedSetIterable iter X.env v = pure v := by intro _; rfl) : PE X (.ListComp elt [⟨.Name x px, iter, ifs, 0⟩] scope pos) (tComp caps wi tt te) := by
  intro pins s σ H Q I h
  rw [eval_ListComp]
  refine wpAny_comprehension_free (use := none) rfl hs hclos hkind hnames (wpAny_mono (hi pins s σ H _ I h) (fun v s1 h1 => wpAny_mono h1 (fun itv s2 h2 => ?_) fun _ _ e => e) fun _ _ e => e)
  obtain ⟨it, fp, tn, J, H1, rfl, I2, T, st0, hfp, hq⟩ := h2
  refine comp_block (RR := fun acc C => compPost (model X.prog X.w) X.A X.xe none (EP X pins σ Q) acc C) hc hcl hcap hlen hkind hcell hhas hx hN ht he I2 T st0 hfp hq ?_
  intro s1 D C m H' I4 hn l q
  exact ⟨m, hn, fun h' hsb => ⟨.ref D, H', I4.letGo l hsb, rfl, q⟩⟩
theorem ps_comp {elt iter : Expr} {x y : Str} {px py pos spos : Pos} {ifs : List Expr} {scope : Scope} {cl : List (Str × Addr)} {k : Nat} (caps : List Nat) (xs : List Str) {wi : TI} {tt : TT} {te : TE}
    (hsw : swapsWith (.ListComp elt [⟨.Name x px, iter, ifs, 0⟩] scope pos) (some (.Name y py)) spos.line X.env = pure true)
    (hNX : X.N.Nodup) (hk : X.N[k]? = some y) (hy : X.env.scope.names.lookup y = some .local)
    (hc : X.calm = true) (hclos : closureFor scope X.env = pure cl) (hcl : ClOk X.env.cells cl) (hcap : CapsOk X (relabel scope X.env) cl caps xs) (hlen : caps.length = xs.length)
    (hkind : scope.kind = .function) (hcell : ∀ y ∈ scope.names, y.2 ≠ .cell) (hnames : ∀ y ∈ scope.names, y.2 = .local → scope.names.lookup y.1 = some .local)
    (hhas : ((relabel scope X.env).names.all fun y => !(y.2 == .cell || y.2 == .free) || (cl.lookup y.1).isSome) = true)
    (hx : (relabel scope X.env).names.lookup x = some .local) (hN : (x :: xs).Nodup)
    (hi : PI X (.Name x px) iter wi) (ht : ∀ C s H fp, PTs (compCx X (x :: xs) scope cl C s H fp) ifs tt) (he : ∀ C s H fp, PE (compCx X (x :: xs) scope cl C s H fp) elt te)
    (hs : ∀ v, foldedSetIterable iter X.env v = pure v := by intro _; rfl) : PS X (.Assign [.Name y py] (.ListComp elt [⟨.Name x px, iter, ifs, 0⟩] scope pos) spos) (tAsg (tComp caps wi tt te) (gName k)) := by
  intro pins s σ H D I h
  rw [exec_Assign_Name_used _ _ _ _ hsw]
  refine wpAny_bind (wpAny_standAt (wpAny_bind ?_))
  show wpAny _ X.A (do let _ ← comprehension (.ListComp elt [⟨.Name x px, iter, ifs, 0⟩] scope pos) scope X.env _ (newList []) false (eval iter X.env) (some (assign (.Name y py) X.env))) _ _ s
  refine wpAny_bind (wpAny_mono (wpAny_comprehension_free (use := some (assign (.Name y py) X.env)) (Q := fun _ s' => SP X pins D .next s') rfl hs hclos hkind hnames
    (wpAny_mono (hi pins s σ H _ I h) (fun xv s₁ h₁ => wpAny_mono h₁ (fun itv s2 h2 => ?_) fun _ _ e => e) fun _ _ e => e)) (fun _ s' hq => wpAny_pure (wpAny_pure hq)) fun _ _ e => e)
  obtain ⟨it, fp, tn, J, H1, rfl, I2, T, st0, hfp, hq⟩ := h2
  refine comp_block (Q := fun v H1 => gName k v σ H1 D.nx) (RR := fun acc C => compPost (model X.prog X.w) X.A X.xe (some (assign (.Name y py) X.env)) (fun _ s' => SP X pins D .next s') acc C) hc hcl hcap hlen hkind hcell hhas hx hN ht he I2 T st0 hfp hq ?_
  intro s1 Da C m H' I4 hn l q
  show wpAny _ X.A (assign (.Name y py) X.env (.ref Da)) _ _ s1
  refine wpAny_assign_Name (store_ok2 (v := .ref Da) I4 hNX hk (.inl hy) rfl (fun s4 I5 hsb => ?_) (.inr hy))
  obtain ⟨a, hsa, ha⟩ := hsb
  have hCa : C ≠ a := by
    rcases ha with ha | ha
    · rw [ha]; exact l.2.1
    · exact Ne.symm (l.2.2.2.1 y a ha)
  refine ⟨m, hn.sameBut hsa hCa, fun h' hsb => ⟨_, H', I5.letGo l hsb, q⟩⟩
end
end L2
namespace L2
open PySem PySem.Spec PyProof.Rows
theorem same_new {H : Hp} {p : Addr} (h : H p = none) (o : HO) : Same H (upd H p o) := fun b u q => by rw [upd_ne (ne_of_none q h)]; exact q
structure Def (P : Program) (w : World) (K : PySem.W.Frag) (mg : Str → Option Value) (base : Heap) (x : Str) (k : Nat) (ps : List Str) (sp : Sp) : Prop where
  ex : ∃ (f : Addr) (fd : FuncData), FnOk P w K mg base CX0 k f fd ps sp ∧ Binds K fd ps [] ∧ PySem.W.keepIn K (.ref f) = true ∧ mg x = some (.ref f)
theorem def_mk {P : Program} {w : World} {K : PySem.W.Frag} {mg : Str → Option Value} {base : Heap} {x qual : Str} {st : Stmt} {f : Addr} {fd : FuncData} {k : Nat} {ps : List Str} {sp : Sp} (F : Fun K x qual st f fd)
    (ok : FnOk P w K mg base CX0 k f fd ps sp) (b : Binds K fd ps []) (m : mg x = some (.ref f)) : Def P w K mg base x k ps sp := ⟨⟨f, fd, ok, b, F.kp, m⟩⟩
section
variable {X : Cx} {x : Str} {j k : Nat} {ps : List Str} {sp : Sp} {p pos : Pos} {e : Expr} {es : List Expr} {t : TA}
theorem pe_def (D : Def X.prog X.w X.K X.mg X.base x j ps sp) (hr : Room k X.A) (hg : Gl X x) (ha : PA X (e :: es) t) (hjk : j ≤ k := by decide) (hdb : (x == ("__debug__" : Str)) = false := by decide)
    (he : starEach (e :: es) X.env = (false, eval e X.env) :: starEach es X.env := by rfl) (hpl : (backTo pos (starEach es X.env)).any (·.1) = false := by rfl) :
    PE X (.Call (.Name x p) (e :: es) [] pos) (tCall sp [] E0 t) := by
  obtain ⟨f, fd, ok, b, kp, m⟩ := D.ex
  exact pe_call ok (hr.mono hjk) hg m kp b .nil pass0 ha hdb he hpl
end
end L2
namespace L2
open PySem PySem.Spec PyProof.Rows
def tJoin (t : TS) : TS := fun D σ H => ∃ R : St → Hp → Prop, (∀ σ' H', R σ' H' → D.nx σ' H') ∧ t { D with nx := R } σ H
theorem ps_join {X : Cx} {st : Stmt} {t : TS} (h : PS X st t) : PS X st (tJoin t) := by
  intro pins s σ H D I ⟨R, hR, q⟩
  refine thn (h pins s σ H _ I q) fun f s' hq => ?_
  cases f with
  | next =>
    obtain ⟨σ', H', I', r⟩ := hq
    exact ⟨σ', H', I', hR _ _ r⟩
  | brk => exact hq
  | cont => exact hq
  | ret v => exact hq
end L2
namespace L2
open PySem PySem.Spec PyProof.Rows
theorem bt_isinstance : bootBuiltins "isinstance" = some (.builtin "isinstance") := by decide +kernel
theorem bt_min : bootBuiltins "min" = some (.builtin "min") := by decide +kernel
theorem bt_max : bootBuiltins "max" = some (.builtin "max") := by decide +kernel
theorem bt_int : bootBuiltins "int" = some (.type "int") := by decide +kernel
theorem bt_list : bootBuiltins "list" = some (.type "list") := by decide +kernel
theorem bt_str : bootBuiltins "str" = some (.type "str") := by decide +kernel
def cInts : List Expr → Option (List Int)
  | [] => some []
  | .Constant (.int i) _ _ :: r => (cInts r).map (i :: ·)
  | _ => none
theorem pa_ints {X : Cx} : ∀ {es : List Expr} {ns : List Int}, cInts es = some ns → PA X es (fun _ H Q => Q (ns.map V.int) H)
  | [], ns, h => by
    simp only [cInts, Option.some.injEq] at h
    subst h
    exact pa_nil
  | e :: es, ns, h => by
    cases e with
    | Constant c k p =>
      cases c with
      | int i =>
        simp only [cInts, Option.map_eq_some_iff] at h
        obtain ⟨ms, h1, rfl⟩ := h
        have q := pa_cons (X := X) (e := .Constant (.int i) k p) pe_int (pa_ints h1) rfl
        exact q
      | _ => simp [cInts] at h
    | _ => simp [cInts] at h
theorem int_pow_le {a b : Int} (h0 : 0 ≤ a) (h : a ≤ b) : ∀ n : Nat, a ^ n ≤ b ^ n
  | 0 => by simp
  | n + 1 => by
    rw [Int.pow_succ, Int.pow_succ]
    have h1 := int_pow_le h0 h n
    have h2 : 0 ≤ a ^ n := Int.pow_nonneg h0
    exact Int.mul_le_mul h1 h h0 (Int.le_trans h2 h1)
end L2
namespace L2
open PySem PySem.Spec PyProof.Rows
theorem ps_eq {X : Cx} {st st' : Stmt} {t : TS} (e : st = st') (h : PS X st' t) : PS X st t := by subst e; exact h
theorem ps_setInts {X : Cx} {st : Stmt} {i : Nat} {x : Str} {es : List Expr} {ns : List Int} {p1 p2 pos : Pos} (e : st = .Assign [.Name x p1] (.List es p2) pos) (hc : cInts es = some ns) (hN : X.N.Nodup) (hi : X.N[i]? = some x) (hx : Loc X.env.scope x)
    (hf : X.fn x = true ∨ X.env.scope.names.lookup x = some .local) : PS X st (tAsg (tLst fun _ H Q => Q (ns.map V.int) H) (gName i)) := by
  subst e
  exact ps_set hN hi hx (pe_lst (pa_ints hc)) rfl hf
end L2
namespace L2
open PySem PySem.Spec PyProof.Rows
def ForIt (J : It) (g : TG) (tb : TS) (D : Ends) (σ : St) (H : Hp) : Prop := ∃ W : Nat → Nat → St → Hp → Prop, (∃ m, W 0 m σ H) ∧ ∀ i m σ H, W i m σ H →
  (J.stop i H ∧ D.nx σ H) ∨ (J.go i H ∧ ∃ N : St → Hp → Prop, (∀ σ' H', N σ' H' → ∃ m', m' < m ∧ W (i + 1) m' σ' H') ∧ ∀ x H', J.yld i H x H' → g x σ H' fun σ2 H2 => tb { D with nx := N, ct := N, bk := D.nx } σ2 H2)
theorem w_for {wi : TI} {g : TG} {tb : TS} {D : Ends} {σ : St} {H : Hp} : tFor wi g tb D σ H = wi σ H fun J H1 => ForIt J g tb D σ H1 := rfl
section
variable {lo c : Int} {n : Nat} {K : PySem.W.Frag} {a : Addr} {xs : List V} {g : TG} {tb : TS} {D : Ends} {σ : St} {H : Hp}
theorem forR (Pv : Nat → St → Hp → Prop) (h0 : Pv 0 σ H)
    (hs : ∀ i σ H, i < n → Pv i σ H → g (.int (lo + i)) σ H fun σ2 H2 => tb { D with nx := Pv (i + 1), ct := Pv (i + 1), bk := D.nx } σ2 H2) (hd : ∀ σ H, Pv n σ H → D.nx σ H) : ForIt (Itr lo n) g tb D σ H := for_range Pv h0 hs hd
theorem forL (xs : List V) (Pv : Nat → St → Hp → Prop) (h0 : Pv 0 σ H) (hl : ∀ i σ H, i ≤ xs.length → Pv i σ H → SqL K H a xs)
    (hs : ∀ i x σ H, xs[i]? = some x → Pv i σ H → g x σ H fun σ2 H2 => tb { D with nx := Pv (i + 1), ct := Pv (i + 1), bk := D.nx } σ2 H2) (hd : ∀ σ H, Pv xs.length σ H → D.nx σ H) : ForIt (Itl K a) g tb D σ H := for_list Pv h0 hl hs hd
theorem forI (ns : List Int) (Pv : Nat → St → Hp → Prop) (h0 : Pv 0 σ H) (hl : ∀ i σ H, Pv i σ H → SqL K H a (ns.map V.int))
    (hs : ∀ i (x : Int) σ H, ns[i]? = some x → Pv i σ H → g (.int x) σ H fun σ2 H2 => tb { D with nx := Pv (i + 1), ct := Pv (i + 1), bk := D.nx } σ2 H2) (hd : ∀ σ H, Pv ns.length σ H → D.nx σ H) : ForIt (Itl K a) g tb D σ H := by
  refine forL (ns.map V.int) Pv h0 (fun i σ H _ h => hl i σ H h) (fun i v σ H hv p => ?_) (fun σ H p => hd σ H (by rw [List.length_map] at p; exact p))
  rw [List.getElem?_map] at hv
  cases z : ns[i]? with
  | none => rw [z] at hv; cases hv
  | some x =>
    rw [z] at hv
    cases hv
    exact hs i x σ H z p
end
theorem whB {c : TT} {tb : TS} {D : Ends} {σ : St} {H : Hp} (W : Nat → St → Hp → Prop) (m : Nat) (h0 : W m σ H) (hs : ∀ m σ H, W m σ H →
    c σ H fun b H1 => if b = true then ∃ N : St → Hp → Prop, (∀ σ' H', N σ' H' → ∃ m', m' < m ∧ W m' σ' H') ∧ tb { D with nx := N, ct := N, bk := D.nx } σ H1 else D.nx σ H1) : tWhile c tb D σ H := ⟨W, ⟨m, h0⟩, hs⟩
theorem Same.up {H H' : Hp} (g : Same H H') {p : Addr} (hp : H p = none) (o : HO) : Same H (upd H' p o) := fun b u q => by rw [upd_ne (ne_of_none q hp)]; exact g b u q
theorem joinB {t : TS} {D : Ends} {σ : St} {H : Hp} (R : St → Hp → Prop) (h : t { D with nx := R } σ H) (hR : ∀ σ' H', R σ' H' → D.nx σ' H') : tJoin t D σ H := ⟨R, hR, h⟩
theorem sc_ii {a b : Int} : scal (.int a) (.int b) = true := rfl
theorem sc_bb {a b : Bool} : scal (.bl a) (.bl b) = true := rfl
theorem sc_in {a : Int} : scal (.int a) .non = true := rfl
theorem sc_ni {a : Int} : scal .non (.int a) = true := rfl
theorem sc_ss {a b : Str} : scal (.str a) (.str b) = true := rfl
theorem sc_nn : scal .non .non = true := rfl
theorem sc_bn {a : Bool} : scal (.bl a) .non = true := rfl
theorem sc_is {a : Int} {b : Str} : scal (.int a) (.str b) = true := rfl
theorem kit_int_int (K : PySem.W.Frag) : PySem.W.kitOne K (.type "int") (.type "int") = some true := by unfold PySem.W.kitOne; rw [if_pos (by decide)]
theorem kit_int_bool (K : PySem.W.Frag) : PySem.W.kitOne K (.type "int") (.type "bool") = some false := by unfold PySem.W.kitOne; rw [if_neg (by decide)]; kernel_rfl
theorem kit_int_str (K : PySem.W.Frag) : PySem.W.kitOne K (.type "int") (.type "str") = some false := by unfold PySem.W.kitOne; rw [if_neg (by decide)]; kernel_rfl
theorem kit_int_list (K : PySem.W.Frag) : PySem.W.kitOne K (.type "int") (.type "list") = some false := by unfold PySem.W.kitOne; rw [if_neg (by decide)]; kernel_rfl
theorem kit_int_tuple (K : PySem.W.Frag) : PySem.W.kitOne K (.type "int") (.type "tuple") = some false := by unfold PySem.W.kitOne; rw [if_neg (by decide)]; kernel_rfl
theorem kit_int_dict (K : PySem.W.Frag) : PySem.W.kitOne K (.type "int") (.type "dict") = some false := by unfold PySem.W.kitOne; rw [if_neg (by decide)]; kernel_rfl
theorem kit_bool_int (K : PySem.W.Frag) : PySem.W.kitOne K (.type "bool") (.type "int") = some true := by unfold PySem.W.kitOne; rw [if_neg (by decide)]; kernel_rfl
theorem kit_bool_bool (K : PySem.W.Frag) : PySem.W.kitOne K (.type "bool") (.type "bool") = some true := by unfold PySem.W.kitOne; rw [if_pos (by decide)]
theorem kit_bool_str (K : PySem.W.Frag) : PySem.W.kitOne K (.type "bool") (.type "str") = some false := by unfold PySem.W.kitOne; rw [if_neg (by decide)]; kernel_rfl
theorem kit_bool_list (K : PySem.W.Frag) : PySem.W.kitOne K (.type "bool") (.type "list") = some false := by unfold PySem.W.kitOne; rw [if_neg (by decide)]; kernel_rfl
theorem kit_bool_tuple (K : PySem.W.Frag) : PySem.W.kitOne K (.type "bool") (.type "tuple") = some false := by unfold PySem.W.kitOne; rw [if_neg (by decide)]; kernel_rfl
theorem kit_bool_dict (K : PySem.W.Frag) : PySem.W.kitOne K (.type "bool") (.type "dict") = some false := by unfold PySem.W.kitOne; rw [if_neg (by decide)]; kernel_rfl
theorem kit_NoneType_int (K : PySem.W.Frag) : PySem.W.kitOne K (.type "NoneType") (.type "int") = some false := by unfold PySem.W.kitOne; rw [if_neg (by decide)]; kernel_rfl
theorem kit_NoneType_bool (K : PySem.W.Frag) : PySem.W.kitOne K (.type "NoneType") (.type "bool") = some false := by unfold PySem.W.kitOne; rw [if_neg (by decide)]; kernel_rfl
theorem kit_NoneType_str (K : PySem.W.Frag) : PySem.W.kitOne K (.type "NoneType") (.type "str") = some false := by unfold PySem.W.kitOne; rw [if_neg (by decide)]; kernel_rfl
theorem kit_NoneType_list (K : PySem.W.Frag) : PySem.W.kitOne K (.type "NoneType") (.type "list") = some false := by unfold PySem.W.kitOne; rw [if_neg (by decide)]; kernel_rfl
theorem kit_NoneType_tuple (K : PySem.W.Frag) : PySem.W.kitOne K (.type "NoneType") (.type "tuple") = some false := by unfold PySem.W.kitOne; rw [if_neg (by decide)]; kernel_rfl
theorem kit_NoneType_dict (K : PySem.W.Frag) : PySem.W.kitOne K (.type "NoneType") (.type "dict") = some false := by unfold PySem.W.kitOne; rw [if_neg (by decide)]; kernel_rfl
theorem kit_str_int (K : PySem.W.Frag) : PySem.W.kitOne K (.type "str") (.type "int") = some false := by unfold PySem.W.kitOne; rw [if_neg (by decide)]; kernel_rfl
theorem kit_str_bool (K : PySem.W.Frag) : PySem.W.kitOne K (.type "str") (.type "bool") = some false := by unfold PySem.W.kitOne; rw [if_neg (by decide)]; kernel_rfl
theorem kit_str_str (K : PySem.W.Frag) : PySem.W.kitOne K (.type "str") (.type "str") = some true := by unfold PySem.W.kitOne; rw [if_pos (by decide)]
theorem kit_str_list (K : PySem.W.Frag) : PySem.W.kitOne K (.type "str") (.type "list") = some false := by unfold PySem.W.kitOne; rw [if_neg (by decide)]; kernel_rfl
theorem kit_str_tuple (K : PySem.W.Frag) : PySem.W.kitOne K (.type "str") (.type "tuple") = some false := by unfold PySem.W.kitOne; rw [if_neg (by decide)]; kernel_rfl
theorem kit_str_dict (K : PySem.W.Frag) : PySem.W.kitOne K (.type "str") (.type "dict") = some false := by unfold PySem.W.kitOne; rw [if_neg (by decide)]; kernel_rfl
abbrev bnames : List String := ["int", "bool", "str", "list", "tuple", "dict"]
def isiT (a b : String) : Option Bool := if b ∈ bnames then some (a == b || (a == "bool" && b == "int")) else none
theorem isi_int {K : PySem.W.Frag} {b : String} {v : Bool} (h : isiT "int" b = some v) : PySem.W.kitOne K (.type "int") (.type b) = some v := by
  unfold isiT at h
  split at h
  · rename_i z
    cases h
    simp only [bnames, List.mem_cons, List.not_mem_nil, or_false] at z
    rcases z with rfl | rfl | rfl | rfl | rfl | rfl
    · exact kit_int_int K
    · exact kit_int_bool K
    · exact kit_int_str K
    · exact kit_int_list K
    · exact kit_int_tuple K
    · exact kit_int_dict K
  · cases h
theorem isi_bool {K : PySem.W.Frag} {b : String} {v : Bool} (h : isiT "bool" b = some v) : PySem.W.kitOne K (.type "bool") (.type b) = some v := by
  unfold isiT at h
  split at h
  · rename_i z
    cases h
    simp only [bnames, List.mem_cons, List.not_mem_nil, or_false] at z
    rcases z with rfl | rfl | rfl | rfl | rfl | rfl
    · exact kit_bool_int K
    · exact kit_bool_bool K
    · exact kit_bool_str K
    · exact kit_bool_list K
    · exact kit_bool_tuple K
    · exact kit_bool_dict K
  · cases h
theorem isi_NoneType {K : PySem.W.Frag} {b : String} {v : Bool} (h : isiT "NoneType" b = some v) : PySem.W.kitOne K (.type "NoneType") (.type b) = some v := by
  unfold isiT at h
  split at h
  · rename_i z
    cases h
    simp only [bnames, List.mem_cons, List.not_mem_nil, or_false] at z
    rcases z with rfl | rfl | rfl | rfl | rfl | rfl
    · exact kit_NoneType_int K
    · exact kit_NoneType_bool K
    · exact kit_NoneType_str K
    · exact kit_NoneType_list K
    · exact kit_NoneType_tuple K
    · exact kit_NoneType_dict K
  · cases h
theorem isi_str {K : PySem.W.Frag} {b : String} {v : Bool} (h : isiT "str" b = some v) : PySem.W.kitOne K (.type "str") (.type b) = some v := by
  unfold isiT at h
  split at h
  · rename_i z
    cases h
    simp only [bnames, List.mem_cons, List.not_mem_nil, or_false] at z
    rcases z with rfl | rfl | rfl | rfl | rfl | rfl
    · exact kit_str_int K
    · exact kit_str_bool K
    · exact kit_str_str K
    · exact kit_str_list K
    · exact kit_str_tuple K
    · exact kit_str_dict K
  · cases h
def isiV : V → String → Option Bool
  | .int _, n => isiT "int" n
  | .bl _, n => isiT "bool" n
  | .non, n => isiT "NoneType" n
  | .str _, n => isiT "str" n
  | _, _ => none
def isiO : HO → String → Option Bool
  | .lst _, n => isiT "list" n
  | .tup _, n => isiT "tuple" n
  | .dK _, n => isiT "dict" n
  | _, _ => none
section
variable {X : Cx}
theorem call_isiS : CallR X (.builtin "isinstance") (fun xs H Q => ∃ x n, xs = [x, .ty n] ∧ ∃ b, isiV x n = some b ∧ Q (.bl b) H) := by
  intro pins s σ H xs us Q I r h
  obtain ⟨x, n, rfl, b, e, q⟩ := h
  refine call_isinst pins s σ H _ us Q I r ?_
  cases x with
  | int i => exact ⟨_, _, _, b, rfl, rfl, .int i, isi_int e, q⟩
  | bl i => exact ⟨_, _, _, b, rfl, rfl, .bl i, isi_bool e, q⟩
  | non => exact ⟨_, _, _, b, rfl, rfl, .non, isi_NoneType e, q⟩
  | str i => exact ⟨_, _, _, b, rfl, rfl, .str i, isi_str e, q⟩
  | _ => cases e
end
theorem isv_int_int {i : Int} : isiV (.int i) "int" = some true := (by decide : isiT "int" "int" = _)
theorem isv_int_bool {i : Int} : isiV (.int i) "bool" = some false := (by decide : isiT "int" "bool" = _)
theorem isv_int_str {i : Int} : isiV (.int i) "str" = some false := (by decide : isiT "int" "str" = _)
theorem isv_int_list {i : Int} : isiV (.int i) "list" = some false := (by decide : isiT "int" "list" = _)
theorem isv_int_tuple {i : Int} : isiV (.int i) "tuple" = some false := (by decide : isiT "int" "tuple" = _)
theorem isv_int_dict {i : Int} : isiV (.int i) "dict" = some false := (by decide : isiT "int" "dict" = _)
theorem isv_bool_int {i : Bool} : isiV (.bl i) "int" = some true := (by decide : isiT "bool" "int" = _)
theorem isv_bool_bool {i : Bool} : isiV (.bl i) "bool" = some true := (by decide : isiT "bool" "bool" = _)
theorem isv_bool_str {i : Bool} : isiV (.bl i) "str" = some false := (by decide : isiT "bool" "str" = _)
theorem isv_bool_list {i : Bool} : isiV (.bl i) "list" = some false := (by decide : isiT "bool" "list" = _)
theorem isv_bool_tuple {i : Bool} : isiV (.bl i) "tuple" = some false := (by decide : isiT "bool" "tuple" = _)
theorem isv_bool_dict {i : Bool} : isiV (.bl i) "dict" = some false := (by decide : isiT "bool" "dict" = _)
theorem isv_NoneType_int  : isiV (.non) "int" = some false := by decide
theorem isv_NoneType_bool  : isiV (.non) "bool" = some false := by decide
theorem isv_NoneType_str  : isiV (.non) "str" = some false := by decide
theorem isv_NoneType_list  : isiV (.non) "list" = some false := by decide
theorem isv_NoneType_tuple  : isiV (.non) "tuple" = some false := by decide
theorem isv_NoneType_dict  : isiV (.non) "dict" = some false := by decide
theorem isv_str_int {i : Str} : isiV (.str i) "int" = some false := (by decide : isiT "str" "int" = _)
theorem isv_str_bool {i : Str} : isiV (.str i) "bool" = some false := (by decide : isiT "str" "bool" = _)
theorem isv_str_str {i : Str} : isiV (.str i) "str" = some true := (by decide : isiT "str" "str" = _)
theorem isv_str_list {i : Str} : isiV (.str i) "list" = some false := (by decide : isiT "str" "list" = _)
theorem isv_str_tuple {i : Str} : isiV (.str i) "tuple" = some false := (by decide : isiT "str" "tuple" = _)
theorem isv_str_dict {i : Str} : isiV (.str i) "dict" = some false := (by decide : isiT "str" "dict" = _)
theorem iso_list_int {xs : List V} : isiO (.lst xs) "int" = some false := (by decide : isiT "list" "int" = _)
theorem iso_list_bool {xs : List V} : isiO (.lst xs) "bool" = some false := (by decide : isiT "list" "bool" = _)
theorem iso_list_str {xs : List V} : isiO (.lst xs) "str" = some false := (by decide : isiT "list" "str" = _)
theorem iso_list_list {xs : List V} : isiO (.lst xs) "list" = some true := (by decide : isiT "list" "list" = _)
theorem iso_list_tuple {xs : List V} : isiO (.lst xs) "tuple" = some false := (by decide : isiT "list" "tuple" = _)
theorem iso_list_dict {xs : List V} : isiO (.lst xs) "dict" = some false := (by decide : isiT "list" "dict" = _)
theorem iso_tuple_int {xs : List V} : isiO (.tup xs) "int" = some false := (by decide : isiT "tuple" "int" = _)
theorem iso_tuple_bool {xs : List V} : isiO (.tup xs) "bool" = some false := (by decide : isiT "tuple" "bool" = _)
theorem iso_tuple_str {xs : List V} : isiO (.tup xs) "str" = some false := (by decide : isiT "tuple" "str" = _)
theorem iso_tuple_list {xs : List V} : isiO (.tup xs) "list" = some false := (by decide : isiT "tuple" "list" = _)
theorem iso_tuple_tuple {xs : List V} : isiO (.tup xs) "tuple" = some true := (by decide : isiT "tuple" "tuple" = _)
theorem iso_tuple_dict {xs : List V} : isiO (.tup xs) "dict" = some false := (by decide : isiT "tuple" "dict" = _)
theorem iso_dict_int {xs : List (Key × V)} : isiO (.dK xs) "int" = some false := (by decide : isiT "dict" "int" = _)
theorem iso_dict_bool {xs : List (Key × V)} : isiO (.dK xs) "bool" = some false := (by decide : isiT "dict" "bool" = _)
theorem iso_dict_str {xs : List (Key × V)} : isiO (.dK xs) "str" = some false := (by decide : isiT "dict" "str" = _)
theorem iso_dict_list {xs : List (Key × V)} : isiO (.dK xs) "list" = some false := (by decide : isiT "dict" "list" = _)
theorem iso_dict_tuple {xs : List (Key × V)} : isiO (.dK xs) "tuple" = some false := (by decide : isiT "dict" "tuple" = _)
theorem iso_dict_dict {xs : List (Key × V)} : isiO (.dK xs) "dict" = some true := (by decide : isiT "dict" "dict" = _)
end L2
namespace L2
open PySem PySem.Spec PyProof.Rows
def CompIt (J : It) (caps : List Nat) (tt : TT) (te : TE) (σ : St) (H : Hp) (Q : VK) : Prop := ∃ (n : Nat) (W : Nat → List V → Hp → Prop), n ≤ sizeLine ∧ W 0 [] H ∧ ∀ i ys H2, W i ys H2 →
  (J.stop i H2 ∧ ∀ p, H2 p = none → Q (.ref p) (upd H2 p (.lst ys))) ∨
  (J.go i H2 ∧ i < n ∧ ∀ x H3, J.yld i H2 x H3 → tt (some x :: capV caps σ) H3 fun b H4 => if b = true then te (some x :: capV caps σ) H4 fun v H5 => W (i + 1) (ys ++ [v]) H5 else W (i + 1) ys H4)
theorem w_comp {caps : List Nat} {wi : TI} {tt : TT} {te : TE} {σ : St} {H : Hp} {Q : VK} : tComp caps wi tt te σ H Q = wi σ H fun J H1 => CompIt J caps tt te σ H1 Q := rfl
section
variable {lo : Int} {n : Nat} {K : PySem.W.Frag} {a : Addr} {caps : List Nat} {tt : TT} {te : TE} {σ : St} {H : Hp} {Q : VK}
theorem compR (Pv : Nat → List V → Hp → Prop) (hn : n ≤ sizeLine) (h0 : Pv 0 [] H)
    (hs : ∀ i ys H, i < n → Pv i ys H → tt (some (.int (lo + i)) :: capV caps σ) H fun b H4 => if b = true then te (some (.int (lo + i)) :: capV caps σ) H4 fun v H5 => Pv (i + 1) (ys ++ [v]) H5 else Pv (i + 1) ys H4)
    (hd : ∀ ys H, Pv n ys H → ∀ p, H p = none → Q (.ref p) (upd H p (.lst ys))) : CompIt (Itr lo n) caps tt te σ H Q := by
  refine ⟨n, fun i ys H => i ≤ n ∧ Pv i ys H, hn, ⟨Nat.zero_le _, h0⟩, ?_⟩
  rintro i ys H2 ⟨hi, p⟩
  by_cases hlt : i < n
  · refine .inr ⟨hlt, hlt, ?_⟩
    rintro x H3 ⟨rfl, rfl⟩
    have key := hs i ys H3 hlt p
    have e1 : ∀ H5 zs, Pv (i + 1) zs H5 → i + 1 ≤ n ∧ Pv (i + 1) zs H5 := fun _ _ h => ⟨hlt, h⟩
    have e2 : (fun (b : Bool) (H4 : Hp) => if b = true then te (some (.int (lo + i)) :: capV caps σ) H4 fun v H5 => Pv (i + 1) (ys ++ [v]) H5 else Pv (i + 1) ys H4) = fun b H4 => if b = true then te (some (.int (lo + i)) :: capV caps σ) H4 fun v H5 => i + 1 ≤ n ∧ Pv (i + 1) (ys ++ [v]) H5 else i + 1 ≤ n ∧ Pv (i + 1) ys H4 := by
      funext b H4
      have z : i + 1 ≤ n := hlt
      simp only [z, true_and]
    rw [e2] at key
    exact key
  · have e : i = n := by omega
    subst e
    exact .inl ⟨Nat.le_refl _, hd ys H2 p⟩
theorem compI (ns : List Int) (Pv : Nat → List V → Hp → Prop) (hn : ns.length ≤ sizeLine) (h0 : Pv 0 [] H) (hl : ∀ i ys H, Pv i ys H → SqL K H a (ns.map V.int))
    (hs : ∀ i (x : Int) ys H, ns[i]? = some x → Pv i ys H → tt (some (.int x) :: capV caps σ) H fun b H4 => if b = true then te (some (.int x) :: capV caps σ) H4 fun v H5 => Pv (i + 1) (ys ++ [v]) H5 else Pv (i + 1) ys H4)
    (hd : ∀ ys H, Pv ns.length ys H → ∀ p, H p = none → Q (.ref p) (upd H p (.lst ys))) : CompIt (Itl K a) caps tt te σ H Q := by
  refine ⟨ns.length, fun i ys H => i ≤ ns.length ∧ Pv i ys H, hn, ⟨Nat.zero_le _, h0⟩, ?_⟩
  rintro i ys H2 ⟨hi, p⟩
  have hS := hl i ys H2 p
  by_cases hlt : i < ns.length
  · obtain ⟨x, hx⟩ : ∃ x, ns[i]? = some x := ⟨ns[i], List.getElem?_eq_getElem hlt⟩
    have hv : (ns.map V.int)[i]? = some (.int x) := by rw [List.getElem?_map, hx]; rfl
    refine .inr ⟨⟨_, _, hS, hv⟩, hlt, ?_⟩
    rintro y H3 ⟨rfl, hy⟩
    have hxy : y = .int x := (Option.some.inj (hv.symm.trans (hy _ hS))).symm
    subst hxy
    have key := hs i x ys H3 hx p
    have e2 : (fun (b : Bool) (H4 : Hp) => if b = true then te (some (.int x) :: capV caps σ) H4 fun v H5 => Pv (i + 1) (ys ++ [v]) H5 else Pv (i + 1) ys H4) = fun b H4 => if b = true then te (some (.int x) :: capV caps σ) H4 fun v H5 => i + 1 ≤ ns.length ∧ Pv (i + 1) (ys ++ [v]) H5 else i + 1 ≤ ns.length ∧ Pv (i + 1) ys H4 := by
      funext b H4
      have z : i + 1 ≤ ns.length := hlt
      simp only [z, true_and]
    rw [e2] at key
    exact key
  · have e : i = ns.length := by omega
    subst e
    exact .inl ⟨⟨_, hS, by rw [List.length_map]; exact Nat.le_refl _⟩, hd ys H2 p⟩
end
theorem cx_K {CX : CXT} {P : Program} {w : World} {K : PySem.W.Frag} {mg : Str → Option Value} {base : Heap} {N : List Str} {qual : Str} {scope : Scope} {f : Addr} {cd : Value} {A : Around} {outer : List Env} {s : Shared} {H : Hp} {E : XK} : (cxOf CX P w K mg base N qual scope f cd A outer s H E).K = K := rfl
theorem cc_K {X : Cx} {N : List Str} {scope : Scope} {cl : List (Str × Addr)} {C : Addr} {s : Shared} {H : Hp} {fp : List Addr} : (compCx X N scope cl C s H fp).K = X.K := rfl
end L2
namespace Rv
open PySem PySem.Spec PyProof.Rows
section
variable {prog : Program} {w : World} {A : Around} {E : Value → Shared → Prop} {s : Shared}
end
section
variable {prog : Program} {w : World} {A : Around} {E : Value → Shared → Prop} {s : Shared}
end
end Rv
namespace L2
open PySem PySem.Spec PyProof.Rows
def Itv (K : PySem.W.Frag) (a : Addr) (n : Nat) : It :=
  ⟨fun i H => i < n ∧ ∃ xs, SqL K H a xs ∧ xs.length = n, fun i H x H' => H' = H ∧ ∀ xs, SqL K H a xs → xs[n - 1 - i]? = some x, fun i _ => n ≤ i⟩
section
variable {X : Cx} {tg e : Expr} {te : TE} {p p2 pos pos2 : Pos}
def iRev (K : PySem.W.Frag) (tl : TE) : TI := fun σ H R => tl σ H fun x H1 => ∃ a xs, x = .ref a ∧ SqL K H1 a xs ∧ R (Itv K a xs.length) H1
def tListRev (K : PySem.W.Frag) (te : TE) : TE := fun σ H Q => te σ H fun x H1 => ∃ a xs, x = .ref a ∧ SqL K H1 a xs ∧ ∀ l, H1 l = none → Q (.ref l) (upd H1 l (.lst xs.reverse))
end
theorem cut_to {α : Type} (f : α → V) (xs : List α) {k : Int} (hk : 0 ≤ k) : cutV (xs.map f) none (some k) = (xs.take k.toNat).map f := by
  obtain ⟨n, rfl⟩ : ∃ n : Nat, k = (n : Int) := ⟨k.toNat, by omega⟩
  unfold cutV
  rw [HT.sIx_none, HT.sIx_nat, List.drop_zero, Nat.sub_zero, Int.toNat_natCast, List.map_take]
  rcases Nat.le_total n (xs.map f).length with h | h
  · rw [Nat.min_eq_left h]
  · rw [Nat.min_eq_right h, List.take_of_length_le (Nat.le_refl _), List.take_of_length_le h]
theorem cut_from {α : Type} (f : α → V) (xs : List α) {k : Int} (hk : 0 ≤ k) : cutV (xs.map f) (some k) none = (xs.drop k.toNat).map f := by
  obtain ⟨n, rfl⟩ : ∃ n : Nat, k = (n : Int) := ⟨k.toNat, by omega⟩
  unfold cutV
  rw [HT.sIx_none, HT.sIx_nat, Int.toNat_natCast, List.map_drop]
  rcases Nat.le_total n (xs.map f).length with h | h
  · rw [Nat.min_eq_left h, List.take_of_length_le (by rw [List.length_drop]; exact Nat.le_refl _)]
  · rw [Nat.min_eq_right h, List.drop_of_length_le (Nat.le_refl _), List.drop_of_length_le h]
    simp
theorem newH {H H1 : Hp} {p : Addr} {o : HO} (e : upd H p o = H1) (n : H p = none) : Same H H1 ∧ H1 p = some o := by
  subst e
  exact ⟨same_new n o, upd_same⟩
theorem w_tyl {K : PySem.W.Frag} {p : Addr} {H : Hp} : tyV K "list" (.ref p) H = ∃ xs, SqL K H p xs := by
  unfold tyV
  simp
section
variable {K : PySem.W.Frag} {H : Hp} {a b : Addr} {ns ms : List Int} {Q : VK}
theorem eqv_il : PyData.eqv (.list (ns.map PyData.int)) (.list (ms.map PyData.int)) = decide (ns = ms) := by
  rw [← eqvAll_ints]
  simp only [PyData.eqv]
theorem canLay_ints : ∀ ns : List Int, PyData.canLayAll0 (ns.map PyData.int) = true
  | [] => by simp [PyData.canLayAll0]
  | n :: r => by simp [PyData.canLayAll0, PyData.canLay0, canLay_ints r]
theorem depth_ints : ∀ ns : List Int, PyData.depthAll (ns.map PyData.int) = 0
  | [] => by simp [PyData.depthAll]
  | n :: r => by simp [PyData.depthAll, PyData.depth, depth_ints r]
theorem shaped_l (ns : List Int) : SeqAt.shaped (.list (ns.map PyData.int)) = true := by
  unfold SeqAt.shaped
  simp [PyData.canLay0, PyData.depth, canLay_ints, depth_ints]
theorem neL (h : SqL K H a (ns.map V.int)) (h' : SqL K H b (ms.map V.int)) (q : Q (.bl (!decide (ns = ms))) H) : rEqD K true (.ref a) (.ref b) H Q := by
  refine ⟨_, _, .lst h (DatVs.ints ns), .lst h' (DatVs.ints ms), shaped_l ns, shaped_l ms, ?_⟩
  rw [if_pos rfl, eqv_il]
  exact q
end
theorem seqI {t u : TS} {D : Ends} {σ : St} {H : Hp} (h : t { D with nx := u D } σ H) : tSeq t u D σ H := h
section
variable {X : Cx}
end
end L2
namespace Ul
open PySem PySem.Spec PyProof.Rows
section
variable {prog : Program} {w : World} {A : Around} {E : Value → Shared → Prop}
variable {s : Shared}
end
end Ul
namespace L2
open PySem PySem.Spec PyProof.Rows
section
variable {X : Cx} {pos : Pos}
def gLst (K : PySem.W.Frag) (n : Nat) (t : TGs) : TG := fun v σ H Q => ∃ a xs, v = .ref a ∧ SqL K H a xs ∧ xs.length = n ∧ t xs σ H Q
theorem hu1 {n : Nat} (h : n + 64 < cLine) : n + 1 < cLine := by omega
end
end L2
namespace L2
open PySem PySem.Spec PyProof.Rows
def CXE (P : Program) (w : World) : CXT := fun outer H s E e s' => ∃ (ea t : Addr) (C : Value) (vs : List Value) (B : Heap) (H' : Hp), e = .ref ea ∧ s'.os = s.os ∧ AllBare s'.gens ∧ Heap.FlyingW B outer ea C (.ref t) s'.heap ∧ s'.heap.TupAt t vs ∧ B.get? t = none ∧
  HOk P w H' B ∧ (∀ b o, s.heap.get? b = some o → H b = none → b ∉ frs outer → B.get? b = some o) ∧ (∀ b o, s.heap.get? b = some o → b ∉ frs outer → ∃ o', B.get? b = some o') ∧ Un (frs outer) [] H H' s.heap s'.heap ∧ E C none H'
section
variable {X : Cx} {pins : List (Addr × Obj)} {σ : St} {H H1 : Hp} {s s1 : Shared}
theorem frs_cons {env : Env} {L : Addr} {l : List Env} (h : env.frame = some L) {b : Addr} : b ∈ frs (env :: l) ↔ b = L ∨ b ∈ frs l := by
  unfold frs
  rw [List.filterMap_cons, h]
  exact List.mem_cons
theorem Inv.old (I : Inv X pins σ H s) {b : Addr} {o : Obj} (e : X.s₀.heap.get? b = some o) : b ≠ X.env.locals := fun z => by
  have h1 : @LT.lt Nat instLTNat b X.s₀.heap.objs.size := Heap.lt_size e
  have h2 : @LE.le Nat _ X.s₀.heap.objs.size X.env.locals := I.ok.above
  have z' : @Eq Nat b X.env.locals := z
  omega
theorem hid_ok {fs : List Addr} (I : Inv X pins σ H s) (hf : ∀ b ∈ fs, H b = none) : HOk X.prog X.w H (PySem.W.hideAll s.heap fs) := fun a o e => by
  have q : ObjOk X.prog X.w H s.heap a o := I.hok a o e
  refine q.stay (fun c u hc e' => PySem.W.hideAll_get _ e' fun z => ?_) (fun c e' => e') fun c zs e' => e'
  have h0 := hf c z
  rcases hc with hc | hc
  · rw [hc, e] at h0; cases h0
  · rw [hc] at h0; cases h0
theorem thr {M : Model} {h' : Heap} {ea : Addr} {C : Value} {vs : List Value} {E : XK} {EE : Value → Shared → Prop} (hst : X.stack = X.env :: X.outer) (hfr : X.env.frame = some X.env.locals) (hex : X.ex = []) (I : Inv X pins σ H s)
    (hx : Heap.MadeExcOf s.heap h' ea C vs) (hE : E C none H) :
    wpAny M X.A (leaving X.env (.ref ea)) (fun _ s'' => CXE X.prog X.w X.outer X.H₀ X.s₀ E (.ref ea) s'') EE { s with heap := h' } := by
  have hA : X.A.frames = some (X.env :: X.outer) := by rw [← hst]; exact I.ok.frames
  have fstk : ∀ b ∈ frs (X.env :: X.outer), H b = none := by rw [← hst]; exact I.stkFree
  have hfun : s.heap.FunFrames X.base (X.env :: X.outer) := by rw [← hst]; exact I.stack
  have hin : ∀ env ∈ (X.env :: X.outer), ∀ b, env.frame = some b → b ∈ frs (X.env :: X.outer) := fun env he b hb => List.mem_filterMap.mpr ⟨env, he, hb⟩
  refine wpAny_leaves_madeW (base := PySem.W.hideAll s.heap (frs (X.env :: X.outer))) hA hfr (fun b o q => PySem.W.of_hideAll _ q) (PySem.W.funFrames_hide hfun hin) hx fun h2 t fly tup tn up => ?_
  have u := I.base
  rw [hex] at u
  have keepB : ∀ b o, X.s₀.heap.get? b = some o → X.H₀ b = none → b ∉ frs X.outer → (PySem.W.hideAll s.heap (frs (X.env :: X.outer))).get? b = some o := fun b o e n nf => by
    refine PySem.W.hideAll_get _ (u.keep b o e n nf (by simp)) fun z => ?_
    rcases (frs_cons hfr).mp z with z | z
    · exact I.old e z
    · exact nf z
  have slots : ∀ b o, s.heap.get? b = some o → b ∈ frs (X.env :: X.outer) → ∃ sl, h2.get? b = some { o with slots := sl } := fun b o e hb => by
    obtain ⟨_, o', ho', hd⟩ := hfun.mem hb
    rw [e] at ho'
    cases ho'
    exact up b o (hx.keeps _ _ e) hd
  have thereB : ∀ b o, X.s₀.heap.get? b = some o → b ∉ frs X.outer → ∃ o', (PySem.W.hideAll s.heap (frs (X.env :: X.outer))).get? b = some o' := fun b o e nf => by
    obtain ⟨o', e1⟩ := u.there b o e (by simp)
    refine ⟨o', PySem.W.hideAll_get _ e1 fun z => ?_⟩
    rcases (frs_cons hfr).mp z with z | z
    · exact I.old e z
    · exact nf z
  refine ⟨ea, t, C, vs, _, H, rfl, I.os, I.bare, fly, tup, tn, hid_ok I fstk, keepB, thereB, ?_, hE⟩
  refine ⟨fun b o e n nf _ => fly.1 _ _ (keepB b o e n nf), fun b o e n hb _ => ?_, fun b o e n _ => u.free b o e n (by simp), fun b o e _ => ?_, u.tups, u.frzs, u.tbls⟩
  · obtain ⟨sl, e1⟩ := u.slot b o e n hb (by simp)
    obtain ⟨sl', e2⟩ := slots b _ e1 ((frs_cons hfr).mpr (.inr hb))
    exact ⟨sl', e2⟩
  · obtain ⟨o', e1⟩ := u.there b o e (by simp)
    by_cases hb : b ∈ frs (X.env :: X.outer)
    · obtain ⟨sl, e2⟩ := slots b _ e1 hb
      exact ⟨_, e2⟩
    · exact ⟨o', fly.1 _ _ (PySem.W.hideAll_get _ e1 hb)⟩
theorem pas {M : Model} {e : Value} {s' : Shared} {E : XK} {EE : Value → Shared → Prop} (hst : X.stack = X.env :: X.outer) (hfr : X.env.frame = some X.env.locals) (hex : X.ex = []) (I : Inv X pins σ H s)
    (hc : CXE X.prog X.w X.stack H s E e s') : wpAny M X.A (leaving X.env e) (fun _ s'' => CXE X.prog X.w X.outer X.H₀ X.s₀ E e s'') EE s' := by
  have hA : X.A.frames = some (X.env :: X.outer) := by rw [← hst]; exact I.ok.frames
  rw [hst] at hc
  obtain ⟨ea, t, C, vs, B, H', rfl, os, bare, fly, tup, tn, hok, kB, tB, un, hE⟩ := hc
  refine wpAny_leaves_onW hA hfr fly fun h2 fly2 up => ?_
  have u := I.base
  rw [hex] at u
  have n2 : ∀ b o, X.s₀.heap.get? b = some o → b ∉ frs X.outer → b ∉ frs (X.env :: X.outer) := fun b o e nf z => by
    rcases (frs_cons hfr).mp z with z | z
    · exact I.old e z
    · exact nf z
  have keepB : ∀ b o, X.s₀.heap.get? b = some o → X.H₀ b = none → b ∉ frs X.outer → B.get? b = some o := fun b o e n nf =>
    kB b o (u.keep b o e n nf (by simp)) (u.free b o e n (by simp)) (n2 b o e nf)
  have thereB : ∀ b o, X.s₀.heap.get? b = some o → b ∉ frs X.outer → ∃ o', B.get? b = some o' := fun b o e nf => by
    obtain ⟨o', e1⟩ := u.there b o e (by simp)
    exact tB b o' e1 (n2 b o e nf)
  have slots : ∀ b o, s'.heap.get? b = some o → b ∈ frs X.outer → ∃ sl, h2.get? b = some { o with slots := sl } := fun b o e hb => by
    obtain ⟨_, o', ho', hd⟩ := fly.2.2.1.mem (show b ∈ (X.env :: X.outer).filterMap (·.frame) from (frs_cons hfr).mpr (.inr hb))
    rw [e] at ho'
    cases ho'
    exact up b o e hd
  refine ⟨ea, t, C, vs, B, H', rfl, by rw [os]; exact I.os, bare, fly2, tup.of_slots up, tn, hok, keepB, thereB, ?_, hE⟩
  refine ⟨fun b o e n nf _ => fly2.1 _ _ (keepB b o e n nf), fun b o e n hb _ => ?_, fun b o e n _ => ?_, fun b o e _ => ?_, fun b zs e => un.tups b zs (u.tups b zs e), fun b o v e => un.frzs b o v (u.frzs b o v e), fun b ps e => ?_⟩
  · obtain ⟨sl, e1⟩ := u.slot b o e n hb (by simp)
    have n1 := u.free b o e n (by simp)
    obtain ⟨sl2, e2⟩ := un.slot b _ e1 n1 ((frs_cons hfr).mpr (.inr hb)) (by simp)
    obtain ⟨sl3, e3⟩ := slots b _ e2 hb
    exact ⟨sl3, e3⟩
  · have n1 := u.free b o e n (by simp)
    obtain ⟨o', e1⟩ := u.there b o e (by simp)
    exact un.free b o' e1 n1 (by simp)
  · obtain ⟨o', e1⟩ := u.there b o e (by simp)
    obtain ⟨o2, e2⟩ := un.there b o' e1 (by simp)
    by_cases hb : b ∈ frs X.outer
    · obtain ⟨sl, e3⟩ := slots b _ e2 hb
      exact ⟨_, e3⟩
    · obtain ⟨o3, e3⟩ := thereB b o e hb
      exact ⟨o3, fly2.1 _ _ e3⟩
  · obtain ⟨m1, e1⟩ := u.tbls b ps e
    obtain ⟨m2, e2⟩ := un.tbls b _ e1
    exact ⟨m1 ++ m2, by rw [e2, Array.append_assoc]⟩
end
abbrev bmV : List Value := [.type "ValueError", .type "Exception", .type "BaseException", .type "object"]
abbrev ExcK (K : PySem.W.Frag) (C : Addr) : Prop := PySem.W.excIn K C bmV "ValueError.__new__" = true
theorem own_at {K : PySem.W.Frag} {h : Heap} {mg : Str → Option Value} {x : Str} {C : Addr} (X : K.In h) (e : mg x = some (.ref C)) (q : ExcK K C) : OwnCls x C bmV "ValueError.__new__" mg h := by
  refine ⟨e, ?_⟩
  unfold ExcK PySem.W.excIn at q
  split at q
  · rename_i dd cd sl ho
    split at q
    · rename_i C' bm k0 k1 k2 k3 n k5 hm hs
      simp only [Bool.and_eq_true, beq_iff_eq, Bool.not_eq_true'] at q
      obtain ⟨⟨⟨⟨⟨rfl, rfl⟩, hdel⟩, ht⟩, hok⟩, hni⟩ := q
      obtain ⟨nm, bs, mro, ns, qn, hd, sn, sub, ab, col, del⟩ := cd
      dsimp only at hm hdel hok hni
      subst hm hdel
      have hsl : sl = #[k0, k1, k2, k3, some (.builtin "ValueError.__new__"), k5] := by
        obtain ⟨l⟩ := sl
        simp only at hs
        rw [hs]
      subst hsl
      exact ⟨bm, ns, nm, qn, bs, hd, sn, sub, ab, col, dd, k0, k1, k2, k3, k5, _, X _ _ ho, .of_isNs (PySem.W.isNs_of_in X hok), PySem.W.nsMap_none_of_in X hok hni, PySem.W.tail_of_in X ht⟩
    · cases q
  · cases q
def Thr (X : Cx) (E : XK) : Prop := ∀ (pins : List (Addr × Obj)) (σ : St) (H : Hp) (s : Shared) (h' : Heap) (ea : Addr) (C : Value) (vs : List Value), Inv X pins σ H s → Heap.MadeExcOf s.heap h' ea C vs → E C none H → X.xe (.ref ea) { s with heap := h' }
def tRaise (C : Addr) (E : XK) (ta : TA) : TS := fun _ σ H => ta σ H fun vs H1 => vs.length ≤ sizeLine ∧ E (.ref C) none H1
section
variable {X : Cx} {x : Str} {C : Addr} {np cpos pos : Pos} {e : Expr} {es : List Expr} {ta : TA} {E : XK}
theorem ps_raise (hT : Thr X E) (hc : X.calm = true) (hg : Gl X x) (hm : X.mg x = some (.ref C)) (q : ExcK X.K C) (ha : PA X (e :: es) ta)
    (he : starEach (e :: es) X.env = (false, eval e X.env) :: starEach es X.env := by rfl) (hpl : (backTo cpos (starEach es X.env)).any (·.1) = false := by rfl) (hdb : (x == ("__debug__" : Str)) = false := by decide) :
    PS X (.Raise (some (.Call (.Name x np) (e :: es) [] cpos)) none pos) (tRaise C E ta) := by
  intro pins s σ H D I h
  have O := own_at I.ok.mod.kin hm q
  obtain ⟨tl, N, nm, qq, bs, hdct, sn, sub, ab, col, dd, k0, k1, k2, k3, k5, mN, hC, hN, hni, T⟩ := O.obj
  refine wpAny_Raise_call_subT (C := C) (nm := nm) (q := qq) (N := N) (bs := bs) (bm := tl) (hdct := hdct) (sn := sn) (sub := sub) (ab := ab) (col := col) (dd := dd) (k0 := k0) (k1 := k1) (k2 := k2) (k3 := k3) (k5 := k5)
    PySem.F.excBase_ValueError (mN := mN) (T.hasType PySem.F.excBase_ValueError.hasBase) (I.ok.hd hc) (by rw [he]; show (false || (backTo cpos (starEach es X.env)).any (·.1)) = false; rw [hpl]; rfl) hni (ld_glob I hg hm ⟨rfl, ?_⟩ hdb)
  have ha' := ha cpos pins s σ H _ I h
  rw [he] at ha' ⊢
  exact Calls.evalArgs_plain (thn ha' fun us s2 ⟨vs, H1, I1, r, z, hE⟩ => ⟨rfl, by rw [← r.length]; exact z, I1.bk _ _ hC, hN.keeps I1.bk, T.keeps I1.bk, fun h' ea hx => hT pins σ H1 s2 h' ea _ us I1 hx hE⟩)
end
section
variable {P : Program} {w : World} {K : PySem.W.Frag} {mg : Str → Option Value} {base : Heap}
theorem Fun.okE {x qual : Str} {st : Stmt} {f : Addr} {fd : FuncData} {N ps : List Str} {k : Nat} {sp : Sp} (F : Fun K x qual st f fd) (S : FnScope N ps (defScope st)) (len : ∀ vs H Q E, sp vs H Q E → vs.length = ps.length)
    (hbody : ∀ (cdv : Value) (A : Around) (outer : List Env) (s : Shared) (H : Hp) (vs : List V) (Q : VK) (E : XK), Room k (A.deeper (envOfC qual (defScope st) s.heap.objs.size f cdv)) → sp vs H Q E →
      ∃ t, PSs (cxOf (CXE P w) P w K mg base N qual (defScope st) f cdv A outer s H E) (defBody st) t ∧ t { nx := fun _ H' => Q .non H', rt := Q } (start N vs) H) : FnOk P w K mg base (CXE P w) (k + 1) f fd ps sp := by
  obtain ⟨oc, od, kV, doc, pm, an, cdv, ct, osl, rfl, lk, hcd⟩ := F.ex
  refine fn_of lk hcd S len fun A outer s H vs Q E hr hsp => ?_
  obtain ⟨t, h, q⟩ := hbody cdv A outer s H vs Q E hr hsp
  exact ⟨t, h, q⟩
variable {N : List Str} {qual : Str} {scope : Scope} {f : Addr} {cd : Value} {A : Around} {outer : List Env} {s : Shared} {H : Hp} {E : XK}
theorem passE : Passes (CXE P w) (cxOf (CXE P w) P w K mg base N qual scope f cd A outer s H E) E := fun _ _ _ _ _ _ I hc => pas rfl rfl rfl I hc
theorem thrE : Thr (cxOf (CXE P w) P w K mg base N qual scope f cd A outer s H E) E := fun _ _ _ _ _ _ _ _ I hx hE => thr rfl rfl rfl I hx hE
end
theorem pass00 {P : Program} {w : World} {X : Cx} : Passes (CXE P w) X E0 := fun _ _ _ _ _ _ _ hc => by
  obtain ⟨_, _, _, _, _, _, _, _, _, _, _, _, _, _, _, _, hE⟩ := hc
  exact hE.elim
structure DefE (P : Program) (w : World) (K : PySem.W.Frag) (mg : Str → Option Value) (base : Heap) (x : Str) (k : Nat) (ps : List Str) (sp : Sp) : Prop where
  ex : ∃ (f : Addr) (fd : FuncData), FnOk P w K mg base (CXE P w) k f fd ps sp ∧ Binds K fd ps [] ∧ PySem.W.keepIn K (.ref f) = true ∧ mg x = some (.ref f)
theorem defE_mk {P : Program} {w : World} {K : PySem.W.Frag} {mg : Str → Option Value} {base : Heap} {x qual : Str} {st : Stmt} {f : Addr} {fd : FuncData} {k : Nat} {ps : List Str} {sp : Sp} (F : Fun K x qual st f fd)
    (ok : FnOk P w K mg base (CXE P w) k f fd ps sp) (b : Binds K fd ps []) (m : mg x = some (.ref f)) : DefE P w K mg base x k ps sp := ⟨⟨f, fd, ok, b, F.kp, m⟩⟩
section
variable {X : Cx} {x : Str} {j k : Nat} {ps : List Str} {sp : Sp} {p pos : Pos} {e : Expr} {es : List Expr} {t : TA} {E : XK}
theorem pe_defE (hx : Passes (CXE X.prog X.w) X E) (D : DefE X.prog X.w X.K X.mg X.base x j ps sp) (hr : Room k X.A) (hg : Gl X x) (ha : PA X (e :: es) t) (hjk : j ≤ k := by decide) (hdb : (x == ("__debug__" : Str)) = false := by decide)
    (he : starEach (e :: es) X.env = (false, eval e X.env) :: starEach es X.env := by rfl) (hpl : (backTo pos (starEach es X.env)).any (·.1) = false := by rfl) :
    PE X (.Call (.Name x p) (e :: es) [] pos) (tCall sp [] E t) := by
  obtain ⟨f, fd, ok, b, kp, m⟩ := D.ex
  exact pe_call ok (hr.mono hjk) hg m kp b .nil hx ha hdb he hpl
theorem ps_nox {st : Stmt} {t : TS} (h : PS X.nox st t) : PS X st t := fun pins s σ H D I hw =>
  wpAny_mono (h pins s σ H D (I.wish _) hw) (fun _ _ q => SP.unwish q) fun _ _ z => z.elim
end
end L2
namespace L2
open PySem PySem.Spec PyProof.Rows
abbrev Cx.inTry (X : Cx) (E : Value → Shared → Prop) (pn : List (Addr × Obj)) : Cx := { X with xe := E, pn := pn }
abbrev Cx.inExc (X : Cx) (e : Value) : Cx := { X with A := X.A.mark (some e), calm := false, xe := fun _ _ => False }
section
variable {X : Cx} {pins pins' : List (Addr × Obj)} {σ : St} {H H1 H' : Hp} {s s1 s' : Shared} {E : Value → Shared → Prop}
theorem Inv.inTry (I : Inv X pins σ H s) (E : Value → Shared → Prop) : Inv (X.inTry E (X.pn ++ pins)) [] σ H s :=
  ⟨⟨I.ok.mod, I.ok.kind, I.ok.glob, I.ok.blt, I.ok.above, I.ok.inj, I.ok.has, I.ok.cab, I.ok.hd, I.ok.frames, I.ok.stk, I.ok.exf, I.ok.bs, I.ok.bsz, I.ok.noex, I.ok.exfs, I.ok.funs, I.ok.frf⟩, I.os, I.bare, I.base, I.loc, I.cell, I.free, I.freeC,
    fun p hp => I.pin p (by simpa using hp), I.hok, I.len⟩
theorem Inv.outTry (I : Inv (X.inTry E (X.pn ++ pins)) pins' σ H s) : Inv X pins σ H s :=
  ⟨⟨I.ok.mod, I.ok.kind, I.ok.glob, I.ok.blt, I.ok.above, I.ok.inj, I.ok.has, I.ok.cab, I.ok.hd, I.ok.frames, I.ok.stk, I.ok.exf, I.ok.bs, I.ok.bsz, I.ok.noex, I.ok.exfs, I.ok.funs, I.ok.frf⟩, I.os, I.bare, I.base, I.loc, I.cell, I.free, I.freeC,
    fun p hp => I.pin p (List.mem_append_left _ hp), I.hok, I.len⟩
theorem Inv.inExc (I : Inv X pins σ H s) (e : Value) : Inv (X.inExc e) pins σ H s :=
  ⟨⟨I.ok.mod, I.ok.kind, I.ok.glob, I.ok.blt, I.ok.above, I.ok.inj, I.ok.has, I.ok.cab, fun z => (by cases z), I.ok.frames, I.ok.stk, I.ok.exf, I.ok.bs, I.ok.bsz, I.ok.noex, I.ok.exfs, I.ok.funs, I.ok.frf⟩, I.os, I.bare, I.base, I.loc, I.cell, I.free, I.freeC,
    I.pin, I.hok, I.len⟩
theorem Inv.outExc {hd : X.calm = true → X.A.handled = none} {fr : X.A.frames = some X.stack} {e : Value} (I : Inv (X.inExc e) pins σ H s) : Inv X pins σ H s :=
  ⟨⟨I.ok.mod, I.ok.kind, I.ok.glob, I.ok.blt, I.ok.above, I.ok.inj, I.ok.has, I.ok.cab, hd, fr, I.ok.stk, I.ok.exf, I.ok.bs, I.ok.bsz, I.ok.noex, I.ok.exfs, I.ok.funs, I.ok.frf⟩, I.os, I.bare, I.base, I.loc, I.cell, I.free, I.freeC,
    I.pin, I.hok, I.len⟩
theorem land {ea t : Addr} {C : Value} {B h5 : Heap} (I : Inv X pins σ H1 s1) (os : s'.os = s1.os) (bare : AllBare s'.gens) (fly : Heap.FlyingW B X.stack ea C (.ref t) s'.heap) (stay : B.StaysIn h5) (up : s'.heap.UpToSlots h5)
    (hok : HOk X.prog X.w H' B) (kB : ∀ b o, s1.heap.get? b = some o → H1 b = none → b ∉ frs X.stack → B.get? b = some o) (tB : ∀ b o, s1.heap.get? b = some o → b ∉ frs X.stack → ∃ o', B.get? b = some o')
    (un : Un (frs X.stack) [] H1 H' s1.heap s'.heap) : Inv X pins σ H' { s' with heap := h5 } := by
  have slots : ∀ b o, s'.heap.get? b = some o → b ∈ frs X.stack → ∃ sl, h5.get? b = some { o with slots := sl } := fun b o e hb => by
    obtain ⟨_, o', ho', hd⟩ := fly.2.2.1.mem hb
    rw [e] at ho'
    cases ho'
    exact up b o e hd
  have un5 : Un (frs X.stack) [] H1 H' s1.heap h5 := by
    refine ⟨fun b o e n nf _ => stay _ _ (kB b o e n nf), fun b o e n hb _ => ?_, un.free, fun b o e _ => ?_, un.tups, un.frzs, un.tbls⟩
    · obtain ⟨sl, e1⟩ := un.slot b o e n hb (by simp)
      obtain ⟨sl2, e2⟩ := slots b _ e1 hb
      exact ⟨sl2, e2⟩
    · by_cases hb : b ∈ frs X.stack
      · obtain ⟨o', e1⟩ := un.there b o e (by simp)
        obtain ⟨sl, e2⟩ := slots b _ e1 hb
        exact ⟨_, e2⟩
      · obtain ⟨o', e1⟩ := tB b o e hb
        exact ⟨o', stay _ _ e1⟩
  exact I.call' (s' := { s' with heap := h5 }) (ch := []) os un5 (hok.kept stay) bare fun b hb => by cases hb
theorem typ_exc {M : Model} {h : Heap} {e : Addr} {o : Obj} {c : Value} (h1 : h.get? e = some o) (h2 : o.cls = c) : PySem.W.Looks M h (typeOf (.ref e)) c := by
  intro A Q E s k q
  unfold typeOf
  exact wpAny_bind (wpAny_loadPart (k _ _ h1) (wpAny_pure (by rw [h2]; exact q)))
def PassX (X : Cx) (EE : St → XK) : Prop := ∀ (pins : List (Addr × Obj)) (σ : St) (H : Hp) (s : Shared) (e : Value) (s' : Shared), Inv X pins σ H s → CXE X.prog X.w X.stack H s (EE σ) e s' → X.xe e s'
def tCallX (sp : Sp) (EE : St → XK) (t : TA) : TE := fun σ H Q => t σ H fun vs H1 => sp vs H1 Q (EE σ)
end
section
variable {X : Cx} {x : Str} {j k : Nat} {ps : List Str} {sp : Sp} {p pos : Pos} {e : Expr} {es : List Expr} {t : TA} {EE : St → XK}
end
section
variable {X : Cx} {body suite : List Stmt} {b₀ : Stmt} {D : Addr} {cx : Str} {np hpos pos : Pos} {tb : (St → XK) → TS} {ts : TS}
def tTry (K : PySem.W.Frag) (D : Addr) (tb : (St → XK) → TS) (ts : TS) : TS := fun En σ H => tb (fun σ1 C _ H1 => PySem.W.exmOne K C (.ref D) = some true ∧ ts En σ1 H1) En σ H
end
def clK (K : PySem.W.Frag) (x : Str) : Addr := match PySem.W.nsIn K mainGlobals x with
  | some (some (.ref C)) => C
  | _ => 0
theorem clK_of {K : PySem.W.Frag} {x : Str} {C : Addr} (h : PySem.W.nsIn K mainGlobals x = some (some (.ref C))) : clK K x = C := by
  unfold clK
  rw [h]
end L2
namespace Xc
open PySem PySem.W PySem.Spec PySem.Calls PyProof.Rows Builtin.ObjectAttr
structure ExcC (K : Frag) (C : Addr) : Prop where
  ga : findIn K (.ref C) "__getattribute__" = some (some (.builtin "BaseException.__getattribute__"))
  gh : findIn K (.ref C) "__getattr__" = some none
  ca : findIn K (.ref C) "__class__" = some (some (.builtin "object.__class__"))
  gg : specialIn K (.builtin "object.__class__") "__get__" = some (some (.builtin "getset_descriptor.__get__"))
  tk : takesIn K (.builtin "object.__class__") = some true
  mo : mroIn K C (.type "object") = some true
  mb : mroIn K C (.type "BaseException") = some true
  hd : hasDictIn K C = true
section
variable {prog : Program} {w : World} {A : Around} {E : Value → Shared → Prop} {s : Shared} {K : Frag} {x C : Addr} {ox : Obj} {odo : Option Obj}
theorem typ {M : Model} {h : Heap} (hx : h.get? x = some ox) (hc : ox.cls = .ref C) : Looks M h (typeOf (.ref x)) (.ref C) := hc ▸ (Looks.ld hx).andThen .now
theorem exc_found {M : Model} {h : Heap} (F : ExcC K C) (X : K.In h) : Looks M h (find (.ref x) (.ref C) "__class__") (.bind (.builtin "getset_descriptor.__get__") (.builtin "object.__class__")) := by
  have L1 := looks_findIn (M := M) X F.ca
  have L2 : Looks M h (getOf (some (.builtin "object.__class__"))) (some (.builtin "getset_descriptor.__get__")) := looks_specialIn X F.gg
  have L3 := looks_takesIn (M := M) X F.tk
  refine L1.andThen (L2.andThen ?_)
  exact (show Looks M h (dataDescriptor? (some (.builtin "object.__class__")) (some (.builtin "getset_descriptor.__get__"))) (some (.builtin "getset_descriptor.__get__", .builtin "object.__class__")) from L3.andThen .now).andThen (Looks.tag .now)
open Builtin Builtin.Getset_descriptor in
theorem exc_get {tp : Value} {R : Result → Shared → Prop} (X : K.In s.heap) (hx : s.heap.get? x = some ox) (hc : ox.cls = .ref C) (hm : mroIn K C (.type "object") = some true)
    (h : R (.ok (.ret (.ref C))) s) : codeAny (model prog w) A (.call (.builtin "getset_descriptor.__get__") ⟨[.builtin "object.__class__", .ref x, tp], []⟩) R s := by
  obtain ⟨hh, g, dr, t, os⟩ := s
  have L0 := typ (M := model prog w) hx hc
  have L1 := looks_mroIn (M := model prog w) X hm
  refine codeAny_call_builtin KF.slot_gs.plain KF.entry_gs (KF.slot_gs.check _ _ _ _ _ _ _ _ KF.type_class (KF.args_gs _ _ _) ?_)
  unfold Builtin.«getset_descriptor.__get__» descrGet
  rw [dga_obj]
  refine wpAny_bind (wpAny_pure ?_)
  unfold descrGetter descrCheckInstance descrNameAndClass isInstance
  simp only [KF.owner_class]
  repeat lk
  refine ⟨Code.quiet_builtin _ (by decide +kernel), codeAny_builtin KF.entry_class ?_⟩
  unfold Builtin.«object.__class__» shownTypeOf
  repeat lk
  exact h
theorem exc_check {nameV : Value} {Q : Unit → Shared → Prop} (F : ExcC K C) (X : K.In s.heap) (hx : s.heap.get? x = some ox) (hc : ox.cls = .ref C) (hq : Q () s) :
    wpAny (model prog w) A (checkBuiltinCall "BaseException.__getattribute__" ⟨[.ref x, nameV], []⟩) Q E s := by
  have hk : builtinKind "BaseException.__getattribute__" = some .slot := by decide +kernel
  have hsplit : splitId "BaseException.__getattribute__" = some ("BaseException", "__getattribute__") := by decide +kernel
  have LI : Looks (model prog w) s.heap (isInstance (.ref x) (.type "BaseException")) true := (typ (M := model prog w) hx hc).andThen (looks_mroIn X F.mb)
  have ha := PySem.F.args_bexc_ga (.ref x) nameV
  obtain ⟨hh, g, d, t, os⟩ := s
  simp only [checkBuiltinCall, hk, hsplit]
  refine wpAny_bind (LI.at ?_)
  repeat (first | assumption | wp_step)
  all_goals exact hq
theorem exc_entry {tk : Tok} {Q : Fin → Shared → Prop} (F : ExcC K C) (X : K.In s.heap) (hx : s.heap.get? x = some ox) (hc : ox.cls = .ref C) (hq : Q (.done (.ret (.ref C))) s) :
    wpAny (model prog w) A (Builtin.«object.__getattribute__» ⟨[.ref x, .str "__class__" tk], []⟩) Q E s := by
  have L0 := typ (M := model prog w) hx hc
  have L1 := exc_found (M := model prog w) (x := x) F X
  obtain ⟨hh, g, d, t, os⟩ := s
  unfold Builtin.«object.__getattribute__»
  refine wpAny_bind (wpAny_pure ?_)
  refine wpAny_bind (wpAny_pure ?_)
  refine wpAny_bind (L0.at ?_)
  refine wpAny_bind (L1.at ?_)
  show wpAny _ _ (holding [Value.builtin "object.__class__"] (call (.builtin "getset_descriptor.__get__") [.builtin "object.__class__", .ref x, .ref C]) >>= ret) _ _ _
  exact wpAny_bind (wpAny_holding (wpAny_call (exc_get X hx hc F.mo (wpAny_pure hq))))
theorem exc_class {Q : Option Value → Shared → Prop} (F : ExcC K C) (X : K.In s.heap) (hx : s.heap.get? x = some ox) (hc : ox.cls = .ref C) (h : Q (some (.ref C)) { s with toks := s.toks + 1 }) : wpAny (model prog w) A (getAttr? (.ref x) "__class__") Q E s := by
  have L0 := typ (M := model prog w) hx hc
  have L1 := looks_findIn (M := model prog w) X F.ga
  have L2 := looks_findIn (M := model prog w) X F.gh
  have B := PySem.F.attrBase_ValueError
  obtain ⟨hh, g, d, t, os⟩ := s
  unfold getAttr? getAttrBy? getAttrBy
  refine wpAny_bind (wpAny_mkText (wpAny_bind (wpAny_attempt (wpAny_holding (wpAny_bind (L0.at (wpAny_bind (L1.at ?_))))))))
  have hx2 : (Value.builtin "BaseException.__getattribute__" == Value.builtin "object.__getattribute__") = false := by decide +kernel
  have hx1 : (onTheHeap (Value.ref C) && Value.builtin "BaseException.__getattribute__" == Value.builtin "object.__getattribute__") = false := by rw [hx2]; rfl
  show wpAny _ _ (if (onTheHeap (Value.ref C) && Value.builtin "BaseException.__getattribute__" == Value.builtin "object.__getattribute__") = true then _ else getAttrByItsOwn (.ref x) _ (.ref C) (.builtin "BaseException.__getattribute__") false false) _ _ _
  rw [hx1, if_neg (by decide)]
  unfold getAttrByItsOwn
  refine wpAny_bind ?_
  show wpAny _ _ (typeLookup (.ref C) "__getattr__") _ _ _
  refine L2.at ?_
  refine wpAny_bind (wpAny_attempt (wpAny_holding ?_))
  show wpAny _ _ (boundAndCalled (.builtin "BaseException.__getattribute__") (.ref x) _) _ _ _
  unfold boundAndCalled
  refine wpAny_bind (wpAny_of_eq (B.ga.bind (.ref x)) ?_)
  refine wpAny_call (codeAny_call_builtin B.ga.plain PySem.F.entry_bexc_ga (exc_check F (s := ⟨hh, g, d, t + 1, os⟩) X hx hc (exc_entry F (s := ⟨hh, g, d, t + 1, os⟩) X hx hc ?_)))
  show wpAny _ _ (handedOut (.ref C)) _ _ _
  exact handed_on rfl (wpAny_pure h)
theorem kitx_exc (F : ExcC K C) : KitX K (.ref x) (.ref C) (fun h => ∃ ox, h.get? x = some ox ∧ ox.cls = .ref C) where
  ty := fun _ _ _ ⟨_, hx, hc⟩ => typ hx hc
  it := fun _ _ X _ => by
    obtain ⟨cdD, hcD, _⟩ := any_some F.hd
    unfold clsIn at hcD
    split at hcD
    · rename_i c' d' cd' sl' ho
      intro A' Q' E' s' k q
      unfold isType loadHead
      exact wpAny_bind (wpAny_loadPart (k _ _ (X _ _ ho)) (wpAny_pure q))
    · cases hcD
  ne := fun h tp dd its n sl X htp => by
    obtain ⟨cdD, hcD, _⟩ := any_some F.hd
    refine Bool.eq_false_iff.mpr fun q => ?_
    have e : C = tp := Value.ref.inj (beq_iff_eq.mp q)
    subst e
    unfold clsIn at hcD
    split at hcD
    · rename_i c' d' cd' sl' ho
      have z := (X _ _ ho).symm.trans htp
      cases z
    · cases hcD
  ca := fun X ⟨_, hx, hc⟩ k => exc_class F X hx hc k
end
end Xc
namespace L2
open PySem PySem.Spec PyProof.Rows
def ExcO (a C : Addr) : HO := .ext fun h => ∃ ox : Obj, h.get? a = some ox ∧ ox.cls = .ref C
section
variable {X : Cx} {pins : List (Addr × Obj)} {σ : St} {H H1 H' : Hp} {s s1 s' : Shared}
theorem objOk_there {P : Program} {w : World} {H : Hp} {h : Heap} {a : Addr} {o : HO} (x : ObjOk P w H h a o) : ∃ ob, h.get? a = some ob := by
  cases o with
  | lst xs => obtain ⟨_, _, _, _, e⟩ := x; exact ⟨_, e⟩
  | tup xs => obtain ⟨_, _, _, p⟩ := x; obtain ⟨o, e, _⟩ := p; exact ⟨o, e⟩
  | dK kvs => obtain ⟨_, _, _, _, o, _, _, e, _⟩ := x; exact ⟨_, e⟩
  | dT kvs => obtain ⟨_, _, _, _, o, _, _, e, _⟩ := x; exact ⟨_, e⟩
  | set S n => obtain ⟨o, _, _, _, e, _⟩ := x; exact ⟨_, e⟩
  | ins C dx fs => obtain ⟨_, _, _, e, _⟩ := x; exact ⟨_, e⟩
  | own y => obtain ⟨_, e⟩ := x; exact ⟨_, e⟩
  | xd fs => obtain ⟨_, ⟨_, _, _, e, _⟩, _⟩ := x; exact ⟨_, e⟩
  | rng lo hi => obtain ⟨_, _, _, e⟩ := x; exact ⟨_, e⟩
  | frz ob u => obtain ⟨e, _⟩ := x; exact ⟨_, e⟩
  | tbl ps => exact ⟨_, show h.get? a = some _ from x⟩
  | met f y => exact ⟨_, show h.get? a = some _ from x⟩
  | ext φ => obtain ⟨_, ⟨_, e⟩, _⟩ := x; exact ⟨_, e⟩
theorem landX {ea t Ca : Addr} {B h5 : Heap} (I : Inv X pins σ H1 s1) (os : s'.os = s1.os) (bare : AllBare s'.gens) (fly : Heap.FlyingW B X.stack ea (.ref Ca) (.ref t) s'.heap) (fly5 : Heap.FlyingW B X.stack ea (.ref Ca) (.ref t) h5) (up : s'.heap.UpToSlots h5)
    (hok : HOk X.prog X.w H' B) (kB : ∀ b o, s1.heap.get? b = some o → H1 b = none → b ∉ frs X.stack → B.get? b = some o) (tB : ∀ b o, s1.heap.get? b = some o → b ∉ frs X.stack → ∃ o', B.get? b = some o')
    (un : Un (frs X.stack) [] H1 H' s1.heap s'.heap) : H' ea = none ∧ Inv X pins σ (upd H' ea (ExcO ea Ca)) { s' with heap := h5 } := by
  have stay := fly5.1
  have hn : H' ea = none := by
    cases q : H' ea with
    | none => rfl
    | some o =>
      have h1 := (hok ea o q).lt
      obtain ⟨ob, hob⟩ : ∃ ob, B.get? ea = some ob := by
        have := hok ea o q
        exact objOk_there this
      rw [fly.2.1] at hob
      cases hob
  have new : ∀ b o, s1.heap.get? b = some o → b ≠ ea := fun b o e z => by
    subst z
    by_cases hb : b ∈ frs X.stack
    · obtain ⟨_, o', ho', hd⟩ := fly.2.2.1.mem hb
      obtain ⟨oe, vs, h1, _, h2, _⟩ := fly.first
      rw [h1] at ho'
      cases ho'
      exact hd _ h2
    · obtain ⟨o', e1⟩ := tB b o e hb
      rw [fly.2.1] at e1
      cases e1
  have slots : ∀ b o, s'.heap.get? b = some o → b ∈ frs X.stack → ∃ sl, h5.get? b = some { o with slots := sl } := fun b o e hb => by
    obtain ⟨_, o', ho', hd⟩ := fly.2.2.1.mem hb
    rw [e] at ho'
    cases ho'
    exact up b o e hd
  have un5 : Un (frs X.stack) [] H1 (upd H' ea (ExcO ea Ca)) s1.heap h5 := by
    refine ⟨fun b o e n nf _ => stay _ _ (kB b o e n nf), fun b o e n hb _ => ?_, fun b o e n hx => by rw [upd_ne (new b o e)]; exact un.free b o e n hx, fun b o e _ => ?_,
      fun b zs e => by have q := un.tups b zs e; rw [upd_ne (ne_of_none q hn)]; exact q, fun b o v e => by have q := un.frzs b o v e; rw [upd_ne (ne_of_none q hn)]; exact q, fun b ps e => ?_⟩
    · obtain ⟨sl, e1⟩ := un.slot b o e n hb (by simp)
      obtain ⟨sl2, e2⟩ := slots b _ e1 hb
      exact ⟨sl2, e2⟩
    · by_cases hb : b ∈ frs X.stack
      · obtain ⟨o', e1⟩ := un.there b o e (by simp)
        obtain ⟨sl, e2⟩ := slots b _ e1 hb
        exact ⟨_, e2⟩
      · obtain ⟨o', e1⟩ := tB b o e hb
        exact ⟨o', stay _ _ e1⟩
    · obtain ⟨more, q⟩ := un.tbls b ps e
      exact ⟨more, by rw [upd_ne (ne_of_none q hn)]; exact q⟩
  have hok5 : HOk X.prog X.w (upd H' ea (ExcO ea Ca)) h5 := fun a o e => by
    by_cases ha : a = ea
    · subst ha
      rw [upd_same] at e
      cases e
      obtain ⟨oe, vs, h1, h2, _⟩ := fly5.first
      exact ⟨⟨oe, h1, h2⟩, ⟨oe, h1⟩, fun h1 h2 ⟨ox, e1, e2⟩ k => ⟨ox, k ox e1, e2⟩⟩
    · rw [upd_ne ha] at e
      have q : ObjOk X.prog X.w H' B a o := hok a o e
      refine q.stay (fun c u hc e' => stay _ _ e') (fun c e' => ?_) fun c zs e' => ?_
      · rw [upd_ne (ne_of_none e' hn)]; exact e'
      · rw [upd_ne (ne_of_none e' hn)]; exact e'
  exact ⟨hn, I.call' (s' := { s' with heap := h5 }) (ch := []) os un5 hok5 bare fun b hb => by cases hb⟩
theorem del_ok {M : Model} {A : Around} {E : Value → Shared → Prop} {i : Nat} {x : Str} {pos : Pos} {Q : Unit → Shared → Prop} {v : V} (I : Inv X pins σ H s) (hN : X.N.Nodup) (hi : X.N[i]? = some x) (hk : X.env.scope.names.lookup x = some .local) (hv : σ[i]? = some (some v))
    (h : ∀ s', Inv X pins (σ.set i none) H s' → Q () s') : wpAny M A (unbindBehindTheSuite X.env x pos) Q E s := by
  obtain ⟨m, hn, hl⟩ := id I.loc
  have hcls : (X.env.scope.kind == .class || (X.env.scope.kind == .module && X.env.locals != X.env.globals)) = false := by rw [I.ok.kind]; rfl
  have hiσ : i < σ.length := by rw [I.len]; exact (List.getElem?_eq_some_iff.mp hi).1
  have cne := I.cne
  obtain ⟨u, _, lk⟩ := hl i x v hi hv (.inl hk)
  have hmx : m x = some u := by
    rcases lk with ⟨_, e⟩ | ⟨z, _⟩
    · exact e
    · have hk' : X.env.kindOf x = some .local := hk
      rw [hk'] at z
      rcases z with z | z <;> cases z
  have tracked : ∀ {a : Addr} {h' : Heap}, (∃ o, s.heap.get? a = some o ∧ H a = none) → Heap.SameBut a s.heap h' → HOk X.prog X.w H h' := fun {a h'} ha hs b ob e => by
    obtain ⟨_, _, hfree⟩ := ha
    refine (I.hok b ob e).stay (fun c w' hc q => (hs.2 c ?_).trans q) (fun _ q => q) fun _ _ q => q
    rintro rfl
    rcases hc with rfl | hc
    · rw [hfree] at e; cases e
    · rw [hfree] at hc; cases hc
  unfold unbindBehindTheSuite
  refine wpAny_onRaise (wpAny_unbindName_local hk hn hmx hcls fun h' u' hn' hs => ?_)
  obtain ⟨oL, _, _, hoL, _⟩ := id hn
  refine h _ ⟨I.ok, I.os, I.bare, ⟨fun b o e n hb hx => ?_, fun b o e n hb hx => ?_, I.base.free, fun b o e hx => ?_, I.base.tups, I.base.frzs, I.base.tbls⟩, ⟨_, hn', fun j y v' e1 e2 e3 => ?_⟩, fun y c e => ?_, I.free, I.freeC, fun p hp => ?_, tracked ⟨oL, hoL, I.free⟩ hs, by simpa using I.len⟩
  · exact (hs.2 b (Nat.ne_of_lt (Nat.lt_of_lt_of_le (Heap.lt_size e) I.ok.above))).trans (I.base.keep b o e n hb hx)
  · obtain ⟨sl, e1⟩ := I.base.slot b o e n hb hx
    exact ⟨sl, (hs.2 b (Nat.ne_of_lt (Nat.lt_of_lt_of_le (Heap.lt_size e) I.ok.above))).trans e1⟩
  · obtain ⟨o', e1⟩ := I.base.there b o e hx
    exact ⟨o', (hs.2 b (Nat.ne_of_lt (Nat.lt_of_lt_of_le (Heap.lt_size e) I.ok.above))).trans e1⟩
  · by_cases hj : j = i
    · subst hj
      rw [List.getElem?_set_self hiσ] at e2
      cases e2
    · rw [List.getElem?_set_ne (Ne.symm hj)] at e2
      obtain ⟨u2, r', q⟩ := hl j y v' e1 e2 e3
      refine ⟨u2, r', ?_⟩
      rcases q with ⟨k, e⟩ | ⟨k, c, e, z⟩
      · refine .inl ⟨k, ?_⟩
        have : y ≠ x := fun e => hj (nodup_ix hN e1 (e ▸ hi))
        simp [this, e]
      · exact .inr ⟨k, c, e, z.sameBut hs (cne y c e)⟩
  · obtain ⟨w', z⟩ := I.cell y c e
    exact ⟨w', z.sameBut hs (cne y c e)⟩
  · obtain ⟨e, n, ne, nf, d⟩ := I.pin p hp
    exact ⟨(hs.2 p.1 ne).trans e, n, ne, nf, d⟩
theorem call_isiX {K : PySem.W.Frag} (hK : X.K = K) : CallR X (.builtin "isinstance") (fun xs H Q => ∃ a y, xs = [.ref a, y] ∧ isCls y = true ∧ ∃ C, H a = some (ExcO a C) ∧ Xc.ExcC K C ∧ ∃ b, PySem.W.kitOne K (.ref C) (clsV y) = some b ∧ Q (.bl b) H) := by
  subst hK
  intro pins s σ H xs us Q I r h
  obtain ⟨a, y, rfl, hy, C, ho, F, b, e, q⟩ := h
  obtain ⟨u, w', rfl, rx, ry⟩ := vals2 r
  have ec : w' = clsV y := by
    cases y <;> first
      | (simp [isCls] at hy; done)
      | exact ry
  subst ec
  cases (show u = Value.ref a from rx)
  obtain ⟨⟨ox, h1, h2⟩, _⟩ := (show ObjOk X.prog X.w H s.heap a (ExcO a C) from I.hok a _ ho)
  exact PySem.W.kia_one (Xc.kitx_exc F) I.kIn ⟨ox, h1, h2⟩ e (fun z => nomatch z) fun tk => ⟨.bl b, H, I.tok tk, rfl, q⟩
end
section
variable {X : Cx} {body suite : List Stmt} {b₀ : Stmt} {D : Addr} {cx n : Str} {i : Nat} {np hpos pos : Pos} {tb : (St → XK) → TS} {ts : TS}
def Ends.gone (En : Ends) (i : Nat) : Ends := ⟨fun σ H => En.nx (σ.set i none) H, En.rt, fun σ H => En.bk (σ.set i none) H, fun σ H => En.ct (σ.set i none) H⟩
def tTryAs (K : PySem.W.Frag) (D : Addr) (i : Nat) (tb : (St → XK) → TS) (ts : TS) : TS := fun En σ H =>
  tb (fun σ1 C _ H1 => PySem.W.exmOne K C (.ref D) = some true ∧ ∃ Ca, C = .ref Ca ∧ ∀ ea, H1 ea = none → ts (En.gone i) (σ1.set i (some (.ref ea))) (upd H1 ea (ExcO ea Ca))) En σ H
theorem ps_tryAs (hst : X.stack = X.env :: X.outer) (hfr : X.env.frame = some X.env.locals) (hg : Gl X cx) (hm : X.mg cx = some (.ref D)) (hN : X.N.Nodup) (hi : X.N[i]? = some n) (hk : X.env.scope.names.lookup n = some .local)
    (hb : ∀ E pn EE, PassX (X.inTry E pn) EE → PSs (X.inTry E pn) body (tb EE)) (hs : ∀ e, PSs (X.inExc e) (b₀ :: suite) ts) (hdb : (cx == ("__debug__" : Str)) = false := by decide) :
    PS X (.Try body [.ExceptHandler (some (.Name cx np)) (some n) (b₀ :: suite) hpos] [] [] pos) (tTryAs X.K D i tb ts) := by
  intro pins s σ H En I h
  refine wpAny_Try_except (wpAny_mono (hb (fun e s₁ => wpAny (model X.prog X.w) X.A (noteFrame e X.env) (fun _ s₂ => wpAny (model X.prog X.w) X.A (setFlight e none) (fun _ s₃ =>
    wpAny (model X.prog X.w) X.A (handleBy e X.env [.ExceptHandler (some (.Name cx np)) (some n) (b₀ :: suite) hpos]) (SP X pins En) X.xe s₃) X.xe s₂) X.xe s₁) (X.pn ++ pins) _ ?_ [] s σ H En (I.inTry _) h) (fun f s1 hq => ?_) fun e s1 hq => hq)
  · intro pins' σ1 H1 s1 e s' I1 hc
    have J := I1.outTry
    obtain ⟨ea, t, C, vs, B, H', rfl, os, bare, fly, tup, tn, hok, kB, tB, un, hmt, Ca, rfl, hts⟩ := hc
    have fly' : Heap.FlyingW B (X.env :: X.outer) ea (.ref Ca) (.ref t) s'.heap := by rw [← hst]; exact fly
    refine wpAny_looks_onW (by rw [← hst]; exact I.ok.frames) hfr fly' fun h4 held4 up4 => ?_
    refine wpAny_landsW held4 fun h5 fly5 up5 => ?_
    have up := up4.trans up5
    have J5 : Inv X pins σ1 H' { s' with heap := h5 } := land J os bare fly fly5.1 up hok kB tB un
    obtain ⟨ob, hob, hobc⟩ := fly5.there
    refine wpAny_handleBy_cons (codeAny_handlers_test (ld_glob (J5.inExc (.ref ea)) hg hm ?_ hdb)) (by intro q; cases q)
    refine (PySem.W.exm_one J5.kIn (typ_exc hob hobc) hmt).at ?_
    refine codeAny_handlers_suite_as ?_
    refine lands_againW fly5 fun h6 fly6 up6 => ?_
    obtain ⟨hn, J6⟩ := landX J os bare fly (by rw [hst]; exact fly6) (up.trans up6) hok kB tB un
    refine store_ok (v := .ref ea) J6 hN hi (.inl hk) rfl (fun s6 J7 => ?_) (.inr hk)
    refine wpAny_mono (hs (.ref ea) pins s6 _ _ (En.gone i) (J7.inExc _) (hts ea hn)) (fun f s7 h7 => ?_) fun _ _ z => z.elim
    show wpAny _ X.A (do bindName X.env n .none; unbindBehindTheSuite X.env n hpos) (fun _ s₃ => SP X pins En f s₃) X.xe s7
    have fin : ∀ (σ7 : St) (H7 : Hp) (R : Shared → Prop), Inv (X.inExc (.ref ea)) pins σ7 H7 s7 → (∀ s8, Inv X pins (σ7.set i none) H7 s8 → R s8) → wpAny (model X.prog X.w) X.A (do bindName X.env n .none; unbindBehindTheSuite X.env n hpos) (fun _ s8 => R s8) X.xe s7 := fun σ7 H7 R I7 k => by
      have I8 := I7.outExc (hd := I.ok.hd) (fr := I.ok.frames)
      refine wpAny_bind (wpAny_bindName (store_ok (v := .non) I8 hN hi (.inl hk) rfl (fun s8 I9 => ?_) (.inr hk)))
      have hil : i < σ7.length := by rw [I8.len]; exact (List.getElem?_eq_some_iff.mp hi).1
      refine del_ok I9 hN hi hk (v := .non) (by rw [List.getElem?_set_self hil]) fun s9 I10 => k s9 ?_
      rw [List.set_set] at I10
      exact I10
    cases f with
    | next => obtain ⟨σ7, H7, I7, q7⟩ := h7; exact fin σ7 H7 _ I7 fun s8 I8 => ⟨_, H7, I8, q7⟩
    | brk => obtain ⟨σ7, H7, I7, q7⟩ := h7; exact fin σ7 H7 _ I7 fun s8 I8 => ⟨_, H7, I8, q7⟩
    | cont => obtain ⟨σ7, H7, I7, q7⟩ := h7; exact fin σ7 H7 _ I7 fun s8 I8 => ⟨_, H7, I8, q7⟩
    | ret u => obtain ⟨v, σ7, H7, I7, r7, q7⟩ := h7; exact fin σ7 H7 _ I7 fun s8 I8 => ⟨v, _, H7, I8, r7, q7⟩
  · cases f with
    | next => obtain ⟨σ7, H7, I7, q7⟩ := hq; exact wpAny_execs_nil ⟨σ7, H7, I7.outTry, q7⟩
    | brk => obtain ⟨σ7, H7, I7, q7⟩ := hq; exact ⟨σ7, H7, I7.outTry, q7⟩
    | cont => obtain ⟨σ7, H7, I7, q7⟩ := hq; exact ⟨σ7, H7, I7.outTry, q7⟩
    | ret u => obtain ⟨v, σ7, H7, I7, r7, q7⟩ := hq; exact ⟨v, σ7, H7, I7.outTry, r7, q7⟩
end
theorem DatVs.bls {K : PySem.W.Frag} {H : Hp} : ∀ bs : List Bool, DatVs K H (bs.map V.bl) (bs.map PyData.bool)
  | [] => .nil
  | b :: r => .cons (.bl b) (DatVs.bls r)
theorem canLay_bls : ∀ bs : List Bool, PyData.canLayAll0 (bs.map PyData.bool) = true
  | [] => by simp [PyData.canLayAll0]
  | b :: r => by simp [PyData.canLayAll0, PyData.canLay0, canLay_bls r]
theorem depth_bls : ∀ bs : List Bool, PyData.depthAll (bs.map PyData.bool) = 0
  | [] => by simp [PyData.depthAll]
  | b :: r => by simp [PyData.depthAll, PyData.depth, depth_bls r]
theorem eqvAll_bls : ∀ bs : List Bool, PyData.eqvAll (bs.map PyData.bool) (bs.map PyData.bool) = true
  | [] => by simp [PyData.eqvAll]
  | b :: r => by simp [PyData.eqvAll, PyData.eqv, eqvAll_bls r]
theorem eqLB {K : PySem.W.Frag} {H : Hp} {a b : Addr} {Q : VK} (bs : List Bool) (h : SqL K H a (bs.map V.bl)) (h' : SqL K H b (bs.map V.bl)) (q : Q (.bl true) H) : rEqD K false (.ref a) (.ref b) H Q := by
  have sh : SeqAt.shaped (.list (bs.map PyData.bool)) = true := by
    unfold SeqAt.shaped
    simp [PyData.canLay0, PyData.depth, canLay_bls, depth_bls]
  refine ⟨_, _, .lst h (DatVs.bls bs), .lst h' (DatVs.bls bs), sh, sh, ?_⟩
  rw [if_neg (by decide)]
  have e : PyData.eqv (.list (bs.map PyData.bool)) (.list (bs.map PyData.bool)) = true := by
    simp only [PyData.eqv]
    exact eqvAll_bls bs
  rw [e]
  exact q
end L2
namespace L2
open PySem PySem.Spec PyProof.Rows
section
variable {X : Cx}
end
end L2
namespace L2
open PySem PySem.Spec PyProof.Rows
section
variable {X : Cx} {pins : List (Addr × Obj)} {σ : St} {H : Hp} {s : Shared} {h' : Heap}
theorem Inv.turned2 {t' : Nat} {a e it : Addr} {o : HO} (I : Inv X pins σ H s) (k : ∀ b u, b ≠ e → b ≠ it → s.heap.get? b = some u → h'.get? b = some u) (ha : a = s.heap.objs.size) (new : ObjOk X.prog X.w (upd H a o) h' a o) (fe : FpOk X pins H e) (fi : FpOk X pins H it) :
    Inv X pins σ (upd H a o) { s with heap := h', toks := t' } := by
  have hnone : H a = none := I.hok.fresh (by rw [ha]; exact Nat.le_refl _)
  have lts : ∀ b u, s.heap.get? b = some u → b ≠ a := fun b u q => by rw [ha]; exact Nat.ne_of_lt (Heap.lt_size q)
  have nin : ∀ b, b ∉ [e, it] → b ≠ e ∧ b ≠ it := fun b hb => ⟨fun z => hb (by simp [z]), fun z => hb (by simp [z])⟩
  have ntr : ∀ b u, H b = some u → b ≠ e ∧ b ≠ it := fun b u q => ⟨ne_of_none q fe.1, ne_of_none q fi.1⟩
  refine I.step (g' := s.gens) (d' := s.drawn) (ch := [e, it]) (fun b hb => ?_) (fun b u _ _ hc q _ => k b u (nin b hc).1 (nin b hc).2 q) (fun b u _ _ hc q _ => ⟨u.slots, k b u (nin b hc).1 (nin b hc).2 q⟩) (fun b u _ q n => by rw [upd_ne (lts b u q)]; exact n)
    (fun b u hc q => ⟨u, k b u (nin b hc).1 (nin b hc).2 q⟩) (fun b zs q => by rw [upd_ne (ne_of_none q hnone)]; exact q) (fun b u v q => by rw [upd_ne (ne_of_none q hnone)]; exact q) (fun b ps q => ⟨#[], by rw [upd_ne (ne_of_none q hnone), q]; simp⟩) (fun m hm => ?_) (fun b u q => ?_) I.bare
  · have fb : FpOk X pins H b := by
      rcases List.mem_cons.mp hb with z | z
      · rw [z]; exact fe
      · rw [List.mem_singleton.mp z]; exact fi
    obtain ⟨f0, f1, f2, f3, f4, f5⟩ := fb
    exact ⟨f3, f1, f4, f5⟩
  · obtain ⟨u, es, ep, ho, r⟩ := hm
    exact ⟨u, es, ep, k _ u (Ne.symm fe.2.1) (Ne.symm fi.2.1) ho, r⟩
  · by_cases hb : b = a
    · subst hb
      rw [upd_same] at q
      cases q
      exact new
    · rw [upd_ne hb] at q
      have w : ObjOk X.prog X.w H s.heap b u := I.hok b u q
      have ntr' : ∀ c, (c = b ∨ ∃ u, H c = some u) → c ≠ e ∧ c ≠ it := fun c hc => by
        rcases hc with z | ⟨_, z⟩
        · rw [z]; exact ntr b u q
        · exact ntr c _ z
      refine w.stay (fun c v hc q' => k c v (ntr' c ?_).1 (ntr' c ?_).2 q') (fun c q' => ?_) fun c zs q' => ?_
      · rcases hc with z | z
        · exact .inl z
        · exact .inr ⟨_, z⟩
      · rcases hc with z | z
        · exact .inl z
        · exact .inr ⟨_, z⟩
      · rw [upd_ne (ne_of_none q' hnone)]; exact q'
      · rw [upd_ne (ne_of_none q' hnone)]; exact q'
end
def Ite (K : PySem.W.Frag) (a : Addr) : It :=
  ⟨fun i H => ∃ xs x, SqL K H a xs ∧ xs[i]? = some x, fun i H x H' => ∃ y t, (∀ xs, SqL K H a xs → xs[i]? = some y) ∧ H t = none ∧ x = .ref t ∧ H' = upd H t (.tup [.int (i : Int), y]), fun i H => ∃ xs, SqL K H a xs ∧ xs.length ≤ i⟩
theorem turn_enum {P : Program} {w : World} {K : PySem.W.Frag} {elts : List Expr} {x1} {tp : Pos} (a e it : Addr) (hne : e ≠ it) : Turn P w K (.Tuple elts x1 tp) (Ite K a) [e, it] e (fun i h => (∃ old, IsEnum h e it ((i : Nat) : Int) old) ∧ h.IsListIter it a i) where
  mem := by simp
  obj := fun i h st b hb => by
    obtain ⟨⟨old, he⟩, o, ho, c, d⟩ := st
    rcases List.mem_cons.mp hb with z | z
    · subst z
      exact ⟨_, he, fun v z => by
        have z' : Data.fields _ = Data.cell v := z
        cases z'⟩
    · rw [List.mem_singleton.mp z]
      exact ⟨o, ho, fun v z => by rw [d] at z; cases z⟩
  keep := fun i h h' st k => by
    obtain ⟨⟨old, he⟩, hi⟩ := st
    exact ⟨⟨old, k e (by simp) _ he⟩, hi.at fun o q => k it (by simp) o q⟩
  item := by
    intro X hP hw hK hc i pins s σ H E I hf st hg
    subst hP hw hK
    obtain ⟨xs, x, hq, hx⟩ := hg
    obtain ⟨its, rv, p, hz⟩ := I.list hq
    obtain ⟨u, hu, ru⟩ := rv.get hx
    obtain ⟨⟨old, he⟩, hit⟩ := st
    have fe := hf e (by simp)
    have fi := hf it (by simp)
    have hel : e < s.heap.objs.size := Heap.lt_size he
    refine wpAny_pyNext_enum_item he hit p.isList (x := u) (by simpa using hu) hne fun h1 he1 hit1 ht1 hz1 hk1 => ⟨_, rfl, ?_⟩
    refine wpAny_letOwnedTupleGo_enum he1 fun h2 he2 hs2 => ?_
    have hs2' : Heap.SameBut e h1 h2 := hs2
    have hnone : H s.heap.objs.size = none := I.hok.fresh (Nat.le_refl _)
    refine ⟨.ref s.heap.objs.size, upd H s.heap.objs.size (.tup [.int (i : Int), x]), I.turned2 (t' := s.toks + 1) (e := e) (it := it) (fun b o hb1 hb2 q => (hs2'.2 b hb1).trans (hk1 b o hb1 hb2 q)) rfl ?_ fe fi, rfl, ⟨x, _, fun ys hy => by rw [I.list_inj hy hq]; exact hx, hnone, rfl, rfl⟩, ⟨⟨_, by rw [Int.natCast_add]; exact he2⟩, hit1.extBut hs2'.extBut (Ne.symm hne)⟩, fun b hb => ?_⟩
    · exact ⟨by show 2 ≤ sizeLine; decide, [.int i s.toks, u], .cons ⟨_, rfl⟩ (.cons ru .nil), ⟨_, (hs2'.2 _ (Nat.ne_of_gt hel)).trans ht1, rfl, _, rfl⟩⟩
    · have hb0 : H b = none := (hf b hb).1
      have hbl : b < s.heap.objs.size := by
        rcases List.mem_cons.mp hb with z | z
        · rw [z]; exact hel
        · rw [List.mem_singleton.mp z]
          obtain ⟨o, ho, _⟩ := id hit
          exact Heap.lt_size ho
      rw [upd_ne (Nat.ne_of_lt hbl)]
      exact hb0
  done := by
    intro X hP hw hK hc i pins s σ H E I hf st hg
    subst hP hw hK
    obtain ⟨xs, hq, hx⟩ := hg
    obtain ⟨its, rv, p, hz⟩ := I.list hq
    obtain ⟨⟨old, he⟩, hit⟩ := st
    obtain ⟨f0, f1, f2, f3, f4, f5⟩ := hf it (by simp)
    have hl := rv.length
    exact wpAny_pyNext_enum_end (I.ok.hd hc) he hit p.isList (by simp; omega) fun h' eb => ⟨rfl, I.turned (t' := s.toks) (fun b o hb q => eb b o hb q) f0 f1 f3 f4 f5⟩
  self := fun _ _ _ _ _ ⟨⟨_, he⟩, _⟩ h => wpAny_pyIter_enum he h
section
variable {X : Cx} {e : Expr} {te : TE} {p p2 pos pos2 : Pos}
def iEnum (K : PySem.W.Frag) (tl : TE) : TI := fun σ H R => tl σ H fun x H1 => ∃ a, x = .ref a ∧ (∃ xs, SqL K H1 a xs) ∧ R (Ite K a) H1
theorem pi_enum {elts : List Expr} {x1} {tp : Pos} (hg : Gl X "enumerate") (hm : X.mg "enumerate" = none) (he : PE X e te) (hs : starEach [e] X.env = (false, eval e X.env) :: starEach [] X.env := by rfl) : PI X (.Tuple elts x1 tp) (.Call (.Name "enumerate" p) [e] [] pos) (iEnum X.K te) := by
  intro pins s σ H R I h
  refine wpAny_Call_Name_kw (ld_blt I hg hm PyProof.Rows.boot_enumerate ?_ (by decide) (by decide))
  refine PyProof.Rows.callWith_type1 (thn (pa_cons he pa_nil hs pos pins s σ H (fun vs H1 => ∃ a, vs = [.ref a] ∧ (∃ xs, SqL X.K H1 a xs) ∧ R (Ite X.K a) H1) I ?_) fun us s1 ⟨vs, H1, I1, r1, q1⟩ => ?_) hs rfl
  · show te σ H _
    have e2 : (fun x H1 => tNil σ H1 fun xs H2 => (fun vs H1 => ∃ a, vs = [V.ref a] ∧ (∃ xs, SqL X.K H1 a xs) ∧ R (Ite X.K a) H1) (x :: xs) H2) = fun x H1 => ∃ a, x = V.ref a ∧ (∃ xs, SqL X.K H1 a xs) ∧ R (Ite X.K a) H1 := by
      funext x H1
      simp only [tNil, List.cons.injEq, and_true]
    have := h
    unfold iEnum at this
    rw [← e2] at this
    exact this
  · obtain ⟨a, rfl, ⟨xs, hq⟩, hR⟩ := q1
    obtain ⟨u, rfl, ru⟩ := vals1 r1
    cases ru
    obtain ⟨its, rv, pl, hz⟩ := I1.list hq
    refine call_enumerate_list pl.isList fun h' he' hit hz' hk => ?_
    refine wpAny_pyIter_enum he' ?_
    refine ⟨s1.heap.objs.size + 1, [s1.heap.objs.size + 1, s1.heap.objs.size], _, _, H1, rfl, I1.kept (t' := s1.toks) hk, turn_enum a _ _ (Nat.succ_ne_self _), ⟨⟨_, he'⟩, hit⟩, fun b hb => ?_, hR⟩
    rcases List.mem_cons.mp hb with z | z
    · rw [z]; exact I1.fpOk (Nat.le_succ _) (I1.hok.fresh (Nat.le_succ _))
    · rw [List.mem_singleton.mp z]; exact I1.fpOk (Nat.le_refl _) (I1.hok.fresh (Nat.le_refl _))
end
theorem forE {K : PySem.W.Frag} {a : Addr} {g : TG} {tb : TS} {D : Ends} {σ : St} {H : Hp} (ns : List Int) (Pv : Nat → St → Hp → Prop) (h0 : Pv 0 σ H) (hl : ∀ i σ H, Pv i σ H → SqL K H a (ns.map V.int))
    (hs : ∀ i (x : Int) σ H t H', ns[i]? = some x → Pv i σ H → Same H H' → H' t = some (.tup [.int (i : Int), .int x]) → g (.ref t) σ H' fun σ2 H2 => tb { D with nx := Pv (i + 1), ct := Pv (i + 1), bk := D.nx } σ2 H2) (hd : ∀ σ H, Pv ns.length σ H → D.nx σ H) :
    ForIt (Ite K a) g tb D σ H := by
  refine ⟨fun i m σ H => m = ns.length - i ∧ i ≤ ns.length ∧ Pv i σ H, ⟨ns.length, by simp, Nat.zero_le _, h0⟩, ?_⟩
  rintro i m σ H ⟨rfl, hi, p⟩
  have q := hl i σ H p
  by_cases hlt : i < ns.length
  · have hx : ns[i]? = some ns[i] := List.getElem?_eq_getElem hlt
    have hx' : (ns.map V.int)[i]? = some (.int ns[i]) := by rw [List.getElem?_map, hx]; rfl
    refine .inr ⟨⟨_, _, q, hx'⟩, Pv (i + 1), fun σ' H' p' => ⟨ns.length - (i + 1), by omega, rfl, hlt, p'⟩, fun x H' y => ?_⟩
    obtain ⟨y, t, hy, ht, rfl, rfl⟩ := y
    have hy := hy _ q
    rw [hx'] at hy
    cases hy
    exact hs i _ σ H t _ hx p (same_new ht _) upd_same
  · have e : i = ns.length := by omega
    subst e
    exact .inl ⟨⟨_, q, by simp⟩, hd σ H p⟩
section
variable {X : Cx} {e lo hi st : Expr} {te : TE} {tl th tk : TO} {pos p2 : Pos}
def tSlK (K : PySem.W.Frag) (te : TE) (tl th tk : TO) : TE := fun σ H Q => te σ H fun x H1 => tl σ H1 fun l H2 => th σ H2 fun u H3 => tk σ H3 fun k H4 =>
  ∃ (a : Addr) (ns : List Int), x = .ref a ∧ k ≠ some 0 ∧ SqL K H4 a (ns.map V.int) ∧ ∀ ms : List Int, ms.length ≤ ns.length → (∀ m, m ∈ ms → m ∈ ns) → ∀ p, H4 p = none → Q (.ref p) (upd H4 p (.lst (ms.map V.int)))
end
section
variable {X : Cx}
def rGetL (K : PySem.W.Frag) : R2 := fun x y H Q => ∃ p xs i v, x = .ref p ∧ y = .int i ∧ 0 ≤ i ∧ SqL K H p xs ∧ xs[i.toNat]? = some v ∧ Q v H
theorem get_list : PGet X (rGetL X.K) := by
  intro pins s σ H o i ov iv Q I ro ri h
  obtain ⟨p, xs, k, v, rfl, rfl, h0, hq, hv, q⟩ := h
  cases ro
  obtain ⟨t, rfl⟩ := ri
  obtain ⟨its, r, pl, hz⟩ := I.list hq
  obtain ⟨u, eu, ru⟩ := r.get hv
  have hn := line63
  have hl := (List.getElem?_eq_some_iff.mp hv).1
  exact wpAny_getItem_list pl.isList h0 (by omega) (x := u) (by simpa using eu) ⟨v, H, I, ru, q⟩
theorem ix_listK {K : PySem.W.Frag} (hK : X.K = K) : IxR X (rIxL K) := by subst hK; exact ix_list
theorem vals_bls : ∀ {bs : List Bool} {us : List Value}, Vals (bs.map V.bl) us → us = bs.map Value.bool
  | [], _, .nil => rfl
  | b :: bs, _, .cons r t => by
    have r' : _ = Value.bool b := r
    rw [r', vals_bls t]
    rfl
theorem bt_all : bootBuiltins "all" = some (.builtin "all") := by decide +kernel
theorem bt_abs : bootBuiltins "abs" = some (.builtin "abs") := by decide +kernel
theorem call_allB (hc : X.calm = true) : CallR X (.builtin "all") (fun xs H Q => ∃ (p : Addr) (bs : List Bool), xs = [.ref p] ∧ SqL X.K H p (bs.map V.bl) ∧ Q (.bl (bs.all id)) H) := by
  intro pins s σ H xs us Q I r h
  obtain ⟨p, bs, rfl, hq, q⟩ := h
  obtain ⟨u, rfl, rx⟩ := vals1 r
  cases rx
  obtain ⟨its, rv, pl, hz⟩ := I.list hq
  have ei : its = bs.map Value.bool := vals_bls rv
  obtain ⟨o, ho, _⟩ := id pl.isList
  have hne : p ≠ s.heap.objs.size := Nat.ne_of_lt (Heap.lt_size ho)
  refine call_all_walk (wpAny_pyIter_list pl.isList ?_)
  refine ⟨s.heap.objs.size, _, _, _, _, _, fun i => bs.getD i false, rfl, Walks.list (A := X.A.in1) (I.ok.hd hc) s.heap.objs.size p hne its.toArray, ⟨⟨_, Heap.get?_push_size _ rfl, rfl, rfl⟩, pl.isList.at fun o e => Heap.get?_push_of_some _ e⟩, ?_, ?_⟩
  · intro i v s' Q' E' hP hQ
    have hv : its[i]? = some v := by simpa using hP
    rw [ei, List.getElem?_map] at hv
    cases z : bs[i]? with
    | none => rw [z] at hv; cases hv
    | some b =>
      rw [z] at hv
      cases hv
      refine wpAny_truthy_bool ?_
      have : bs.getD i false = b := by rw [List.getD_eq_getElem?_getD, z]; rfl
      rw [← this]
      exact hQ
  · intro h' tk hk
    have f := I.fpOk (H' := H) (Nat.le_refl _) (I.hok.fresh (Nat.le_refl _))
    obtain ⟨f0, f1, f2, f3, f4, f5⟩ := f
    have I2 : Inv X pins σ H { s with heap := h', toks := tk } := I.turned (t' := tk) (it := s.heap.objs.size) (fun b o hb e => hk b o (by simpa using hb) (Heap.get?_push_of_some _ e)) f0 f1 f3 f4 f5
    have ea : (List.range its.toArray.size).all (fun i => bs.getD i false) = bs.all id := by
      rw [ei, List.size_toArray, List.length_map]
      have e1 : bs = (List.range bs.length).map (fun i => bs.getD i false) := by
        refine List.ext_getElem (by simp) fun j h1 h2 => ?_
        rw [List.getElem_map, List.getElem_range, List.getD_eq_getElem?_getD, List.getElem?_eq_getElem h1]
        rfl
      conv => rhs; rw [e1]
      rw [List.all_map]
      rfl
    exact ⟨.bl (bs.all id), H, I2, by rw [ea]; rfl, q⟩
end
section
variable {X : Cx} {a b : Expr} {ta : TA} {p p2 pos pos2 : Pos}
def nums (i : Int) (n : Nat) : List Int := (List.range n).map fun k : Nat => i + (k : Int)
def tListRng (ta : TA) : TE := fun σ H Q => ta σ H fun vs H1 => ∃ i j : Int, vs = [.int i, .int j] ∧ (-1000000 ≤ i ∧ i < 1000000 ∧ -1000000 ≤ j ∧ j < 1000000) ∧ ∀ l, H1 l = none → Q (.ref l) (upd H1 l (.lst ((nums i (j - i).toNat).map V.int)))
end
end L2
namespace L2
open PySem PySem.Spec PyProof.Rows
namespace So
open PySem.W
section
variable {n : Nat} {key : Nat → Int} {cmp : Nat → Nat → (Bool → Shared → Prop) → Shared → Prop} {s : Shared}
end
end So
end L2
namespace L2
open PySem PySem.Spec PyProof.Rows
section
variable {P : Program} {w : World} {K : PySem.W.Frag} {mg : Str → Option Value} {base : Heap} {x qual : Str} {st : Stmt} {f : Addr} {fd : FuncData} {ps : List Str} {sp : Nat → Sp}
end
theorem compL {K : PySem.W.Frag} {a : Addr} {caps : List Nat} {tt : TT} {te : TE} {σ : St} {H : Hp} {Q : VK} (xs : List V) (Pv : Nat → List V → Hp → Prop) (hn : xs.length ≤ sizeLine) (h0 : Pv 0 [] H) (hl : ∀ i ys H, Pv i ys H → SqL K H a xs)
    (hs : ∀ i (x : V) ys H, xs[i]? = some x → Pv i ys H → tt (some x :: capV caps σ) H fun b H4 => if b = true then te (some x :: capV caps σ) H4 fun v H5 => Pv (i + 1) (ys ++ [v]) H5 else Pv (i + 1) ys H4)
    (hd : ∀ ys H, Pv xs.length ys H → ∀ p, H p = none → Q (.ref p) (upd H p (.lst ys))) : CompIt (Itl K a) caps tt te σ H Q := by
  refine ⟨xs.length, fun i ys H => i ≤ xs.length ∧ Pv i ys H, hn, ⟨Nat.zero_le _, h0⟩, ?_⟩
  rintro i ys H2 ⟨hi, p⟩
  have hS := hl i ys H2 p
  by_cases hlt : i < xs.length
  · have hv : xs[i]? = some xs[i] := List.getElem?_eq_getElem hlt
    refine .inr ⟨⟨_, _, hS, hv⟩, hlt, ?_⟩
    rintro y H3 ⟨rfl, hy⟩
    have hxy : y = xs[i] := (Option.some.inj (hv.symm.trans (hy _ hS))).symm
    subst hxy
    have key := hs i _ ys H3 hv p
    have e2 : (fun (b : Bool) (H4 : Hp) => if b = true then te (some xs[i] :: capV caps σ) H4 fun v H5 => Pv (i + 1) (ys ++ [v]) H5 else Pv (i + 1) ys H4) = fun b H4 => if b = true then te (some xs[i] :: capV caps σ) H4 fun v H5 => i + 1 ≤ xs.length ∧ Pv (i + 1) (ys ++ [v]) H5 else i + 1 ≤ xs.length ∧ Pv (i + 1) ys H4 := by
      funext b H4
      have z : i + 1 ≤ xs.length := hlt
      simp only [z, true_and]
    rw [e2] at key
    exact key
  · have e : i = xs.length := by omega
    subst e
    exact .inl ⟨⟨_, hS, Nat.le_refl _⟩, hd ys H2 p⟩
section
variable {X : Cx}
end
namespace So
open PySem.W
section
variable {pr : Program} {wo : World} {Ar : Around} {Er : Value → Shared → Prop} {st : Shared}
end
end So
section
variable {X : Cx}
end
end L2
namespace L2
open PySem PySem.Spec PyProof.Rows
def tComp2 (caps : List Nat) (wi : TI) (g : TG) (tt : TT) (te : TE) : TE := fun σ H Q => wi σ H fun J H1 => ∃ (n : Nat) (W : Nat → List V → Hp → Prop), n ≤ sizeLine ∧ W 0 [] H1 ∧ ∀ i ys H2, W i ys H2 →
  (J.stop i H2 ∧ ∀ p, H2 p = none → Q (.ref p) (upd H2 p (.lst ys))) ∨
  (J.go i H2 ∧ i < n ∧ ∀ x H3, J.yld i H2 x H3 → ∀ o1 o2 : Option V, g x (o1 :: o2 :: capV caps σ) H3 fun σ4 H4 => (∃ v1 v2 : V, σ4 = some v1 :: some v2 :: capV caps σ) ∧ tt σ4 H4 fun b H5 => if b = true then te σ4 H5 fun v H6 => W (i + 1) (ys ++ [v]) H6 else W (i + 1) ys H5)
section
variable {X : Cx} {scope : Scope} {cl : List (Str × Addr)} {caps : List Nat} {xs : List Str} {C : Addr} {s : Shared} {H : Hp} {fp : List Addr} {pins : List (Addr × Obj)} {σ : St}
theorem comp_start2 (I : Inv X pins σ H s) (hcl : ClOk X.env.cells cl) (hk : scope.kind = .function) (hfp : ∀ b ∈ fp, FpOk X pins H b) (hlt : ∀ b ∈ fp, b < s.heap.objs.size)
    (hhas : ((relabel scope X.env).names.all fun y => !(y.2 == .cell || y.2 == .free) || (cl.lookup y.1).isSome) = true) (hC : s.heap.objs.size ≤ C)
    (hcap : CapsOk X (relabel scope X.env) cl caps xs) (hlen : caps.length = xs.length) {x y : Str} {h₁ : Heap} {t : Nat} {m : Str → Option Value} (hn : h₁.Ns C m) (kp : ∀ b o, s.heap.get? b = some o → h₁.get? b = some o) :
    Inv (compCx X (x :: y :: xs) scope cl C s H fp) [] (none :: none :: capV caps σ) H { s with heap := h₁, toks := t } where
  ok := comp_ok I hcl hk hfp hlt hhas hC
  os := rfl
  bare := I.bare
  base := Un.kept kp
  loc := by
    refine ⟨m, hn, fun i z v h1 h2 _ => ?_⟩
    cases i with
    | zero => simp at h2
    | succ i =>
    cases i with
    | zero => simp at h2
    | succ i =>
      obtain ⟨j, e1, e2, e3, e4, c, e5⟩ := cap_get (X := X) (scope := scope) hcap (i := i) (by simpa [compCx] using h1) (by simpa using h2)
      obtain ⟨m₀, _, hl⟩ := I.loc
      obtain ⟨u, r, lk⟩ := hl j z v e1 e2 (.inr (.inl e3))
      refine ⟨u, r, .inr ⟨.inl e4, c, e5, ?_⟩⟩
      rcases lk with ⟨z1, _⟩ | ⟨_, c', q1, q2⟩
      · have z' : X.env.scope.names.lookup z = some .local := z1
        rw [e3] at z'
        cases z'
      · rw [hcl.get e5] at q1
        cases q1
        obtain ⟨o, ho, hd⟩ := q2
        exact ⟨o, kp _ _ ho, hd⟩
  cell := fun z c e => by
    obtain ⟨v, o, ho, hd⟩ := I.cell z c (hcl.get e)
    exact ⟨v, o, kp _ _ ho, hd⟩
  free := I.hok.fresh hC
  freeC := fun z c e => I.freeC z c (hcl.get e)
  pin := fun p hp => by
    have hp' : p ∈ ([] : List (Addr × Obj)) := hp
    cases hp'
  hok := I.hok.kept kp
  len := by simp [compCx, capV, hlen]
end
section
variable {X : Cx}
theorem comp_block2 {elt iter tgt : Expr} {x y : Str} {pos : Pos} {g : TG} {ifs : List Expr} {scope : Scope} {cl : List (Str × Addr)} {caps : List Nat} {xs : List Str} {tt : TT} {te : TE}
    (hc : X.calm = true) (hcl : ClOk X.env.cells cl) (hcap : CapsOk X (relabel scope X.env) cl caps xs) (hlen : caps.length = xs.length)
    (hkind : scope.kind = .function) (hcell : ∀ y ∈ scope.names, y.2 ≠ .cell)
    (hhas : ((relabel scope X.env).names.all fun y => !(y.2 == .cell || y.2 == .free) || (cl.lookup y.1).isSome) = true)
    (hg : ∀ C s H fp, PG (compCx X (x :: y :: xs) scope cl C s H fp) tgt g)
    (ht : ∀ C s H fp, PTs (compCx X (x :: y :: xs) scope cl C s H fp) ifs tt) (he : ∀ C s H fp, PE (compCx X (x :: y :: xs) scope cl C s H fp) elt te)
    {pins : List (Addr × Obj)} {σ : St} {H1 : Hp} {s2 : Shared} {it : Addr} {fp : List Addr} {tn : Nat → Heap → Prop} {J : It} {Q : VK}
    (I2 : Inv X pins σ H1 s2) (T : Turn X.prog X.w X.K tgt J fp it tn) (st0 : tn 0 s2.heap) (hfp : ∀ b ∈ fp, FpOk X pins H1 b)
    (hq : ∃ (n : Nat) (W : Nat → List V → Hp → Prop), n ≤ sizeLine ∧ W 0 [] H1 ∧ ∀ i ys H2, W i ys H2 →
      (J.stop i H2 ∧ ∀ p, H2 p = none → Q (.ref p) (upd H2 p (.lst ys))) ∨
      (J.go i H2 ∧ i < n ∧ ∀ x H3, J.yld i H2 x H3 → ∀ o1 o2 : Option V, g x (o1 :: o2 :: capV caps σ) H3 fun σ4 H4 => (∃ v1 v2 : V, σ4 = some v1 :: some v2 :: capV caps σ) ∧ tt σ4 H4 fun b H5 => if b = true then te σ4 H5 fun v H6 => W (i + 1) (ys ++ [v]) H6 else W (i + 1) ys H5))
    {RR : Value → Addr → Result → Shared → Prop}
    (hRR : ∀ s1 D C m H', Inv X pins σ H' s1 → s1.heap.Ns C m → Loose X pins H' C → Q (.ref D) H' → RR (.ref D) C (.ok .next) s1) :
    wpAny (model X.prog X.w) X.A (newList []) (fun acc s₃ => wpAny (model X.prog X.w) X.A (newFunctionEnv scope X.env.globals cl [] X.env.qual none .none (some X.env)) (fun cenv s₄ =>
      codeAny (model X.prog X.w) X.A (.compStart (.ListComp elt [⟨tgt, iter, ifs, 0⟩] scope pos) 0 (.ref it) acc { cenv with scope := relabel scope X.env }) (RR acc cenv.locals) s₄) X.xe s₃) X.xe s2 := by
  obtain ⟨n, W, hn, w0, hW⟩ := hq
  have hlt : ∀ b ∈ fp, b < s2.heap.objs.size := fun b hb => by
    obtain ⟨o, ho, _⟩ := T.obj 0 s2.heap st0 b hb
    exact Heap.lt_size ho
  refine wpAny_newObj_type (wpAny_newFunctionEnv hcell (by intro y hy; simp at hy) (fun h₁ hns₁ hsb₁ => ?_) hkind)
  dsimp only at hns₁ hsb₁ ⊢
  generalize hH2 : s2.heap.push { cls := .type "list", dict := none, data := .seq ([] : List Value).toArray } = G at hns₁ hsb₁ ⊢
  have hC : G.objs.size = s2.heap.objs.size + 1 := by rw [← hH2, Heap.size_push]
  have hDC : s2.heap.objs.size ≠ G.objs.size := by omega
  have old : ∀ b o, s2.heap.get? b = some o → h₁.get? b = some o := fun b o e => hsb₁.extBut b o (adr (by have h1 : @LT.lt Nat _ b s2.heap.objs.size := Heap.lt_size e; omega)) (Heap.get?_push_of_some _ (hH2 ▸ Heap.get?_push_of_some _ e))
  have hacc : h₁.get? s2.heap.objs.size = some { cls := .type "list", dict := none, data := .seq ([] : List Value).toArray } :=
    hsb₁.extBut _ _ hDC (Heap.get?_push_of_some _ (hH2 ▸ Heap.get?_push_size _ rfl))
  have I3 : Inv (compCx X (x :: y :: xs) scope cl G.objs.size s2 H1 fp) [] (none :: none :: capV caps σ) H1 { s2 with heap := h₁, toks := s2.toks + ([] : List (Str × Value)).length } :=
    comp_start2 I2 hcl hkind hfp hlt hhas (by omega) hcap hlen hns₁ old
  have st1 : tn 0 h₁ := T.keep 0 _ _ st0 fun b hb o e => old b o e
  have fpX : ∀ {pins' : List (Addr × Obj)} {H' : Hp} (b : Addr), b ∈ fp → H' b = none → (∀ p ∈ pins', p.1 ≠ b) → FpOk (compCx X (x :: y :: xs) scope cl G.objs.size s2 H1 fp) pins' H' b := fun b hb hh hp =>
    ⟨hh, fun z => by have h1 : @LT.lt Nat _ b s2.heap.objs.size := hlt b hb; have z' : @Eq Nat b G.objs.size := z; omega, fun z => by
      rcases List.mem_cons.mp (I2.stkSub b z) with q | q
      · exact (hfp b hb).2.1 q
      · exact (hfp b hb).2.2.1 q, .inl hb, fun y c e => (hfp b hb).2.2.2.2.1 y c (hcl.get e), fun p hp' => hp p hp'⟩
  let XC := compCx X (x :: y :: xs) scope cl G.objs.size s2 H1 fp
  have loop : ∀ s3 : Shared, s3 = { s2 with heap := h₁, toks := s2.toks + ([] : List (Str × Value)).length } →
      codeAny (model X.prog X.w) X.A (.compLoop (.ListComp elt [⟨tgt, iter, ifs, 0⟩] scope pos) 0 (.ref it) (.ref s2.heap.objs.size) (compEnvC scope cl G.objs.size X.env))
        (RR (.ref s2.heap.objs.size) G.objs.size) s3 := by
    rintro s3 rfl
    refine comp_loop (fun m s' => ∃ (i : Nat) (ys : List V) (Hn : Hp) (its : List Value) (k : Nat) (v0 v1 : Option V), m = n + 1 - i ∧ i ≤ n ∧ ys.length ≤ i ∧ W i ys Hn ∧ Vals ys its ∧ tn i s'.heap ∧ (∀ b ∈ fp, Hn b = none) ∧
      Inv XC [(s2.heap.objs.size, { cls := .type "list", data := .seq its.toArray k })] (v0 :: v1 :: capV caps σ) Hn s') ?_ (n + 1) ?_
    · rintro m s' ⟨i, ys, Hn, its, k, v0, v1, rfl, hin, hyl, w, rv, st, hfn, J'⟩
      have pD := J'.pin _ (List.mem_append_right _ (List.mem_singleton.mpr rfl))
      have neD : ∀ b ∈ fp, ∀ p ∈ [((s2.heap.objs.size, ({ cls := .type "list", data := .seq its.toArray k } : Obj)))], p.1 ≠ b := fun b hb p hp z => by
        have h1 : @LT.lt Nat instLTNat b s2.heap.objs.size := hlt b hb
        rw [List.mem_singleton.mp hp] at z
        have z' : @Eq Nat s2.heap.objs.size b := z
        omega
      rcases hW i ys Hn w with ⟨hstop, fin⟩ | ⟨hgo, hi', hgo'⟩
      · -- it stops
        refine wpAny_mono (T.done XC rfl rfl rfl hc i _ s' _ Hn (fun _ _ => False) J' (fun b hb => fpX b hb (hfn b hb) (neD b hb)) st hstop) (fun r s1 hr => ?_) fun _ _ z => z
        obtain ⟨rfl, J1⟩ := hr
        obtain ⟨mC, hnC, _⟩ := J1.loc
        have pD1 := J1.pin _ (List.mem_append_right _ (List.mem_singleton.mpr rfl))
        have hD' : s1.heap.get? s2.heap.objs.size = some { cls := .type "list", data := .seq its.toArray k } := pD1.1
        have hHD : Hn s2.heap.objs.size = none := pD1.2.1
        have hHC : Hn G.objs.size = none := J1.free
        have un : Un (frs X.stack) fp H1 (upd Hn s2.heap.objs.size (.lst ys)) s2.heap s1.heap := by
          have u := J1.base
          have lt2 : ∀ b o, s2.heap.get? b = some o → b ≠ G.objs.size ∧ b ≠ s2.heap.objs.size := fun b o e => by
            have h1 := ltN e
            exact ⟨adr (by omega), adr (by omega)⟩
          refine ⟨u.keep, u.slot, fun b o e n1 n2 => ?_, u.there, fun b zs e => ?_, fun b o u' e => ?_, fun b ps e => ?_⟩
          · rw [upd_ne (lt2 b o e).2]
            exact u.free b o e n1 n2
          · have q := u.tups b zs e
            rw [upd_ne (fun z => by rw [z, hHD] at q; cases q)]
            exact q
          · have q := u.frzs b o u' e
            rw [upd_ne (fun z => by rw [z, hHD] at q; cases q)]
            exact q
          · obtain ⟨more, q⟩ := u.tbls b ps e
            refine ⟨more, ?_⟩
            rw [upd_ne (fun z => by rw [z, hHD] at q; cases q)]
            exact q
        have hok : HOk X.prog X.w (upd Hn s2.heap.objs.size (.lst ys)) s1.heap := fun a o e => by
          by_cases ha : a = s2.heap.objs.size
          · subst ha
            rw [upd_same] at e
            cases e
            exact ⟨by omega, its, k, rv, hD'⟩
          · rw [upd_ne ha] at e
            have q : ObjOk X.prog X.w Hn s1.heap a o := J1.hok a o e
            refine q.stay (fun b u' hb e' => e') (fun b e' => ?_) fun b zs e' => ?_
            · rw [upd_ne (fun z => by rw [z, hHD] at e'; cases e')]; exact e'
            · rw [upd_ne (fun z => by rw [z, hHD] at e'; cases e')]; exact e'
        have I4 : Inv X pins σ (upd Hn s2.heap.objs.size (.lst ys)) s1 :=
          I2.call' (ch := fp) J1.os un hok J1.bare fun b hb => ⟨(hfp b hb).2.2.2.1, (hfp b hb).2.1, (hfp b hb).2.2.2.2.1, (hfp b hb).2.2.2.2.2⟩
        refine hRR s1 _ _ mC _ I4 hnC ⟨by rw [upd_ne (Ne.symm hDC)]; exact hHC, fun z => ?_, by have := I2.sz; omega, fun y c e z => ?_, fun p hp z => ?_⟩ (fin _ hHD)
        · have h1 : @LT.lt Nat instLTNat X.env.locals s2.heap.objs.size := I2.lt
          have z' : @Eq Nat G.objs.size X.env.locals := z
          omega
        · obtain ⟨v', o', ho', _⟩ := I2.cell y c e
          have h1 := ltN ho'
          have z' : @Eq Nat c G.objs.size := z
          omega
        · have h1 := ltN (I2.pin p hp).1
          have z' : @Eq Nat p.1 G.objs.size := z
          omega
      · -- a turn
        refine wpAny_mono (T.item XC rfl rfl rfl hc i _ s' _ Hn (fun _ _ => False) J' (fun b hb => fpX b hb (hfn b hb) (neD b hb)) st hgo) (fun r s1 hr => ?_) fun _ _ z => z
        obtain ⟨u, rfl, hr⟩ := hr
        refine wpAny_mono hr (fun _ s2' h2 => ?_) fun _ _ z => z
        obtain ⟨v, H3, J1, ru, hy, st1', hf3⟩ := h2
        have ob4 : ∀ b ∈ fp, ∃ o, s2'.heap.get? b = some o ∧ ∀ v, o.data ≠ .cell v := fun b hb => T.obj _ _ st1' b hb
        have J3 := J1.pinned (fun b hb => fpX b hb (hf3 b hb) (neD b hb)) ob4
        have tnAt : ∀ {σ' : St} {H' : Hp} {s'' : Shared}, Inv XC ([(s2.heap.objs.size, ({ cls := .type "list", data := .seq its.toArray k } : Obj))] ++ pinsAt fp s2'.heap) σ' H' s'' → tn (i + 1) s''.heap ∧ ∀ b ∈ fp, H' b = none := fun J4 =>
          ⟨T.keep _ _ _ st1' fun b hb o e => (J4.pin (b, o) (List.mem_append_right _ (List.mem_append_right _ (mem_pinsAt hb e)))).1, fun b hb => by
            obtain ⟨o, e, _⟩ := ob4 b hb
            exact (J4.pin (b, o) (List.mem_append_right _ (List.mem_append_right _ (mem_pinsAt hb e)))).2.1⟩
        refine wpAny_mono (hg _ _ _ _ _ s2' _ H3 v u _ J3 ru (hgo' v H3 hy v0 v1)) (fun _ s4 h4 => ?_) fun _ _ z => z
        obtain ⟨σ4, H3', J3', ⟨w1, w2, rfl⟩, q3⟩ := h4
        refine thn (ht _ _ _ _ _ s4 _ H3' _ J3' q3) fun ok s5 ⟨H4, J4, q4⟩ => ?_
        cases ok with
        | false =>
          rw [if_neg (by simp)]
          have q4' : W (i + 1) ys H4 := q4
          obtain ⟨a1, a2⟩ := tnAt J4
          exact ⟨n + 1 - (i + 1), by omega, i + 1, ys, H4, its, k, some w1, some w2, rfl, by omega, by omega, q4', rv, a1, a2, J4.unpinned⟩
        | true =>
          rw [if_pos rfl]
          have q4' : te (some w1 :: some w2 :: capV caps σ) H4 fun v H5 => W (i + 1) (ys ++ [v]) H5 := q4
          refine thn (he _ _ _ _ _ s5 _ H4 _ J4 q4') fun uv s6 ⟨y, H5, J5, ry, q5⟩ => ?_
          obtain ⟨a1, a2⟩ := tnAt J5
          have pD6 := J5.pin _ (List.mem_append_right _ (List.mem_append_left _ (List.mem_singleton.mpr rfl)))
          have hl6 := rv.length
          refine call_meets F.slot_list_append ⟨_, pD6.1, rfl⟩ F.entry_list_append (F.args_list_append_2 _ _) (PySem.list_append s2.heap.objs.size its.toArray k uv (by rw [List.size_toArray]; omega)) ⟨pD6.1, ?_⟩
          have J6 : Inv XC [] (some w1 :: some w2 :: capV caps σ) H5 s6 := J5.pins_of fun p hp => by cases hp
          have ne6 : s2.heap.objs.size ∉ fp := fun z => by have h1 : @LT.lt Nat instLTNat s2.heap.objs.size s2.heap.objs.size := hlt _ z; omega
          have J7 : Inv XC [] (some w1 :: some w2 :: capV caps σ) H5 { s6 with heap := s6.heap.update s2.heap.objs.size (Obj.mapSeq fun xs => xs.push uv), toks := s6.toks } :=
            J6.turned (it := s2.heap.objs.size) (fun b o hb e => by rw [Heap.get?_update_other _ _ (Ne.symm hb)]; exact e) pD6.2.1 (fun z => hDC z) (.inr (Nat.le_refl _)) (fun y c e z => by
              have e1 := I2.cell y c (hcl.get e)
              obtain ⟨v', o', ho', _⟩ := e1
              have h1 := ltN ho'
              have z' : @Eq Nat c s2.heap.objs.size := z
              omega) (fun p hp => by cases hp)
          refine ⟨n + 1 - (i + 1), by omega, i + 1, ys ++ [y], H5, its ++ [uv], k + 1, some w1, some w2, rfl, by omega, by rw [List.length_append, List.length_singleton]; omega, q5, rv.append (.cons ry .nil), ?_, a2, ?_⟩
          · refine T.keep _ _ _ a1 fun b hb o e => ?_
            show (s6.heap.update s2.heap.objs.size _).get? b = some o
            rw [Heap.get?_update_other _ _ (fun z => ne6 (by rw [z]; exact hb))]
            exact e
          · refine J7.pins_of fun p hp => ?_
            rw [List.mem_singleton.mp hp]
            refine ⟨?_, pD6.2.1, fun z => hDC z, pD6.2.2.2.1, fun v' z => ?_⟩
            · show (s6.heap.update s2.heap.objs.size _).get? s2.heap.objs.size = _
              rw [Heap.get?_update_self _ pD6.1 rfl]
              simp only [Obj.mapSeq, List.push_toArray]
              rw [if_neg (by simp)]
            · have z' : Data.seq _ _ = Data.cell v' := z
              cases z'
    · exact ⟨0, [], H1, [], 0, none, none, by omega, by omega, by simp, w0, .nil, st1, fun b hb => (hfp b hb).1, I3.pins_of fun p hp => by
        rw [List.mem_singleton.mp hp]
        refine ⟨hacc, I2.hok.fresh (Nat.le_refl _), fun z => hDC z, fun z => ?_, fun v' z => ?_⟩
        · have := I2.stkFree _ z
          rcases List.mem_cons.mp (I2.stkSub _ z) with q | q
          · have h1 : @LT.lt Nat instLTNat X.env.locals s2.heap.objs.size := I2.lt
            have z' : @Eq Nat s2.heap.objs.size X.env.locals := q
            omega
          · exact I2.nofs (Nat.le_refl _) q
        · have z' : Data.seq _ _ = Data.cell v' := z
          cases z'⟩
  exact codeAny_compStart_list (loop _ rfl) (T.self X.A 0 _ _ _ st1 (loop _ rfl))
theorem pe_comp2 {elt iter : Expr} {x y : Str} {px py pt pos : Pos} {k1 : Nat} {ifs : List Expr} {scope : Scope} {cl : List (Str × Addr)} (caps : List Nat) (xs : List Str) {wi : TI} {tt : TT} {te : TE}
    (hc : X.calm = true) (hclos : closureFor scope X.env = pure cl) (hcl : ClOk X.env.cells cl) (hcap : CapsOk X (relabel scope X.env) cl caps xs) (hlen : caps.length = xs.length)
    (hkind : scope.kind = .function) (hcell : ∀ y ∈ scope.names, y.2 ≠ .cell) (hnames : ∀ y ∈ scope.names, y.2 = .local → scope.names.lookup y.1 = some .local)
    (hhas : ((relabel scope X.env).names.all fun y => !(y.2 == .cell || y.2 == .free) || (cl.lookup y.1).isSome) = true)
    (hx : (relabel scope X.env).names.lookup x = some .local) (hy : (relabel scope X.env).names.lookup y = some .local) (hN : (x :: y :: xs).Nodup) (hi : PI X (.Tuple [.Name x px, .Name y py] k1 pt) iter wi) (ht : ∀ C s H fp, PTs (compCx X (x :: y :: xs) scope cl C s H fp) ifs tt) (he : ∀ C s H fp, PE (compCx X (x :: y :: xs) scope cl C s H fp) elt te)
    (hs : ∀ v, foldedSetIterable iter X.env v = pure v := by intro _; rfl) : PE X (.ListComp elt [⟨.Tuple [.Name x px, .Name y py] k1 pt, iter, ifs, 0⟩] scope pos) (tComp2 caps wi (gTup X.K 2 (gCons (gName 0) (gCons (gName 1) gNil))) tt te) := by
  intro pins s σ H Q I h
  rw [eval_ListComp]
  refine wpAny_comprehension_free (use := none) rfl hs hclos hkind hnames (wpAny_mono (hi pins s σ H _ I h) (fun v s1 h1 => wpAny_mono h1 (fun itv s2 h2 => ?_) fun _ _ e => e) fun _ _ e => e)
  obtain ⟨it, fp, tn, J, H1, rfl, I2, T, st0, hfp, hq⟩ := h2
  refine comp_block2 (RR := fun acc C => compPost (model X.prog X.w) X.A X.xe none (EP X pins σ Q) acc C) hc hcl hcap hlen hkind hcell hhas (fun C s H fp => pg_tup (X := compCx X (x :: y :: xs) scope cl C s H fp) hc (pgs_cons (pg_name (i := 0) hN rfl (.inl hx) (.inr hx)) (pgs_cons (pg_name (i := 1) hN rfl (.inl hy) (.inr hy)) pgs_nil))) ht he I2 T st0 hfp hq ?_
  intro s1 D C m H' I4 hn l q
  exact ⟨m, hn, fun h' hsb => ⟨.ref D, H', I4.letGo l hsb, rfl, q⟩⟩
theorem ps_comp2 {elt iter : Expr} {x y z : Str} {px py pz pt pos spos : Pos} {k1 : Nat} {ifs : List Expr} {scope : Scope} {cl : List (Str × Addr)} {k : Nat} (caps : List Nat) (xs : List Str) {wi : TI} {tt : TT} {te : TE}
    (hsw : swapsWith (.ListComp elt [⟨.Tuple [.Name x px, .Name y py] k1 pt, iter, ifs, 0⟩] scope pos) (some (.Name z pz)) spos.line X.env = pure true)
    (hNX : X.N.Nodup) (hk : X.N[k]? = some z) (hz : X.env.scope.names.lookup z = some .local)
    (hc : X.calm = true) (hclos : closureFor scope X.env = pure cl) (hcl : ClOk X.env.cells cl) (hcap : CapsOk X (relabel scope X.env) cl caps xs) (hlen : caps.length = xs.length)
    (hkind : scope.kind = .function) (hcell : ∀ y ∈ scope.names, y.2 ≠ .cell) (hnames : ∀ y ∈ scope.names, y.2 = .local → scope.names.lookup y.1 = some .local)
    (hhas : ((relabel scope X.env).names.all fun y => !(y.2 == .cell || y.2 == .free) || (cl.lookup y.1).isSome) = true)
    (hx : (relabel scope X.env).names.lookup x = some .local) (hy : (relabel scope X.env).names.lookup y = some .local) (hN : (x :: y :: xs).Nodup) (hi : PI X (.Tuple [.Name x px, .Name y py] k1 pt) iter wi) (ht : ∀ C s H fp, PTs (compCx X (x :: y :: xs) scope cl C s H fp) ifs tt) (he : ∀ C s H fp, PE (compCx X (x :: y :: xs) scope cl C s H fp) elt te)
    (hs : ∀ v, foldedSetIterable iter X.env v = pure v := by intro _; rfl) : PS X (.Assign [.Name z pz] (.ListComp elt [⟨.Tuple [.Name x px, .Name y py] k1 pt, iter, ifs, 0⟩] scope pos) spos) (tAsg (tComp2 caps wi (gTup X.K 2 (gCons (gName 0) (gCons (gName 1) gNil))) tt te) (gName k)) := by
  intro pins s σ H D I h
  rw [exec_Assign_Name_used _ _ _ _ hsw]
  refine wpAny_bind (wpAny_standAt (wpAny_bind ?_))
  show wpAny _ X.A (do let _ ← comprehension (.ListComp elt [⟨.Tuple [.Name x px, .Name y py] k1 pt, iter, ifs, 0⟩] scope pos) scope X.env _ (newList []) false (eval iter X.env) (some (assign (.Name z pz) X.env))) _ _ s
  refine wpAny_bind (wpAny_mono (wpAny_comprehension_free (use := some (assign (.Name z pz) X.env)) (Q := fun _ s' => SP X pins D .next s') rfl hs hclos hkind hnames
    (wpAny_mono (hi pins s σ H _ I h) (fun xv s₁ h₁ => wpAny_mono h₁ (fun itv s2 h2 => ?_) fun _ _ e => e) fun _ _ e => e)) (fun _ s' hq => wpAny_pure (wpAny_pure hq)) fun _ _ e => e)
  obtain ⟨it, fp, tn, J, H1, rfl, I2, T, st0, hfp, hq⟩ := h2
  refine comp_block2 (Q := fun v H1 => gName k v σ H1 D.nx) (RR := fun acc C => compPost (model X.prog X.w) X.A X.xe (some (assign (.Name z pz) X.env)) (fun _ s' => SP X pins D .next s') acc C) hc hcl hcap hlen hkind hcell hhas (fun C s H fp => pg_tup (X := compCx X (x :: y :: xs) scope cl C s H fp) hc (pgs_cons (pg_name (i := 0) hN rfl (.inl hx) (.inr hx)) (pgs_cons (pg_name (i := 1) hN rfl (.inl hy) (.inr hy)) pgs_nil))) ht he I2 T st0 hfp hq ?_
  intro s1 Da C m H' I4 hn l q
  show wpAny _ X.A (assign (.Name z pz) X.env (.ref Da)) _ _ s1
  refine wpAny_assign_Name (store_ok2 (v := .ref Da) I4 hNX hk (.inl hz) rfl (fun s4 I5 hsb => ?_) (.inr hz))
  obtain ⟨a, hsa, ha⟩ := hsb
  have hCa : C ≠ a := by
    rcases ha with ha | ha
    · rw [ha]; exact l.2.1
    · exact Ne.symm (l.2.2.2.1 z a ha)
  refine ⟨m, hn.sameBut hsa hCa, fun h' hsb => ⟨_, H', I5.letGo l hsb, q⟩⟩
end
end L2
namespace L2
open PySem PySem.Spec PyProof.Rows
section
variable {K : PySem.W.Frag} {H : Hp} {l m : Addr} {as cs : List Addr} {fs gs : List (Int × Int)} {Q : VK}
end
def CompIt2 (J : It) (caps : List Nat) (g : TG) (tt : TT) (te : TE) (σ : St) (H : Hp) (Q : VK) : Prop := ∃ (n : Nat) (W : Nat → List V → Hp → Prop), n ≤ sizeLine ∧ W 0 [] H ∧ ∀ i ys H2, W i ys H2 →
  (J.stop i H2 ∧ ∀ p, H2 p = none → Q (.ref p) (upd H2 p (.lst ys))) ∨
  (J.go i H2 ∧ i < n ∧ ∀ x H3, J.yld i H2 x H3 → ∀ o1 o2 : Option V, g x (o1 :: o2 :: capV caps σ) H3 fun σ4 H4 => (∃ v1 v2 : V, σ4 = some v1 :: some v2 :: capV caps σ) ∧ tt σ4 H4 fun b H5 => if b = true then te σ4 H5 fun v H6 => W (i + 1) (ys ++ [v]) H6 else W (i + 1) ys H5)
theorem w_comp2 {caps : List Nat} {wi : TI} {g : TG} {tt : TT} {te : TE} {σ : St} {H : Hp} {Q : VK} : tComp2 caps wi g tt te σ H Q = wi σ H fun J H1 => CompIt2 J caps g tt te σ H1 Q := rfl
end L2
namespace L2
open PySem PySem.Spec PyProof.Rows
section
variable {X : Cx}
end
end L2
namespace L2
open PySem PySem.Spec PyProof.Rows
namespace Dx
section
variable {pr : Program} {wo : World} {Ar : Around} {Er : Value → Shared → Prop} {st : Shared} {d it : Addr} {od : Obj} {es : Array DictEntry} {ep i : Nat}
end
end Dx
def Itd (o : Obj) (a : Addr) (kvs : List (List Key × V)) : It :=
  ⟨fun i H => H a = some (.frz o (.dT kvs)) ∧ i < kvs.length, fun i H x H' => H' = H ∧ ∃ b k v, x = .ref b ∧ kvs[i]? = some (k, v) ∧ H b = some (.tup (k.map kV)), fun i H => H a = some (.frz o (.dT kvs)) ∧ kvs.length ≤ i⟩
def iDict (td : TE) : TI := fun σ H R => td σ H fun x H1 => ∃ a kvs, x = .ref a ∧ H1 a = some (.dT kvs) ∧ ∀ o, R (Itd o a kvs) (upd H1 a (.frz o (.dT kvs)))
section
variable {X : Cx} {tg : Expr}
end
namespace Dx
end Dx
section
variable {X : Cx}
end
end L2
namespace L2
open PySem PySem.Spec PyProof.Rows
section
variable {X : Cx} {pins : List (Addr × Obj)} {σ : St} {H : Hp} {s : Shared} {h' : Heap}
theorem Inv.turnedS {t' : Nat} {ch : List Addr} (I : Inv X pins σ H s) (k : ∀ b u, b ∉ ch → s.heap.get? b = some u → h'.get? b = some u) (f : ∀ b, b ∈ ch → FpOk X pins H b) : Inv X pins σ H { s with heap := h', toks := t' } := by
  have nit : ∀ b u, H b = some u → b ∉ ch := fun b u e z => ne_of_none e (f b z).1 rfl
  refine I.step (g' := s.gens) (d' := s.drawn) (ch := ch) (fun b hb => ?_) (fun b o _ _ hc e _ => k b o hc e) (fun b o _ _ hc e _ => ⟨o.slots, k b o hc e⟩) (fun _ _ _ _ n => n)
    (fun b o hc e => ⟨o, k b o hc e⟩) (fun _ _ e => e) (fun _ _ _ e => e) (fun b ps e => ⟨#[], by rw [e]; simp⟩) (fun m hm => ?_) (fun b u e => ?_) I.bare
  · obtain ⟨f0, f1, f2, f3, f4, f5⟩ := f b hb
    exact ⟨f3, f1, f4, f5⟩
  · obtain ⟨o, es, ep, ho, r⟩ := hm
    exact ⟨o, es, ep, k _ o (fun z => (f _ z).2.1 rfl) ho, r⟩
  · refine (I.hok b u e).stay (fun c v hc q => k c v ?_ q) (fun _ q => q) fun _ _ q => q
    rcases hc with z | z
    · rw [z]; exact nit b u e
    · exact nit c _ z
theorem Inv.turnedN {t' : Nat} {a : Addr} {o : HO} {ch : List Addr} (I : Inv X pins σ H s) (k : ∀ b u, b ∉ ch → s.heap.get? b = some u → h'.get? b = some u) (ha : a = s.heap.objs.size) (new : ObjOk X.prog X.w (upd H a o) h' a o) (f : ∀ b, b ∈ ch → FpOk X pins H b) :
    Inv X pins σ (upd H a o) { s with heap := h', toks := t' } := by
  have hnone : H a = none := I.hok.fresh (by rw [ha]; exact Nat.le_refl _)
  have lts : ∀ b u, s.heap.get? b = some u → b ≠ a := fun b u q => by rw [ha]; exact Nat.ne_of_lt (Heap.lt_size q)
  have ntr : ∀ b u, H b = some u → b ∉ ch := fun b u q z => ne_of_none q (f b z).1 rfl
  refine I.step (g' := s.gens) (d' := s.drawn) (ch := ch) (fun b hb => ?_) (fun b u _ _ hc q _ => k b u hc q) (fun b u _ _ hc q _ => ⟨u.slots, k b u hc q⟩) (fun b u _ q n => by rw [upd_ne (lts b u q)]; exact n)
    (fun b u hc q => ⟨u, k b u hc q⟩) (fun b zs q => by rw [upd_ne (ne_of_none q hnone)]; exact q) (fun b u v q => by rw [upd_ne (ne_of_none q hnone)]; exact q) (fun b ps q => ⟨#[], by rw [upd_ne (ne_of_none q hnone), q]; simp⟩) (fun m hm => ?_) (fun b u q => ?_) I.bare
  · obtain ⟨f0, f1, f2, f3, f4, f5⟩ := f b hb
    exact ⟨f3, f1, f4, f5⟩
  · obtain ⟨u, es, ep, ho, r⟩ := hm
    exact ⟨u, es, ep, k _ u (fun z => (f _ z).2.1 rfl) ho, r⟩
  · by_cases hb : b = a
    · subst hb
      rw [upd_same] at q
      cases q
      exact new
    · rw [upd_ne hb] at q
      have w : ObjOk X.prog X.w H s.heap b u := I.hok b u q
      have ntr' : ∀ c, (c = b ∨ ∃ u, H c = some u) → c ∉ ch := fun c hc => by
        rcases hc with z | ⟨_, z⟩
        · rw [z]; exact ntr b u q
        · exact ntr c _ z
      refine w.stay (fun c v hc q' => k c v (ntr' c ?_) q') (fun c q' => ?_) fun c zs q' => ?_
      · rcases hc with z | z
        · exact .inl z
        · exact .inr ⟨_, z⟩
      · rw [upd_ne (ne_of_none q' hnone)]; exact q'
      · rw [upd_ne (ne_of_none q' hnone)]; exact q'
end
def Itz (K : PySem.W.Frag) (a b : Addr) : It :=
  ⟨fun i H => ∃ xs ys x y, SqL K H a xs ∧ SqL K H b ys ∧ xs[i]? = some x ∧ ys[i]? = some y, fun i H x H' => ∃ y z t, (∀ xs, SqL K H a xs → xs[i]? = some y) ∧ (∀ xs, SqL K H b xs → xs[i]? = some z) ∧ H t = none ∧ x = .ref t ∧ H' = upd H t (.tup [y, z]), fun i H => ∃ xs ys, SqL K H a xs ∧ SqL K H b ys ∧ (xs.length ≤ i ∨ ys.length ≤ i)⟩
theorem ane {x y : Nat} (h : x ≠ y) : ¬ (x : Addr) = (y : Addr) := h
theorem ne_list {h : Heap} {l c : Addr} {xs : Array Value} (hl : h.IsList l xs) (hc : ∃ o, h.get? c = some o ∧ o.cls ≠ .type "list") : l ≠ c := by
  obtain ⟨o, ho, n⟩ := hc
  obtain ⟨u, hu, cu, _⟩ := hl
  intro z
  rw [z, ho] at hu
  cases hu
  exact n cu
theorem turn_zip {P : Program} {w : World} {K : PySem.W.Frag} {elts : List Expr} {x1} {tp : Pos} (a b : Addr) (n : Nat) : Turn P w K (.Tuple elts x1 tp) (Itz K a b) [n + 4, n + 2, n + 3, n, n + 1] (n + 4) (fun i h => IsZip h (n + 4) (n + 2) (n + 3) .none ∧ IsPair h (n + 2) (.ref n) (.ref (n + 1)) ∧ (∃ u v, IsPair h (n + 3) u v) ∧ h.IsListIter n a i ∧ h.IsListIter (n + 1) b i) where
  mem := by simp
  obj := fun i h st c hc => by
    obtain ⟨h1, h2, ⟨u, v, h3⟩, ⟨o4, q4, c4, d4⟩, ⟨o5, q5, c5, d5⟩⟩ := st
    simp only [List.mem_cons, List.not_mem_nil, or_false] at hc
    rcases hc with z | z | z | z | z
    · subst z
      exact ⟨_, h1, fun v z => by
        have z' : Data.fields _ = Data.cell v := z
        cases z'⟩
    · subst z
      exact ⟨_, h2, fun v z => by
        have z' : Data.seq _ = Data.cell v := z
        cases z'⟩
    · subst z
      exact ⟨_, h3, fun v z => by
        have z' : Data.seq _ = Data.cell v := z
        cases z'⟩
    · subst z
      exact ⟨o4, q4, fun v z => by rw [d4] at z; cases z⟩
    · subst z
      exact ⟨o5, q5, fun v z => by rw [d5] at z; cases z⟩
  keep := fun i h h' st k => by
    obtain ⟨h1, h2, ⟨u, v, h3⟩, h4, h5⟩ := st
    exact ⟨k _ (by simp) _ h1, k _ (by simp) _ h2, ⟨u, v, k _ (by simp) _ h3⟩, h4.at fun o q => k n (by simp) o q, h5.at fun o q => k (n + 1) (by simp) o q⟩
  item := by
    intro X hP hw hK hc i pins s σ H E I hf st hg
    subst hP hw hK
    obtain ⟨xs, ys, x, y, hq1, hq2, hx, hy⟩ := hg
    obtain ⟨its, rv, pl, hz⟩ := I.list hq1
    obtain ⟨u, hu, ru⟩ := rv.get hx
    obtain ⟨its2, rv2, pl2, hz2⟩ := I.list hq2
    obtain ⟨u2, hu2, ru2⟩ := rv2.get hy
    obtain ⟨h1, h2, ⟨v1, v2, h3⟩, h4, h5⟩ := st
    have c1 : ∃ o, s.heap.get? (n + 4) = some o ∧ o.cls ≠ .type "list" := ⟨_, h1, by show Value.type "zip" ≠ Value.type "list"; decide⟩
    have c3 : ∃ o, s.heap.get? (n + 3) = some o ∧ o.cls ≠ .type "list" := ⟨_, h3, by show Value.type "tuple" ≠ Value.type "list"; decide⟩
    have c4 : ∃ o, s.heap.get? n = some o ∧ o.cls ≠ .type "list" := by obtain ⟨o, q, c, _⟩ := h4; exact ⟨o, q, by rw [c]; decide⟩
    have c5 : ∃ o, s.heap.get? (n + 1) = some o ∧ o.cls ≠ .type "list" := by obtain ⟨o, q, c, _⟩ := h5; exact ⟨o, q, by rw [c]; decide⟩
    have D : ZipApart (n + 4) (n + 2) (n + 3) n (n + 1) a b := ⟨ane (by omega), ane (by omega), ane (by omega), ane (by omega), ane (by omega), ane (by omega), ane (by omega), ane (by omega), ane (by omega), ane (by omega), ne_list pl.isList c1, ne_list pl.isList c3, ne_list pl.isList c4, ne_list pl.isList c5, ne_list pl2.isList c1, ne_list pl2.isList c3, ne_list pl2.isList c4, ne_list pl2.isList c5⟩
    have hel : n + 4 < s.heap.objs.size := Heap.lt_size h1
    refine wpAny_pyNext_zip_item D h1 h2 h3 h4 h5 pl.isList pl2.isList (x := u) (y := u2) (by simpa using hu) (by simpa using hu2) fun g1 a1 a2 a3 a4 a5 a6 a7 => ⟨_, rfl, ?_⟩
    refine wpAny_letOwnedTupleGo_zip a1 fun g2 b1 hs2 => ?_
    have hs2' : Heap.SameBut (n + 4) g1 g2 := hs2
    have hnone : H s.heap.objs.size = none := I.hok.fresh (Nat.le_refl _)
    have kk : ∀ c o, c ∉ [n + 4, n + 2, n + 3, n, n + 1] → s.heap.get? c = some o → g2.get? c = some o := fun c o hc q => by
      simp only [List.mem_cons, List.not_mem_nil, or_false, not_or] at hc
      exact (hs2'.2 c hc.1).trans (a7 c o hc.1 hc.2.2.1 hc.2.2.2.1 hc.2.2.2.2 q)
    refine ⟨.ref s.heap.objs.size, upd H s.heap.objs.size (.tup [x, y]), I.turnedN (t' := s.toks) kk rfl ?_ hf, rfl, ⟨x, y, _, fun zs hz => by rw [I.list_inj hz hq1]; exact hx, fun zs hz => by rw [I.list_inj hz hq2]; exact hy, hnone, rfl, rfl⟩, ⟨b1, ?_, ⟨_, _, (hs2'.2 _ (ane (by omega))).trans a2⟩, a3.extBut hs2'.extBut (ane (by omega)), a4.extBut hs2'.extBut (ane (by omega))⟩, fun c hc => ?_⟩
    · exact ⟨by show 2 ≤ sizeLine; decide, [u, u2], .cons ru (.cons ru2 .nil), ⟨_, (hs2'.2 _ (ane (by omega))).trans a5, rfl, _, rfl⟩⟩
    · exact (hs2'.2 _ (ane (by omega))).trans (a7 _ _ (ane (by omega)) (ane (by omega)) (ane (by omega)) (ane (by omega)) h2)
    · have hb0 : H c = none := (hf c hc).1
      have hbl : c < s.heap.objs.size := by
        simp only [List.mem_cons, List.not_mem_nil, or_false] at hc
        have hel' : (n : Nat) + 4 < s.heap.objs.size := hel
        rcases hc with z | z | z | z | z <;> rw [z] <;> show (_ : Nat) < s.heap.objs.size <;> omega
      rw [upd_ne (Nat.ne_of_lt hbl)]
      exact hb0
  done := by
    intro X hP hw hK hc i pins s σ H E I hf st hg
    subst hP hw hK
    obtain ⟨xs, ys, hq1, hq2, hx⟩ := hg
    obtain ⟨its, rv, pl, hz⟩ := I.list hq1
    obtain ⟨its2, rv2, pl2, hz2⟩ := I.list hq2
    obtain ⟨h1, h2, ⟨v1, v2, h3⟩, h4, h5⟩ := st
    have l1 := rv.length
    have l2 := rv2.length
    have c1 : ∃ o, s.heap.get? (n + 4) = some o ∧ o.cls ≠ .type "list" := ⟨_, h1, by show Value.type "zip" ≠ Value.type "list"; decide⟩
    have c3 : ∃ o, s.heap.get? (n + 3) = some o ∧ o.cls ≠ .type "list" := ⟨_, h3, by show Value.type "tuple" ≠ Value.type "list"; decide⟩
    have c4 : ∃ o, s.heap.get? n = some o ∧ o.cls ≠ .type "list" := by obtain ⟨o, q, c, _⟩ := h4; exact ⟨o, q, by rw [c]; decide⟩
    have c5 : ∃ o, s.heap.get? (n + 1) = some o ∧ o.cls ≠ .type "list" := by obtain ⟨o, q, c, _⟩ := h5; exact ⟨o, q, by rw [c]; decide⟩
    have D : ZipApart (n + 4) (n + 2) (n + 3) n (n + 1) a b := ⟨ane (by omega), ane (by omega), ane (by omega), ane (by omega), ane (by omega), ane (by omega), ane (by omega), ane (by omega), ane (by omega), ane (by omega), ne_list pl.isList c1, ne_list pl.isList c3, ne_list pl.isList c4, ne_list pl.isList c5, ne_list pl2.isList c1, ne_list pl2.isList c3, ne_list pl2.isList c4, ne_list pl2.isList c5⟩
    refine wpAny_pyNext_zip_end (I.ok.hd hc) D h1 h2 h3 h4 h5 pl.isList pl2.isList ?_ fun g1 a7 => ⟨rfl, I.turnedS (t' := s.toks) (ch := [n + 4, n + 2, n + 3, n, n + 1]) (fun c o hc q => ?_) hf⟩
    · rcases hx with z | z
      · exact .inl (by simp; omega)
      · exact .inr (by simp; omega)
    · simp only [List.mem_cons, List.not_mem_nil, or_false, not_or] at hc
      exact a7 c o hc.1 hc.2.2.1 hc.2.2.2.1 hc.2.2.2.2 q
  self := fun _ _ _ _ _ ⟨hz, _⟩ h => wpAny_pyIter_zip hz h
section
variable {X : Cx} {e e2 : Expr} {te te2 : TE} {p pos : Pos}
def iZip (K : PySem.W.Frag) (tl tl2 : TE) : TI := fun σ H R => tl σ H fun x H1 => tl2 σ H1 fun y H2 => ∃ a b, x = .ref a ∧ y = .ref b ∧ (∃ xs, SqL K H2 a xs) ∧ (∃ ys, SqL K H2 b ys) ∧ R (Itz K a b) H2
theorem pi_zip {elts : List Expr} {x1} {tp : Pos} (hg : Gl X "zip") (hm : X.mg "zip" = none) (he : PE X e te) (he2 : PE X e2 te2) (hs : starEach [e, e2] X.env = (false, eval e X.env) :: starEach [e2] X.env := by rfl) (hs2 : starEach [e2] X.env = (false, eval e2 X.env) :: starEach [] X.env := by rfl) : PI X (.Tuple elts x1 tp) (.Call (.Name "zip" p) [e, e2] [] pos) (iZip X.K te te2) := by
  intro pins s σ H R I h
  refine wpAny_Call_Name_kw (ld_blt I hg hm PyProof.Rows.boot_zip ?_ (by decide) (by decide))
  refine PyProof.Rows.callWith_type1 (thn (pa_cons he (pa_cons he2 pa_nil hs2) hs pos pins s σ H (fun vs H2 => ∃ a b, vs = [.ref a, .ref b] ∧ (∃ xs, SqL X.K H2 a xs) ∧ (∃ ys, SqL X.K H2 b ys) ∧ R (Itz X.K a b) H2) I ?_) fun us s1 ⟨vs, H1, I1, r1, q1⟩ => ?_) hs (by rw [hs2]; rfl)
  · show te σ H fun x H1 => te2 σ H1 fun y H2 => _
    have e3 : (fun x H1 => te2 σ H1 fun y H2 => tNil σ H2 fun xs H3 => (fun vs H2 => ∃ a b, vs = [V.ref a, V.ref b] ∧ (∃ xs, SqL X.K H2 a xs) ∧ (∃ ys, SqL X.K H2 b ys) ∧ R (Itz X.K a b) H2) (x :: y :: xs) H3) = fun x H1 => te2 σ H1 fun y H2 => ∃ a b, x = V.ref a ∧ y = V.ref b ∧ (∃ xs, SqL X.K H2 a xs) ∧ (∃ ys, SqL X.K H2 b ys) ∧ R (Itz X.K a b) H2 := by
      funext x H1
      congr 1
      funext y H2
      simp only [tNil, List.cons.injEq, and_true, and_assoc]
    have := h
    unfold iZip at this
    rw [← e3] at this
    exact this
  · obtain ⟨a, b, rfl, ⟨xs, hq⟩, ⟨ys, hq2⟩, hR⟩ := q1
    obtain ⟨u, u2, rfl, ru, ru2⟩ := vals2 r1
    cases ru
    cases ru2
    obtain ⟨its, rv, pl, hz⟩ := I1.list hq
    obtain ⟨its2, rv2, pl2, hz2⟩ := I1.list hq2
    refine call_zip_2 pl.isList pl2.isList fun h' a1 a2 a3 a4 a5 a6 hk => ?_
    refine wpAny_pyIter_zip a1 ?_
    refine ⟨s1.heap.objs.size + 4, [s1.heap.objs.size + 4, s1.heap.objs.size + 2, s1.heap.objs.size + 3, s1.heap.objs.size, s1.heap.objs.size + 1], _, _, H1, rfl, I1.kept (t' := s1.toks) hk, turn_zip a b _, ⟨a1, a2, ⟨_, _, a3⟩, a4, a5⟩, fun c hc => ?_, hR⟩
    have : s1.heap.objs.size ≤ c := by
      simp only [List.mem_cons, List.not_mem_nil, or_false] at hc
      rcases hc with z | z | z | z | z <;> rw [z] <;> show s1.heap.objs.size ≤ (_ : Nat) <;> omega
    exact I1.fpOk this (I1.hok.fresh this)
end
theorem pi_listK {X : Cx} {K : PySem.W.Frag} (hK : X.K = K) {tg e : Expr} {te : TE} (h : PI X tg e (iList X.K te)) : PI X tg e (iList K te) := by
  subst hK
  exact h
theorem comp2Z {K : PySem.W.Frag} {a b : Addr} {caps : List Nat} {tt : TT} {te : TE} {σ : St} {H : Hp} {Q : VK} (ns ms : List Int) (Pv : Nat → List V → Hp → Prop) (hn : ns.length ≤ sizeLine) (hnm : ns.length = ms.length) (h0 : Pv 0 [] H) (hl : ∀ i ys H, Pv i ys H → SqL K H a (ns.map V.int) ∧ SqL K H b (ms.map V.int))
    (hs : ∀ i (x y : Int) ys H H', ns[i]? = some x → ms[i]? = some y → Pv i ys H → Same H H' → tt (some (.int x) :: some (.int y) :: capV caps σ) H' fun t H4 => if t = true then te (some (.int x) :: some (.int y) :: capV caps σ) H4 fun v H5 => Pv (i + 1) (ys ++ [v]) H5 else Pv (i + 1) ys H4)
    (hd : ∀ ys H, Pv ns.length ys H → ∀ p, H p = none → Q (.ref p) (upd H p (.lst ys))) : CompIt2 (Itz K a b) caps (gTup K 2 (gCons (gName 0) (gCons (gName 1) gNil))) tt te σ H Q := by
  refine ⟨ns.length, fun i ys H => i ≤ ns.length ∧ Pv i ys H, hn, ⟨Nat.zero_le _, h0⟩, ?_⟩
  rintro i ys H2 ⟨hi, p⟩
  obtain ⟨hS, hS2⟩ := hl i ys H2 p
  by_cases hlt : i < ns.length
  · have hb : ns[i]? = some ns[i] := List.getElem?_eq_getElem hlt
    have hv : (ns.map V.int)[i]? = some (.int ns[i]) := by rw [List.getElem?_map, hb]; rfl
    have hlt2 : i < ms.length := by omega
    have hb2 : ms[i]? = some ms[i] := List.getElem?_eq_getElem hlt2
    have hv2 : (ms.map V.int)[i]? = some (.int ms[i]) := by rw [List.getElem?_map, hb2]; rfl
    refine .inr ⟨⟨_, _, _, _, hS, hS2, hv, hv2⟩, hlt, ?_⟩
    rintro y H3 ⟨y, z, t, hy, hz, ht, rfl, rfl⟩ o1 o2
    have hy := hy _ hS
    rw [hv] at hy
    cases hy
    have hz := hz _ hS2
    rw [hv2] at hz
    cases hz
    refine ⟨t, _, rfl, SqT.of upd_same, rfl, _, _, rfl, _, _, rfl, rfl, ⟨_, _, rfl⟩, ?_⟩
    have key := hs i _ _ ys H2 _ hb hb2 p (same_new ht (.tup [.int ns[i], .int ms[i]]))
    have e2 : (fun (t : Bool) (H4 : Hp) => if t = true then te (some (.int ns[i]) :: some (.int ms[i]) :: capV caps σ) H4 fun v H5 => Pv (i + 1) (ys ++ [v]) H5 else Pv (i + 1) ys H4) = fun t H4 => if t = true then te (some (.int ns[i]) :: some (.int ms[i]) :: capV caps σ) H4 fun v H5 => i + 1 ≤ ns.length ∧ Pv (i + 1) (ys ++ [v]) H5 else i + 1 ≤ ns.length ∧ Pv (i + 1) ys H4 := by
      funext t H4
      have z : i + 1 ≤ ns.length := hlt
      simp only [z, true_and]
    rw [e2] at key
    exact key
  · have e : i = ns.length := by omega
    subst e
    exact .inl ⟨⟨_, _, hS, hS2, .inl (by rw [List.length_map]; omega)⟩, hd ys H2 p⟩
end L2
namespace L2
open PySem PySem.Spec PyProof.Rows
section
variable {X : Cx} {e : Expr} {te : TE} {p p2 pos pos2 : Pos}
end
end L2
namespace L2
open PySem PySem.Spec PyProof.Rows
section
variable {X : Cx} {body suite suite2 : List Stmt} {b₀ b₁ : Stmt} {D D2 : Addr} {cx cx2 : Str} {np np2 hpos hpos2 pos : Pos} {tb : (St → XK) → TS} {ts ts2 : TS}
end
section
variable {X : Cx}
end
end L2
namespace L2
open PySem PySem.Spec PyProof.Rows
def Its (z : Str) : It := ⟨fun i _ => i < z.cps.size, fun i H x H' => H' = H ∧ ∃ c, z.cps[i]? = some c ∧ x = .str ⟨#[c]⟩, fun i _ => z.cps.size ≤ i⟩
theorem turn_str {P : Program} {w : World} {K : PySem.W.Frag} {tg : Expr} (z : Str) (t : Tok) (it : Addr) (T : String) (hT : T = "str_ascii_iterator" ∨ T = "str_iterator") : Turn P w K tg (Its z) [it] it (fun i h => h.IsStrIter it T z t i) where
  mem := by simp
  obj := fun i h st b hb => by
    have e : b = it := by simpa using hb
    subst e
    obtain ⟨o, e, c, d⟩ := st
    exact ⟨o, e, fun v z => by rw [d] at z; cases z⟩
  keep := fun i h h' st k => by
    obtain ⟨o, e, r⟩ := st
    exact ⟨o, k it (by simp) o e, r⟩
  item := by
    intro X hP hw hK hc i pins s σ H E I hf st hg
    subst hP hw hK
    obtain ⟨f0, f1, f2, f3, f4, f5⟩ := hf it (by simp)
    have hg' : i < z.cps.size := hg
    have hi : z.cps[i]? = some z.cps[i] := by simp [hg']
    have fin : ∀ h' : Heap, h'.IsStrIter it T z t (i + 1) → Heap.SameBut it s.heap h' → ∃ u, some (Value.str ⟨#[z.cps[i]]⟩ s.toks) = some u ∧
        wpAny (model X.prog X.w) X.A (letOwnedTupleGo tg (.ref it) u) (fun _ s2 => ∃ x H', Inv X pins σ H' s2 ∧ RelV x u ∧ (Its z).yld i H x H' ∧ s2.heap.IsStrIter it T z t (i + 1) ∧ ∀ b ∈ [it], H' b = none) E { s with heap := h', toks := s.toks + 1 } := fun h' st' sb => by
      have I1 : Inv X pins σ H { s with heap := h', toks := s.toks + 1 } := I.turned (t' := s.toks + 1) (fun b o hb e => (sb.2 b hb).trans e) f0 f1 f3 f4 f5
      obtain ⟨o, e, c, d⟩ := id st'
      exact ⟨_, rfl, go_of (s := { s with heap := h', toks := s.toks + 1 }) e c d (by rcases hT with rfl | rfl <;> decide) ⟨.str ⟨#[z.cps[i]]⟩, H, I1, ⟨_, rfl⟩, ⟨rfl, _, hi, rfl⟩, st', fun b hb => (hf b hb).1⟩⟩
    rcases hT with rfl | rfl
    · exact wpAny_pyNext_ascii_item st hi fun h' st' sb => fin h' st' sb
    · exact wpAny_pyNext_wide_item st hi fun h' st' sb => fin h' st' sb
  done := by
    intro X hP hw hK hc i pins s σ H E I hf st hg
    subst hP hw hK
    obtain ⟨f0, f1, f2, f3, f4, f5⟩ := hf it (by simp)
    have hg' : z.cps.size ≤ i := hg
    have hx : z.cps[i]? = none := by simp [hg']
    rcases hT with rfl | rfl
    · exact wpAny_pyNext_ascii_end (I.ok.hd hc) st hx fun h' eb => ⟨rfl, I.turned (t' := s.toks) (fun b o hb e => eb b o hb e) f0 f1 f3 f4 f5⟩
    · exact wpAny_pyNext_wide_end (I.ok.hd hc) st hx fun h' eb => ⟨rfl, I.turned (t' := s.toks) (fun b o hb e => eb b o hb e) f0 f1 f3 f4 f5⟩
  self := fun _ _ _ _ _ st h => by
    rcases hT with rfl | rfl
    · exact wpAny_pyIter_striter_ascii st h
    · exact wpAny_pyIter_striter_wide st h
def iStr (tl : TE) : TI := fun σ H R => tl σ H fun x H1 => ∃ z, x = .str z ∧ R (Its z) H1
theorem pi_str {X : Cx} {tg l : Expr} {tl : TE} (hl : PE X l tl) : PI X tg l (iStr tl) := by
  intro pins s σ H R I h
  refine thn (hl pins s σ H _ I h) fun v s1 ⟨x, H1, I1, r1, q1⟩ => ?_
  obtain ⟨z, e, q⟩ := q1
  subst e
  obtain ⟨t, rfl⟩ := r1
  have fp : ∀ b ∈ [s1.heap.objs.size], FpOk X pins H1 b := fun b hb => by
    have e : b = s1.heap.objs.size := by simpa using hb
    subst e
    exact I1.fpOk (Nat.le_refl _) (I1.hok.fresh (Nat.le_refl _))
  cases ha : z.cps.all (· < 128)
  · refine wpAny_pyIter_wide ha ?_
    exact ⟨s1.heap.objs.size, [s1.heap.objs.size], _, _, H1, rfl, I1.kept (t' := s1.toks) fun b o e => Heap.get?_push_of_some _ e, turn_str z t _ "str_iterator" (.inr rfl), ⟨_, Heap.get?_push_size _ rfl, rfl, rfl⟩, fp, q⟩
  · refine wpAny_pyIter_ascii ha ?_
    exact ⟨s1.heap.objs.size, [s1.heap.objs.size], _, _, H1, rfl, I1.kept (t' := s1.toks) fun b o e => Heap.get?_push_of_some _ e, turn_str z t _ "str_ascii_iterator" (.inl rfl), ⟨_, Heap.get?_push_size _ rfl, rfl, rfl⟩, fp, q⟩
section
variable {g : TG} {tb : TS} {D : Ends} {σ : St} {H : Hp} {caps : List Nat} {tt : TT} {te : TE} {Q : VK}
theorem compS (z : Str) (Pv : Nat → List V → Hp → Prop) (hn : z.cps.toList.length ≤ sizeLine) (h0 : Pv 0 [] H)
    (hs : ∀ i c ys H, z.cps.toList[i]? = some c → Pv i ys H → tt (some (.str ⟨#[c]⟩) :: capV caps σ) H fun b H4 => if b = true then te (some (.str ⟨#[c]⟩) :: capV caps σ) H4 fun v H5 => Pv (i + 1) (ys ++ [v]) H5 else Pv (i + 1) ys H4)
    (hd : ∀ ys H, Pv z.cps.toList.length ys H → ∀ p, H p = none → Q (.ref p) (upd H p (.lst ys))) : CompIt (Its z) caps tt te σ H Q := by
  have hsz : z.cps.toList.length = z.cps.size := by simp
  refine ⟨z.cps.size, fun i ys H => i ≤ z.cps.size ∧ Pv i ys H, by omega, ⟨Nat.zero_le _, h0⟩, ?_⟩
  rintro i ys H2 ⟨hi, p⟩
  by_cases hlt : i < z.cps.size
  · refine .inr ⟨hlt, hlt, ?_⟩
    rintro x H3 ⟨rfl, c, hc, rfl⟩
    have key := hs i c ys H3 (by simpa using hc) p
    have e2 : (fun (b : Bool) (H4 : Hp) => if b = true then te (some (.str ⟨#[c]⟩) :: capV caps σ) H4 fun v H5 => Pv (i + 1) (ys ++ [v]) H5 else Pv (i + 1) ys H4) = fun b H4 => if b = true then te (some (.str ⟨#[c]⟩) :: capV caps σ) H4 fun v H5 => i + 1 ≤ z.cps.size ∧ Pv (i + 1) (ys ++ [v]) H5 else i + 1 ≤ z.cps.size ∧ Pv (i + 1) ys H4 := by
      funext b H4
      have w : i + 1 ≤ z.cps.size := hlt
      simp only [w, true_and]
    rw [e2] at key
    exact key
  · have e : i = z.cps.size := by omega
    subst e
    exact .inl ⟨Nat.le_refl _, hd ys H2 (by rw [hsz]; exact p)⟩
end
section
variable {X : Cx}
def rStarts : V → List V → Hp → VK → Prop := fun x vs H Q => ∃ z y, x = .str z ∧ vs = [.str y] ∧ Q (.bl (Txt.startswith z y)) H
theorem mt_starts : MtM X "str.startswith" rStarts := by
  intro pins s σ H x xs v us Q I rx rs h
  obtain ⟨z, y, rfl, rfl, q⟩ := h
  obtain ⟨t, rfl⟩ := rx
  obtain ⟨u, rfl, t', rfl⟩ := Vals.one rs
  exact SC.startswith ⟨.bl _, H, I, rfl, q⟩
theorem vals_strs : ∀ (n : Nat) (l : List Str), Vals (l.map V.str) (strsFrom n l)
  | _, [] => .nil
  | n, x :: r => .cons ⟨_, rfl⟩ (vals_strs (n + 1) r)
def rSplit : V → List V → Hp → VK → Prop := fun x vs H Q => ∃ z y, x = .str z ∧ vs = [.str y] ∧ 0 < y.length ∧ z.length + 2 ≤ sizeLine ∧ ∀ l, H l = none → Q (.ref l) (upd H l (.lst ((Txt.split z y).map V.str)))
theorem mt_split : MtM X "str.split" rSplit := by
  intro pins s σ H x xs v us Q I rx rs h
  obtain ⟨z, y, rfl, rfl, hy, hz, q⟩ := h
  obtain ⟨t, rfl⟩ := rx
  obtain ⟨u, rfl, t', rfl⟩ := Vals.one rs
  have hy' : (y.length == 0) = false := by simpa using Nat.ne_of_gt hy
  have fin : ∀ (its : List Value) (tk : Nat), Vals ((Txt.split z y).map V.str) its → ((Txt.split z y).map V.str).length ≤ sizeLine → EP X pins σ Q (.ref s.heap.objs.size) { s with toks := tk, heap := s.heap.push { cls := .type "list", data := .seq its.toArray } } := fun its tk r hl =>
    ⟨.ref s.heap.objs.size, _, I.laid (t' := tk) (fun b o e => Heap.get?_push_of_some _ e) (Nat.le_refl _) (show ObjOk X.prog X.w _ _ _ (.lst _) from ⟨hl, its, 0, r, Heap.get?_push_size _ rfl⟩), rfl, q _ (I.hok.fresh (Nat.le_refl _))⟩
  have hpn : (Builtin.Str.partsBetween z (Builtin.Str.occurrences z y 0 z.length (z.length + 1)) y.length).length ≤ sizeLine := by
    have hh : (Builtin.Str.occurrences z y 0 z.length (z.length + 1)).length ≤ z.length + 1 := StrLaws.occ_length_le_len z y 0 z.length (z.length + 1)
    generalize (Builtin.Str.occurrences z y 0 z.length (z.length + 1)) = oc at hh
    generalize z.length = n at hh hz
    unfold Builtin.Str.partsBetween
    simp only [List.length_map, List.length_zip, List.length_cons, List.length_append, List.length_nil]
    refine Nat.le_trans (Nat.min_le_left _ _) ?_
    omega
  cases h1 : (decide (z.length < y.length) || decide (Builtin.Str.strKind z < Builtin.Str.strKind y))
  · cases hf : (Builtin.Str.occurrences z y 0 z.length (z.length + 1)).isEmpty
    · have e : Txt.split z y = Builtin.Str.partsBetween z (Builtin.Str.occurrences z y 0 z.length (z.length + 1)) y.length := (if_neg (ne_true_of_eq_false h1)).trans (if_neg (ne_true_of_eq_false hf))
      rw [e] at fin
      exact call_meets F.slot_str_split (typeIs_str _ _ _) F.entry_str_split (F.args_str_split_2 _ _) (meets_str_split_sep z y t t' h1 hy' hf (by omega) hpn) (fin _ _ (vals_strs _ _) (by rw [List.length_map]; exact hpn))
    · have e : Txt.split z y = [z] := (if_neg (ne_true_of_eq_false h1)).trans (if_pos hf)
      rw [e] at fin
      exact call_meets F.slot_str_split (typeIs_str _ _ _) F.entry_str_split (F.args_str_split_2 _ _) (meets_str_split_not_found z y t t' h1 hy' hf) (fin _ _ (.cons ⟨_, rfl⟩ .nil) (by show 1 ≤ sizeLine; decide))
  · have e : Txt.split z y = [z] := if_pos h1
    rw [e] at fin
    exact call_meets F.slot_str_split (typeIs_str _ _ _) F.entry_str_split (F.args_str_split_2 _ _) (meets_str_split_cannot_occur z y t t' h1) (fin _ _ (.cons ⟨_, rfl⟩ .nil) (by show 1 ≤ sizeLine; decide))
theorem strs_of : ∀ {zs : List Str} {us : List Value}, Vals (zs.map V.str) us → ∃ l : List (Str × Tok), us = strValues l ∧ l.map (·.1) = zs
  | [], _, .nil => ⟨[], rfl, rfl⟩
  | z :: zs, _, .cons ⟨t, e⟩ r => by
    obtain ⟨l, e1, e2⟩ := strs_of r
    exact ⟨(z, t) :: l, by rw [e, e1]; rfl, by rw [List.map_cons, e2]⟩
def rJoin (K : PySem.W.Frag) : V → List V → Hp → VK → Prop := fun x vs H Q => ∃ z a zs, x = .str z ∧ vs = [.ref a] ∧ SqL K H a (zs.map V.str) ∧ JoinOk z zs = true ∧ Q (.str (Txt.join z zs)) H
theorem mt_join : MtM X "str.join" (rJoin X.K) := by
  intro pins s σ H x xs v us Q I rx rs h
  obtain ⟨z, a, zs, rfl, rfl, hq, hj, q⟩ := h
  obtain ⟨t, rfl⟩ := rx
  obtain ⟨u, rfl, ru⟩ := Vals.one rs
  cases ru
  obtain ⟨its, r, p, _⟩ := I.list hq
  obtain ⟨l, rfl, el⟩ := strs_of r
  exact SC.join p.isList el hj fun t' k => ⟨.str _, H, I.tok _, ⟨_, rfl⟩, q⟩
def rSlS : V → Option Int → Option Int → Hp → VK → Prop := fun x lo hi H Q => ∃ z, x = .str z ∧ z.length ≤ sizeLine ∧ Q (.str (Txt.slice z lo hi)) H
theorem sl_str : SlR X rSlS := by
  intro pins s σ H x v vl vu lo hi sl Q I rx hs pl pu h
  obtain ⟨z, rfl, hz, q⟩ := h
  obtain ⟨t, rfl⟩ := rx
  refine ⟨"str", _, F.slot_str_getitem.lookup, typeIs_str _ _ _, ?_⟩
  have fin : ∀ (lo hi : Option Int), (∀ {Q : VK}, Q (.str (Txt.slice z lo hi)) H → (Txt.slice z lo hi).length ≤ sizeLine ∧ ∀ t' k, EP X pins σ Q (.str (Txt.slice z lo hi) t') { s with toks := k }) := fun lo hi {Q} q =>
    ⟨Nat.le_trans (Txt.slice_le z _ _) hz, fun t' k => ⟨.str _, H, I.tok _, ⟨_, rfl⟩, q⟩⟩
  cases pl with
  | none =>
    cases pu with
    | none => exact wpAny_getItem_str_slice (l := none) (u := none) (st := none) hs rfl (post_val_or_str (fin none none q))
    | int j u => exact wpAny_getItem_str_slice (l := none) (u := some (j, u)) (st := none) hs rfl (post_val_or_str (fin none (some j) q))
  | int i u' =>
    cases pu with
    | none => exact wpAny_getItem_str_slice (l := some (i, u')) (u := none) (st := none) hs rfl (post_val_or_str (fin (some i) none q))
    | int j u => exact wpAny_getItem_str_slice (l := some (i, u')) (u := some (j, u)) (st := none) hs rfl (post_val_or_str (fin (some i) (some j) q))
def rIntS : List V → Hp → VK → Prop := fun xs H Q => ∃ z n, xs = [.str z] ∧ PySem.intText? z = some n ∧ z.length ≤ 640 ∧ Q (.int n) H
theorem call_intS : CallR X (.type "int") rIntS := by
  intro pins s σ H xs us Q I r h
  obtain ⟨z, n, rfl, hn, hl, q⟩ := h
  obtain ⟨u, rfl, t, rfl⟩ := vals1 r
  exact PySem.W.KIN.call_text hn hl ⟨.int n, H, I.tok _, ⟨_, rfl⟩, q⟩
end
end L2
namespace L2
open PySem PySem.Spec PyProof.Rows
section
variable {M : Model} {A : Around} {EX : Value → Shared → Prop} {s : Shared} {env : Env}
end
section
variable {X : Cx} {pins : List (Addr × Obj)} {σ : St} {H : Hp} {s : Shared}
end
section
variable {prog : Program} {w : World} {A : Around} {R : Result → Shared → Prop} {s : Shared}
end
section
variable {X : Cx}
end
end L2
namespace Tx
open PySem PySem.NumText
def neg (l : List Nat) : Bool := match l with
  | 45 :: _ => true
  | _ => false
def figs (l : List Nat) : List Nat := match l with
  | 45 :: r => r
  | _ => l
theorem figs_of_neg {l : List Nat} (h : neg l = true) : l = 45 :: figs l := by
  unfold neg at h
  split at h
  · rfl
  · cases h
theorem figs_of_not {l : List Nat} (h : neg l = false) : figs l = l := by
  unfold neg at h
  unfold figs
  split at h
  · cases h
  · rfl
structure Wr (l : List Nat) : Prop where
  one : 1 ≤ (figs l).length
  most : (figs l).length ≤ 60
  all : ∀ c ∈ figs l, 48 ≤ c ∧ c ≤ 57
  head : ∀ r, figs l = 48 :: r → r = [] ∧ neg l = false
noncomputable instance (l : List Nat) : Decidable (Wr l) := Classical.propDecidable _
def valOf (l : List Nat) : Int := if neg l then -((digitsVal (figs l) : Nat) : Int) else ((digitsVal (figs l) : Nat) : Int)
theorem Wr.len {z : Str} (w : Wr z.cps.toList) : z.length ≤ 61 := by
  have h1 : z.length = z.cps.toList.length := by simp [Str.length]
  have h2 := w.most
  cases h : neg z.cps.toList with
  | true => rw [h1, figs_of_neg h]; simp only [List.length_cons]; omega
  | false => rw [h1, ← figs_of_not h]; omega
theorem Wr.reads {z : Str} (w : Wr z.cps.toList) : intText? z = some (valOf z.cps.toList) := by
  have hl := w.len
  have ne : figs z.cps.toList ≠ [] := fun e => by
    have := w.one
    rw [e] at this
    simp at this
  unfold valOf
  cases h : neg z.cps.toList with
  | true => exact intText_neg (figs_of_neg h) w.all ne (by omega)
  | false =>
    have e := figs_of_not h
    have hd := w.all
    rw [e] at hd ne ⊢
    exact intText_digits hd ne (by omega)
end Tx
namespace L2
open PySem PySem.Spec PyProof.Rows
theorem w_tys {K : PySem.W.Frag} {z : Str} {H : Hp} : tyV K "str" (.str z) H = True := eq_true rfl
end L2
namespace Tx
open PySem
theorem ext {a b : Str} (e : a.cps.toList = b.cps.toList) : a = b := by
  obtain ⟨x⟩ := a
  obtain ⟨y⟩ := b
  exact congrArg Str.mk (Array.toList_inj.mp e)
theorem len_list (z : Str) : z.length = z.cps.toList.length := by simp [Str.length]
theorem sl_from {z : Str} {i : Int} (h0 : 0 ≤ i) (h : i ≤ z.length) : (Txt.slice z (some i) none).cps.toList = z.cps.toList.drop i.toNat := by
  rw [PyProof.Rows.slice_from_eq h0 h rfl]
  show List.take _ _ = _
  rw [List.take_of_length_le]
  rw [List.length_drop, ← len_list]
  omega
theorem starts_one {z : Str} {c : Nat} : Txt.startswith z ⟨#[c]⟩ = decide (z.cps.toList.head? = some c) := by
  obtain ⟨⟨l⟩⟩ := z
  cases l with
  | nil => simp [Txt.startswith, Str.length]
  | cons a r =>
    unfold Txt.startswith Builtin.Str.subAt
    simp only [Str.length, List.size_toArray, List.length_cons, List.length_nil, Nat.zero_add, List.head?_cons, Option.some.injEq]
    rw [Bool.eq_iff_iff]
    simp
theorem minus : (Str.ofString "-") = ⟨#[45]⟩ := by decide +kernel
theorem nought : (Str.ofString "0") = ⟨#[48]⟩ := by decide +kernel
theorem neg_head {l : List Nat} : neg l = decide (l.head? = some 45) := by
  cases l with
  | nil => rfl
  | cons a r =>
    by_cases h : a = 45
    · subst h
      simp [neg]
    · simp only [List.head?_cons, Option.some.injEq, h, decide_false]
      unfold neg
      split
      · rename_i z
        cases z
        exact absurd rfl h
      · rfl
theorem starts_minus {z : Str} : Txt.startswith z (Str.ofString "-") = neg z.cps.toList := by rw [minus, starts_one, neg_head]
end Tx
namespace Tx
open PySem
def words (z : Str) : List Str := Txt.split z (Str.ofString ",")
noncomputable def poly (z : Str) : Option (List Int) := if (words z).length ≤ 13 ∧ ∀ w, w ∈ words z → Wr w.cps.toList then some ((words z).map fun w => valOf w.cps.toList) else none
theorem poly_some {z : Str} {ms : List Int} (h : poly z = some ms) : (words z).length ≤ 13 ∧ (∀ w, w ∈ words z → Wr w.cps.toList) ∧ ms = (words z).map fun w => valOf w.cps.toList := by
  unfold poly at h
  split at h
  · rename_i c
    exact ⟨c.1, c.2, (Option.some.inj h).symm⟩
  · cases h
theorem poly_of {z : Str} (h1 : (words z).length ≤ 13) (h2 : ∀ w, w ∈ words z → Wr w.cps.toList) : poly z = some ((words z).map fun w => valOf w.cps.toList) := if_pos ⟨h1, h2⟩
end Tx
namespace Tx
open PySem PySem.NumText
theorem fold_lt : ∀ (l : List Nat) (a : Nat), (∀ c ∈ l, 48 ≤ c ∧ c ≤ 57) → l.foldl (fun acc c => acc * 10 + (c - 48)) a < (a + 1) * 10 ^ l.length
  | [], a, _ => by simp
  | c :: l, a, h => by
    have hc := h c (.head _)
    have ih := fold_lt l (a * 10 + (c - 48)) fun x hx => h x (.tail _ hx)
    refine Nat.lt_of_lt_of_le ih ?_
    rw [List.length_cons, Nat.pow_succ, Nat.mul_comm (10 ^ l.length) 10, ← Nat.mul_assoc]
    exact Nat.mul_le_mul_right _ (by omega)
theorem str_len {x : Int} (h : x.natAbs < 10 ^ 60) : (Str.ofString (toString x)).length ≤ 61 := by
  rw [ofString_length]
  exact int_text_length_le10 (by decide) h
theorem texts_sum : ∀ (ms : List Int), (∀ x, x ∈ ms → x.natAbs < 10 ^ 60) → ((ms.map fun x => Str.ofString (toString x)).map (·.length)).sum ≤ 61 * ms.length
  | [], _ => Nat.le_refl _
  | x :: ms, h => by
    have ih := texts_sum ms fun y hy => h y (.tail _ hy)
    have hx := str_len (h x (.head _))
    simp only [List.map_cons, List.sum_cons, List.length_cons]
    omega
theorem comma : (Str.ofString ",").length = 1 := by decide +kernel
theorem join_len {ms : List Int} (hl : ms.length ≤ 14) (h : ∀ x, x ∈ ms → x.natAbs < 10 ^ 60) : (Txt.join (Str.ofString ",") (ms.map fun x => Str.ofString (toString x))).length ≤ 868 := by
  have h1 := texts_sum ms h
  have h2 := StrLaws.join_length_le (Str.ofString ",") (ms.map fun x => Str.ofString (toString x))
  rw [comma, List.length_map] at h2
  unfold Txt.join
  rw [StrLaws.glued_eq_join]
  omega
end Tx
namespace L2
open PySem PySem.Spec PyProof.Rows
@[irreducible] def PAj (X : Cx) (es : List Expr) (ta : TA) : Prop := PA X es ta
theorem PAj.of {X : Cx} {es : List Expr} {ta : TA} (h : PA X es ta) : PAj X es ta := by unfold PAj; exact h
end L2
namespace L2
open PySem
theorem seqX {t u : TS} {D : Ends} {σ : St} {H : Hp} (h : ∀ X : St → Hp → Prop, (∀ σ' H', u D σ' H' → X σ' H') → t { D with nx := X } σ H) : tSeq t u D σ H := h (u D) fun _ _ z => z
theorem byX {G : Prop} (h : ∀ X : Prop, (G → X) → X) : G := h G id
end L2
namespace L2
open PySem PySem.Spec PyProof.Rows
def entsOf (w : World) (l : List (Str × Tok × Value)) : Array DictEntry := (l.map fun x => ({ hash := PyData.keyHash w.params x.1, key := .str x.1 x.2.1, val := x.2.2 } : DictEntry)).toArray
structure KDict (K : PySem.W.Frag) (w : World) (a : Addr) (l : List (Str × Tok × Value)) : Prop where
  at_ : ∃ ep, K.lookup a = some { cls := .type "dict", data := .dict (entsOf w l) ep }
  no : (a == sysModules) = false
  nd : (l.map (·.1)).Nodup
def kvsOf (l : List (Str × Tok × Value)) : List (Key × Value) := l.map fun x => (Sum.inr x.1, x.2.2)
def atK (l : List (Str × Tok × Value)) (z : Str) : Option Value := (l.find? fun x => x.1 = z).map (·.2.2)
theorem kvs_at (l : List (Str × Tok × Value)) (z : Str) : valueAt (kvsOf l) (Sum.inr z : Key) = atK l z := by
  induction l with
  | nil => rfl
  | cons x l ih =>
    unfold valueAt kvsOf atK at *
    simp only [List.map_cons, List.find?_cons]
    by_cases c : x.1 = z
    · have : (Sum.inr x.1 : Key) = Sum.inr z := by rw [c]
      simp [c]
    · have : ¬ (Sum.inr x.1 : Key) = Sum.inr z := fun e => c (Sum.inr.inj e)
      simp only [decide_eq_false c, decide_eq_false this]
      exact ih
theorem kvs_pairs {P : Program} {w : World} : ∀ l : List (Str × Tok × Value), Pairs (mixKind P w) (l.map fun x => ({ hash := PyData.keyHash w.params x.1, key := .str x.1 x.2.1, val := x.2.2 } : DictEntry)) (kvsOf l)
  | [] => .nil
  | x :: l => .cons (mixKind_str P w x.1 x.2.1) rfl (kvs_pairs l)
theorem KDict.dict {P : Program} {w : World} {K : PySem.W.Frag} {a : Addr} {l : List (Str × Tok × Value)} {h : Heap} (d : KDict K w a l) (k : K.In h) : h.DictOf (mixKind P w) a (kvsOf l) := by
  obtain ⟨ep, e⟩ := d.at_
  refine ⟨_, _, ep, k _ _ e, ⟨rfl, rfl, rfl⟩, rfl, fun x hx => ?_, ?_, ?_⟩
  · unfold entsOf at hx
    rw [List.mem_toArray, List.mem_map] at hx
    obtain ⟨y, _, rfl⟩ := hx
    exact ⟨Sum.inr y.1, mixKind_str P w y.1 y.2.1, rfl⟩
  · unfold entsOf
    exact kvs_pairs l
  · have e2 : (kvsOf l).map (·.1) = (l.map (·.1)).map (Sum.inr : Str → Key) := by
      unfold kvsOf
      rw [List.map_map, List.map_map]
      rfl
    rw [e2]
    exact List.Pairwise.map _ (fun _ _ n z => n (Sum.inr.inj z)) d.nd
def tKGet (l : List (Str × Tok × Value)) (ti : TE) : TE := fun σ H Q => ti σ H fun y H1 => ∃ z b, y = .str z ∧ atK l z = some (.ref b) ∧ Q (.ref b) H1
def tKIn (l : List (Str × Tok × Value)) (ti : TE) : TE := fun σ H Q => ti σ H fun y H1 => ∃ z, y = .str z ∧ Q (.bl (atK l z).isSome) H1
def tKNot (l : List (Str × Tok × Value)) (ti : TE) : TE := fun σ H Q => ti σ H fun y H1 => ∃ z, y = .str z ∧ Q (.bl (!(atK l z).isSome)) H1
section
variable {X : Cx} {x : Str} {p pos : Pos} {i : Expr} {ti : TE} {a : Addr} {l : List (Str × Tok × Value)}
theorem pe_kget (D : KDict X.K X.w a l) (hg : Gl X x) (hm : X.mg x = some (.ref a)) (hi : PE X i ti) (hs : NoSl i) (hdb : (x == ("__debug__" : Str)) = false := by decide) : PE X (.Subscript (.Name x p) i pos) (tKGet l ti) := by
  intro pins s σ H Q I h
  refine subD_of PySem.F.slot_dict_getitem.lookup hs (ld_glob I hg hm ?_ hdb)
  refine thn (hi pins s σ H _ I h) fun iv s2 ⟨y, H2, I2, ry, z, b, ey, g, q2⟩ => ?_
  subst ey
  have dd : s2.heap.DictOf (mixKind X.prog X.w) a (kvsOf l) := D.dict I2.kIn
  exact ⟨dd.typeIs, wpAny_getItem_of (kV_is (k := Sum.inr z) ry) dd.mapOf ((kvs_at l z).trans g) ⟨.ref b, H2, I2.tok _, rfl, q2⟩⟩
theorem pc_kin (D : KDict X.K X.w a l) (hg : Gl X x) (hm : X.mg x = some (.ref a)) (hi : PE X i ti) (hdb : (x == ("__debug__" : Str)) = false := by decide) : PC X .In i (.Name x p) (tKIn l ti) := by
  intro pins s σ H Q I h
  refine thn (hi pins s σ H _ I h) fun iv s2 ⟨y, H2, I2, ry, z, ey, q2⟩ => ld_glob I2 hg hm ?_ hdb
  subst ey
  have dd : s2.heap.DictOf (mixKind X.prog X.w) a (kvsOf l) := D.dict I2.kIn
  refine wpAny_in_of (kV_is (k := Sum.inr z) ry) D.no dd.mapOf ?_
  rw [kvs_at]
  exact ⟨.bl _, H2, I2.tok _, rfl, q2⟩
theorem pc_knot (D : KDict X.K X.w a l) (hg : Gl X x) (hm : X.mg x = some (.ref a)) (hi : PE X i ti) (hdb : (x == ("__debug__" : Str)) = false := by decide) : PC X .NotIn i (.Name x p) (tKNot l ti) := by
  intro pins s σ H Q I h
  refine thn (hi pins s σ H _ I h) fun iv s2 ⟨y, H2, I2, ry, z, ey, q2⟩ => ld_glob I2 hg hm ?_ hdb
  subst ey
  have dd : s2.heap.DictOf (mixKind X.prog X.w) a (kvsOf l) := D.dict I2.kIn
  refine wpAny_notIn_of (kV_is (k := Sum.inr z) ry) D.no dd.mapOf ?_
  rw [kvs_at]
  exact ⟨.bl _, H2, I2.tok _, rfl, q2⟩
end
def tCallV (T : Addr → Sp → Prop) (E : XK) (tf : TE) (t : TA) : TE := fun σ H Q => tf σ H fun f H1 => ∃ g sp, f = .ref g ∧ T g sp ∧ t σ H1 fun vs H2 => sp vs H2 Q E
structure TabOk (P : Program) (w : World) (K : PySem.W.Frag) (mg : Str → Option Value) (base : Heap) (CX : CXT) (k : Nat) (T : Addr → Sp → Prop) : Prop where
  ok : ∀ g sp, T g sp → ∃ fd ps, FnOk P w K mg base CX k g fd ps sp ∧ Binds K fd ps [] ∧ PySem.W.keepIn K (.ref g) = true
section
variable {X : Cx} {CX : CXT} {k j : Nat} {E : XK} {T : Addr → Sp → Prop} {pos : Pos} {fe e : Expr} {es : List Expr} {tf : TE} {t : TA}
theorem pe_callV (hT : TabOk X.prog X.w X.K X.mg X.base CX j T) (hf : PE X fe tf) (hr : Room k X.A) (hx : Passes CX X E) (ha : PA X (e :: es) t) (hjk : j ≤ k := by decide)
    (hev : eval (.Call fe (e :: es) [] pos) X.env = (do callWith pos (← eval fe X.env) [] (backTo pos (starEach (e :: es) X.env)) (backToKw pos (keywordEach [] X.env))) := by rfl)
    (he : starEach (e :: es) X.env = (false, eval e X.env) :: starEach es X.env := by rfl) (hpl : (backTo pos (starEach es X.env)).any (·.1) = false := by rfl) :
    PE X (.Call fe (e :: es) [] pos) (tCallV T E tf t) := by
  intro pins s σ H Q I h
  rw [hev]
  refine wpAny_bind (thn (hf pins s σ H _ I h) fun u s1 ⟨v, H1, I1, rv, g, sp, ev, tg, q⟩ => ?_)
  subst ev
  obtain rfl : u = Value.ref g := rv
  obtain ⟨fd, ps, F, b, kp⟩ := hT.ok g sp tg
  refine PySem.W.callWith_K (h₀ := X.base) I.ok.mod.kin kp (thn (ha pos pins s1 σ H1 _ I1 q) fun us s2 ⟨vs, H2, I2, r, q2⟩ => ⟨I2.kIn, ?_⟩) he hpl
  exact run_fn F (hr.mono hjk) b .nil hx I2 r (by rw [List.append_nil]; exact q2)
end
end L2
namespace Tx
open PySem PySem.NumText
theorem cut_eq {c : Nat} : ∀ {a b X Y : List Nat}, c ∉ a → c ∉ b → a ++ c :: X = b ++ c :: Y → a = b ∧ X = Y
  | [], [], X, Y, _, _, h => ⟨rfl, (List.cons.inj h).2⟩
  | [], y :: b, X, Y, _, hb, h => absurd (by rw [← (List.cons.inj h).1]; exact .head _) hb
  | x :: a, [], X, Y, ha, _, h => absurd (by rw [(List.cons.inj h).1]; exact .head _) ha
  | x :: a, y :: b, X, Y, ha, hb, h => by
    obtain ⟨e1, e2⟩ := List.cons.inj h
    obtain ⟨e3, e4⟩ := cut_eq (fun z => ha (.tail _ z)) (fun z => hb (.tail _ z)) e2
    exact ⟨by rw [e1, e3], e4⟩
theorem app_list (a b : Str) : (a ++ b).cps.toList = a.cps.toList ++ b.cps.toList := by
  show (a.cps ++ b.cps).toList = _
  simp
theorem join_cons (c : Nat) (w v : Str) (r : List Str) : (Str.join ⟨#[c]⟩ (w :: v :: r)).cps.toList = w.cps.toList ++ c :: (Str.join ⟨#[c]⟩ (v :: r)).cps.toList := by
  show (w ++ (⟨#[c]⟩ : Str) ++ Str.join ⟨#[c]⟩ (v :: r)).cps.toList = _
  rw [app_list, app_list, List.append_assoc]
  rfl
theorem join_inj {c : Nat} : ∀ (A B : List Str), A ≠ [] → B ≠ [] → (∀ w ∈ A, c ∉ w.cps.toList) → (∀ w ∈ B, c ∉ w.cps.toList) → (Str.join ⟨#[c]⟩ A).cps.toList = (Str.join ⟨#[c]⟩ B).cps.toList → A = B
  | [], _, h, _, _, _, _ => absurd rfl h
  | _, [], _, h, _, _, _ => absurd rfl h
  | [a], [b], _, _, _, _, h => by rw [ext (a := a) (b := b) h]
  | [a], b :: v :: r, _, _, ha, _, h => by
    rw [join_cons] at h
    have h : a.cps.toList = b.cps.toList ++ c :: (Str.join ⟨#[c]⟩ (v :: r)).cps.toList := h
    exact absurd (by rw [h]; simp) (ha a (.head _))
  | a :: v :: r, [b], _, _, _, hb, h => by
    rw [join_cons] at h
    have h : a.cps.toList ++ c :: (Str.join ⟨#[c]⟩ (v :: r)).cps.toList = b.cps.toList := h
    exact absurd (by rw [← h]; simp) (hb b (.head _))
  | a :: v :: r, b :: u :: t, _, _, ha, hb, h => by
    rw [join_cons, join_cons] at h
    obtain ⟨e1, e2⟩ := cut_eq (ha a (.head _)) (hb b (.head _)) h
    rw [ext e1, join_inj (v :: r) (u :: t) (List.cons_ne_nil _ _) (List.cons_ne_nil _ _) (fun w hw => ha w (.tail _ hw)) (fun w hw => hb w (.tail _ hw)) e2]
theorem split_ne (z : Str) (y : Str) : Txt.split z y ≠ [] := by
  unfold Txt.split
  split
  · exact List.cons_ne_nil _ _
  · split
    · exact List.cons_ne_nil _ _
    · rw [StrLaws.partsBetween_eq]
      obtain ⟨p, q, e⟩ := StrLaws.partsFrom_ne z y.length 0 (Builtin.Str.occurrences z y 0 z.length (z.length + 1))
      rw [e]
      exact List.cons_ne_nil _ _
theorem split_of {c : Nat} {ws : List Str} (h0 : ws ≠ []) (h : ∀ w ∈ ws, c ∉ w.cps.toList) : Txt.split (Str.join ⟨#[c]⟩ ws) ⟨#[c]⟩ = ws := by
  refine join_inj (c := c) _ _ (split_ne _ _) h0 (StrLaws.split_free _ c) h ?_
  rw [StrLaws.join_split]
def dg (m : Nat) : List Nat := (Nat.toDigits 10 m).map Char.toNat
theorem digit_all : ∀ d : Nat, d < 10 → 48 ≤ (Nat.digitChar d).toNat ∧ (Nat.digitChar d).toNat ≤ 57 := by decide
theorem dg_all (m : Nat) : ∀ c ∈ dg m, 48 ≤ c ∧ c ≤ 57 := by
  unfold dg
  induction m using Nat.strongRecOn with
  | _ m ih =>
    by_cases h : m < 10
    · rw [Nat.toDigits_of_lt_base h]
      intro c hc
      rw [List.map_cons, List.map_nil, List.mem_singleton] at hc
      rw [hc]
      exact digit_all m h
    · have hm : m % 10 < 10 := Nat.mod_lt m (by decide)
      have t : Nat.toDigits 10 (m / 10) ++ Nat.toDigits 10 (m % 10) = Nat.toDigits 10 (10 * (m / 10) + m % 10) := Nat.toDigits_append_toDigits (by decide) (by omega) hm
      rw [Nat.div_add_mod] at t
      rw [← t, List.map_append, Nat.toDigits_of_lt_base hm]
      intro c hc
      rcases List.mem_append.mp hc with z | z
      · exact ih (m / 10) (by omega) c z
      · rw [List.map_cons, List.map_nil, List.mem_singleton] at z
        rw [z]
        exact digit_all _ hm
theorem dg_val (m : Nat) : digitsVal (dg m) = m := PySem.W.KIN.val_back m
theorem dg_len {k m : Nat} (hk : 1 ≤ k) (h : m < 10 ^ k) : (dg m).length ≤ k := by
  unfold dg
  rw [List.length_map]
  exact PyProof.Rows.digits10_le hk h
theorem dg_one (m : Nat) : 1 ≤ (dg m).length := by
  unfold dg
  rw [List.length_map]
  exact PyProof.Rows.tDigits_len_ge 10 m
theorem dg_head {m : Nat} {r : List Nat} (h : dg m = 48 :: r) : r = [] := by
  have h1 := dg_val m
  rw [h, digitsVal_zero] at h1
  have h2 : digitsVal r < 10 ^ r.length := by
    have := fold_lt r 0 fun c hc => dg_all m c (by rw [h]; exact .tail _ hc)
    rw [Nat.zero_add, Nat.one_mul] at this
    exact this
  cases r with
  | nil => rfl
  | cons c r =>
    rw [h1] at h2
    have := dg_len (k := (c :: r).length) (by simp) h2
    rw [h] at this
    simp at this
    omega
theorem not_neg {l : List Nat} (h : ∀ c ∈ l, 48 ≤ c ∧ c ≤ 57) : neg l = false := by
  unfold neg
  split
  · have := h 45 (.head _)
    omega
  · rfl
def tx (x : Int) : Str := Str.ofString (toString x)
theorem tx_nat (m : Nat) : (tx (m : Int)).cps.toList = dg m := PySem.W.KIN.signs_num m
theorem tx_neg (m : Nat) : (tx (-((m + 1 : Nat) : Int))).cps.toList = 45 :: dg (m + 1) := by
  unfold tx
  have e1 : toString (-((m + 1 : Nat) : Int)) = "-" ++ toString ((m + 1 : Nat) : Int) := rfl
  rw [e1]
  have e2 : (Str.ofString ("-" ++ toString ((m + 1 : Nat) : Int))).cps.toList = 45 :: (Str.ofString (toString ((m + 1 : Nat) : Int))).cps.toList := by
    simp [Str.ofString_eq_toList]
  rw [e2, PySem.W.KIN.signs_num]
  rfl
theorem tx_wr {x : Int} (h : x.natAbs < 10 ^ 60) : Wr (tx x).cps.toList ∧ valOf (tx x).cps.toList = x := by
  rcases (show (∃ m : Nat, x = m) ∨ ∃ m : Nat, x = -((m + 1 : Nat) : Int) from by
    rcases (show x < 0 ∨ 0 ≤ x by omega) with z | z
    · exact .inr ⟨x.natAbs - 1, by omega⟩
    · exact .inl ⟨x.toNat, by omega⟩) with ⟨m, rfl⟩ | ⟨m, rfl⟩
  · rw [tx_nat]
    have nn := not_neg (dg_all m)
    have ef := figs_of_not nn
    refine ⟨⟨by rw [ef]; exact dg_one m, by rw [ef]; exact dg_len (by decide) (by simpa using h), by rw [ef]; exact dg_all m, fun r e => ⟨dg_head (by rw [← ef]; exact e), nn⟩⟩, ?_⟩
    unfold valOf
    rw [nn, if_neg (by decide), ef, dg_val]
  · rw [tx_neg]
    have ef : figs (45 :: dg (m + 1)) = dg (m + 1) := rfl
    refine ⟨⟨by rw [ef]; exact dg_one _, by rw [ef]; exact dg_len (by decide) (by rw [Int.natAbs_neg, Int.natAbs_natCast] at h; exact h), by rw [ef]; exact dg_all _, fun r e => ?_⟩, ?_⟩
    · rw [ef] at e
      have h1 := dg_head e
      have h2 := dg_val (m + 1)
      rw [e, h1] at h2
      exact absurd h2 (by show ¬ (0 * 10 + (48 - 48) = m + 1); omega)
    · show (if true = true then -((digitsVal (figs (45 :: dg (m + 1))) : Nat) : Int) else _) = _
      rw [if_pos rfl, ef, dg_val]
theorem tx_signs (x : Int) : ∀ c ∈ (tx x).cps.toList, c = 45 ∨ (48 ≤ c ∧ c ≤ 57) := by
  rcases (show (∃ m : Nat, x = m) ∨ ∃ m : Nat, x = -((m + 1 : Nat) : Int) from by
    rcases (show x < 0 ∨ 0 ≤ x by omega) with z | z
    · exact .inr ⟨x.natAbs - 1, by omega⟩
    · exact .inl ⟨x.toNat, by omega⟩) with ⟨m, rfl⟩ | ⟨m, rfl⟩
  · rw [tx_nat]
    exact fun c hc => .inr (dg_all m c hc)
  · rw [tx_neg]
    intro c hc
    rcases List.mem_cons.mp hc with z | z
    · exact .inl z
    · exact .inr (dg_all _ c z)
def shown (f : List Int) : Str := Txt.join (Str.ofString ",") (f.map tx)
theorem comma_is : (Str.ofString ",") = ⟨#[44]⟩ := by decide +kernel
theorem space_is : (Str.ofString " ") = ⟨#[32]⟩ := by decide +kernel
theorem join_eq (y : Str) (ws : List Str) : Txt.join y ws = Str.join y ws := by
  unfold Txt.join
  exact StrLaws.glued_eq_join y ws
theorem shown_words {f : List Int} (h0 : f ≠ []) : words (shown f) = f.map tx := by
  unfold words shown
  rw [join_eq, comma_is]
  refine split_of (by simpa using h0) fun w hw z => ?_
  obtain ⟨x, _, rfl⟩ := List.mem_map.mp hw
  rcases tx_signs x 44 z with e | e <;> omega
theorem shown_poly {f : List Int} (h0 : f ≠ []) (hl : f.length ≤ 13) (h : ∀ x, x ∈ f → x.natAbs < 10 ^ 60) : poly (shown f) = some f := by
  have e := poly_of (z := shown f) (by rw [shown_words h0, List.length_map]; exact hl) (fun w hw => by
    rw [shown_words h0] at hw
    obtain ⟨x, hx, rfl⟩ := List.mem_map.mp hw
    exact (tx_wr (h x hx)).1)
  rw [e, shown_words h0, List.map_map]
  refine congrArg some ((List.map_congr_left fun x hx => ?_).trans (List.map_id f))
  exact (tx_wr (h x hx)).2
theorem join_signs {c : Nat} {P : Nat → Prop} (hc : P c) : ∀ (ws : List Str), (∀ w ∈ ws, ∀ x ∈ w.cps.toList, P x) → ∀ x ∈ (Str.join ⟨#[c]⟩ ws).cps.toList, P x
  | [], _, x, hx => by cases hx
  | [w], h, x, hx => h w (.head _) x hx
  | w :: v :: r, h, x, hx => by
    rw [join_cons] at hx
    rcases List.mem_append.mp hx with z | z
    · exact h w (.head _) x z
    · rcases List.mem_cons.mp z with z | z
      · rw [z]; exact hc
      · exact join_signs hc (v :: r) (fun u hu => h u (.tail _ hu)) x z
theorem shown_free (f : List Int) : 32 ∉ (shown f).cps.toList := fun z => by
  unfold shown at z
  rw [join_eq, comma_is] at z
  have := join_signs (c := 44) (P := fun x => x ≠ 32) (by decide) (f.map tx) (fun w hw x hx => by
    obtain ⟨y, _, rfl⟩ := List.mem_map.mp hw
    rcases tx_signs y x hx with e | e <;> omega) 32 z
  exact this rfl
theorem tx_free (x : Int) : 32 ∉ (tx x).cps.toList := fun z => by
  rcases tx_signs x 32 z with e | e <;> omega
end Tx
namespace L2
open PySem PySem.Spec PyProof.Rows
section
variable {prog : Program} {w : World} {A : Around} {E : Value → Shared → Prop} {s : Shared}
theorem nx_tup {i t : Addr} {k : Nat} {its : Array Value} {v : Value} {Q : Value → Shared → Prop} (ii : IsTupIter s.heap i t k) (tt : IsTup s.heap t its) (hv : its[k]? = some v)
    (go : ∀ g, IsTupIter g i t (k + 1) → Heap.SameBut i s.heap g → Q v { s with heap := g }) : wpAny (model prog w) A (Builtin.SmallTypes.nextOf (.ref i)) Q E s := by
  obtain ⟨u, gu, cu, du⟩ := id ii
  obtain ⟨y, gy, _, n, dy⟩ := tt
  unfold Builtin.SmallTypes.nextOf
  refine wpAny_bind (wpAny_callSpecial?_slot (name := Str.ofString "__next__") ii.typeIs slot_tupleiter_next (wpAny_call_entry slot_tupleiter_next ii.typeIs entry_tupleiter_next ?_ (args_tupleiter_next _)))
  show wpAny _ _ (field (.ref i) 0 >>= _) _ _ s
  refine wpAny_bind (wpAny_field gu du (x := .ref t) rfl ?_)
  show wpAny _ _ (if (Value.ref t == Value.none) = true then _ else _) _ _ s
  rw [if_neg (by intro z; cases z)]
  show wpAny _ _ (field (.ref i) 1 >>= _) _ _ s
  refine wpAny_bind (wpAny_field gu du (x := .int k 0) rfl (wpAny_bind (wpAny_seqItems gy dy ?_)))
  simp only [Int.toNat_natCast, hv]
  refine wpAny_bind (wpAny_setField gu du (by simp) (wpAny_pure ⟨v, rfl, wpAny_pure (go _ ⟨_, Heap.get?_update_self _ gu (Obj.isFreed_of_fields (Obj.data_mapFields du _)), (Obj.cls_mapFields ..).trans cu, ?_⟩ (Heap.SameBut.update ..))⟩))
  rw [Obj.data_mapFields du]
  simp [rawInt]
theorem nxe_tup {i t : Addr} {k : Nat} {its : Array Value} {Q : Value → Shared → Prop} (hh : A.handled = none) (ii : IsTupIter s.heap i t k) (tt : IsTup s.heap t its) (hv : its[k]? = none)
    (go : ∀ g e, Heap.ExtBut i s.heap g → (∃ o, g.get? e = some o ∧ o.cls = .type "StopIteration") → E (.ref e) { s with heap := g }) : wpAny (model prog w) A (Builtin.SmallTypes.nextOf (.ref i)) Q E s := by
  obtain ⟨u, gu, cu, du⟩ := id ii
  obtain ⟨y, gy, _, n, dy⟩ := tt
  unfold Builtin.SmallTypes.nextOf
  refine wpAny_bind (wpAny_callSpecial?_slot (name := Str.ofString "__next__") ii.typeIs slot_tupleiter_next (wpAny_call_entry slot_tupleiter_next ii.typeIs entry_tupleiter_next ?_ (args_tupleiter_next _)))
  show wpAny _ _ (field (.ref i) 0 >>= _) _ _ s
  refine wpAny_bind (wpAny_field gu du (x := .ref t) rfl ?_)
  show wpAny _ _ (if (Value.ref t == Value.none) = true then _ else _) _ _ s
  rw [if_neg (by intro z; cases z)]
  show wpAny _ _ (field (.ref i) 1 >>= _) _ _ s
  refine wpAny_bind (wpAny_field gu du (x := .int k 0) rfl (wpAny_bind (wpAny_seqItems gy dy ?_)))
  simp only [Int.toNat_natCast, hv]
  refine wpAny_bind (wpAny_rule (wpAny_bind (wpAny_setField gu du (by simp) (wpAny_bind ?_))))
  simp only [newExc, newTuple]
  refine wpAny_bind (wpAny_newObj_type (wpAny_bind (m := firstArgMember _ _) (wpAny_of_eq (a := Value.none) (by first | rfl | (simp only [firstArgMember]; rfl)) (wpAny_newObj_type ?_ (by size_fits)))) (by size_fits))
  simp only [raiseNew]
  refine wpAny_bind (wpAny_handled ?_)
  first | rw [show A.in1.handled = none from hh] | rw [hh]
  exact wpAny_bind (wpAny_pure (wpAny_throw (go _ _ (((Heap.SameBut.update ..).extBut.push _).push _) ⟨_, Heap.get?_push_size _ rfl, rfl⟩)))
theorem zipT_item {z TI TO i1 i2 l1 l2 : Addr} {k : Nat} {xs ys : Array Value} {x y a b : Value} {Q : Option Value → Shared → Prop} (D : ZipApart z TI TO i1 i2 l1 l2)
    (zz : IsZip s.heap z TI TO .none) (pI : IsPair s.heap TI (.ref i1) (.ref i2)) (pO : IsPair s.heap TO a b)
    (j1 : IsTupIter s.heap i1 l1 k) (j2 : s.heap.IsListIter i2 l2 k) (m1 : IsTup s.heap l1 xs) (m2 : s.heap.IsList l2 ys) (hx : xs[k]? = some x) (hy : ys[k]? = some y)
    (go : ∀ g, IsZip g z TI TO (rawInt s.heap.objs.size) → IsPair g TO x y → IsTupIter g i1 l1 (k + 1) → g.IsListIter i2 l2 (k + 1) → IsPair g s.heap.objs.size x y →
      (∀ c o, c ≠ z → c ≠ TO → c ≠ i1 → c ≠ i2 → s.heap.get? c = some o → g.get? c = some o) → Q (some (.ref s.heap.objs.size)) { s with heap := g }) :
    wpAny (model prog w) A (pyNext (.ref z)) Q E s := by
  have ty : s.TypeIs (.ref z) "zip" := ⟨_, zz, rfl⟩
  unfold pyNext
  refine wpAny_bind (wpAny_attempt (wpAny_callSpecial?_slot (name := Str.ofString "__next__") ty F.slot_zip_next (wpAny_call_entry F.slot_zip_next ty F.entry_zip_next ?_ (F.args_zip_next_1 _))))
  show wpAny _ _ (field (.ref z) 2 >>= _) _ _ _
  refine wpAny_bind (wpAny_field zz rfl (x := .bool false) rfl ?_)
  show wpAny _ _ (field (.ref z) 3 >>= _) _ _ _
  refine wpAny_bind (wpAny_field zz rfl (x := .ref TI) rfl (wpAny_bind (wpAny_seqItems pI rfl ?_)))
  show wpAny _ _ (Builtin.SmallTypes.ownedTupleIsFree (.ref z) >>= _) _ _ _
  refine wpAny_bind ?_
  unfold Builtin.SmallTypes.ownedTupleIsFree
  refine wpAny_bind (wpAny_field zz rfl (x := .none) rfl (wpAny_pure ?_))
  simp only [if_true]
  refine wpAny_bind (wpAny_rule (wpAny_bind (wpAny_field zz rfl (x := .ref TO) rfl (wpAny_bind (wpAny_setField_rec zz (by simp) fun g1 z1 s1 => ?_)))))
  have z1 : IsZip g1 z TI TO .ellipsis := z1
  refine wpAny_bind ?_
  simp only [List.zipIdx_cons, List.zipIdx_nil, List.forIn_cons, List.forIn_nil]
  refine wpAny_bind (wpAny_bind (wpAny_onRaise ?_))
  show wpAny _ _ (Builtin.SmallTypes.nextOf (.ref i1) >>= _) _ _ _
  refine wpAny_bind (nx_tup (j1.extBut s1.extBut D.i1z) (m1.extBut s1.extBut D.l1z) hx fun g2 n2 s2 => wpAny_pure ?_)
  have o2 : IsPair g2 TO a b := s2.extBut _ _ D.TOi1 (s1.extBut _ _ D.TOz pO)
  refine wpAny_bind (wpAny_seqItems o2 rfl (wpAny_bind (wpAny_updateSeq_pair o2 fun g3 o3 s3 => wpAny_bind (wpAny_letGo (wpAny_pure ?_)))))
  have o3 : IsPair g3 TO x b := o3
  refine wpAny_bind (wpAny_bind (wpAny_onRaise ?_))
  show wpAny _ _ (Builtin.SmallTypes.nextOf (.ref i2) >>= _) _ _ _
  refine wpAny_bind (wpAny_nextOf_list_item (((j2.extBut s1.extBut D.i2z).extBut s2.extBut D.i12.symm).extBut s3.extBut D.TOi2.symm) (((m2.extBut s1.extBut D.l2z).extBut s2.extBut D.l2i1).extBut s3.extBut D.l2TO) hy fun g4 n4 s4 => wpAny_pure ?_)
  have o4 : IsPair g4 TO x b := s4.extBut _ _ D.TOi2 o3
  refine wpAny_bind (wpAny_seqItems o4 rfl (wpAny_bind (wpAny_updateSeq_pair o4 fun g5 o5 s5 => wpAny_bind (wpAny_letGo (wpAny_pure (wpAny_pure ?_))))))
  have o5 : IsPair g5 TO x y := o5
  refine wpAny_bind (wpAny_seqItems o5 rfl (wpAny_bind (wpAny_newTuple ?_)))
  have z5 : IsZip g5 z TI TO .ellipsis := s5.extBut _ _ D.TOz.symm (s4.extBut _ _ D.i2z.symm (s3.extBut _ _ D.TOz.symm (s2.extBut _ _ D.i1z.symm z1)))
  have len5 : g5.objs.size = s.heap.objs.size := by rw [s5.1, s4.1, s3.1, s2.1, s1.1]
  have old5 : ∀ c o, c ≠ z → c ≠ TO → c ≠ i1 → c ≠ i2 → s.heap.get? c = some o → g5.get? c = some o := fun c o q1 q2 q3 q4 e => s5.extBut _ _ q2 (s4.extBut _ _ q4 (s3.extBut _ _ q2 (s2.extBut _ _ q3 (s1.extBut _ _ q1 e))))
  have a5 : IsTupIter g5 i1 l1 (k + 1) := ((n2.extBut s3.extBut D.TOi1.symm).extBut s4.extBut D.i12).extBut s5.extBut D.TOi1.symm
  have b5 : g5.IsListIter i2 l2 (k + 1) := n4.extBut s5.extBut D.TOi2.symm
  have lz : z < g5.objs.size := Heap.lt_size z5
  show wpAny _ _ (Builtin.SmallTypes.ownedTupleHandOut (.ref z) (.ref g5.objs.size) >>= _) _ _ _
  refine wpAny_bind ?_
  unfold Builtin.SmallTypes.ownedTupleHandOut
  have z6 : IsZip (g5.push { cls := .type "tuple", data := .seq #[x, y] }) z TI TO .ellipsis := Heap.get?_push_of_some _ z5
  refine wpAny_bind (wpAny_setField_rec z6 (by simp) fun g7 z7 s7 => ?_)
  have z7 : IsZip g7 z TI TO (rawInt g5.objs.size) := z7
  refine wpAny_setField_rec z7 (by simp) fun g8 z8 s8 => ?_
  have z8 : IsZip g8 z TI TO (rawInt g5.objs.size) := z8
  have up : ∀ c o, c ≠ z → g5.get? c = some o → g8.get? c = some o := fun c o q e => s8.extBut _ _ q (s7.extBut _ _ q (Heap.get?_push_of_some _ e))
  have t8 : IsPair g8 g5.objs.size x y := s8.extBut _ _ (Nat.ne_of_gt lz) (s7.extBut _ _ (Nat.ne_of_gt lz) (Heap.get?_push_size _ rfl))
  rw [len5] at z8 t8
  refine wpAny_pure ⟨_, rfl, wpAny_pure ?_⟩
  rw [len5]
  refine go g8 z8 (up _ _ D.TOz o5) ?_ (b5.at fun o e => up _ o D.i2z e) t8 fun c o q1 q2 q3 q4 e => up c o q1 (old5 c o q1 q2 q3 q4 e)
  obtain ⟨o, e, r⟩ := a5
  exact ⟨o, up _ o D.i1z e, r⟩
theorem zipT_end {z TI TO i1 i2 l1 l2 : Addr} {k : Nat} {xs ys : Array Value} {a b : Value} {Q : Option Value → Shared → Prop} (hh : A.handled = none) (D : ZipApart z TI TO i1 i2 l1 l2)
    (zz : IsZip s.heap z TI TO .none) (pI : IsPair s.heap TI (.ref i1) (.ref i2)) (pO : IsPair s.heap TO a b)
    (j1 : IsTupIter s.heap i1 l1 k) (j2 : s.heap.IsListIter i2 l2 k) (m1 : IsTup s.heap l1 xs) (m2 : s.heap.IsList l2 ys) (hx : xs[k]? = none ∨ ys[k]? = none)
    (go : ∀ g, (∀ c o, c ≠ z → c ≠ TO → c ≠ i1 → c ≠ i2 → s.heap.get? c = some o → g.get? c = some o) → Q none { s with heap := g }) : wpAny (model prog w) A (pyNext (.ref z)) Q E s := by
  have ty : s.TypeIs (.ref z) "zip" := ⟨_, zz, rfl⟩
  have stop : ∀ g e, (∀ c o, c ≠ z → c ≠ TO → c ≠ i1 → c ≠ i2 → s.heap.get? c = some o → g.get? c = some o) → (∃ o, g.get? e = some o ∧ o.cls = .type "StopIteration") →
      wpAny (model prog w) A (do if ← isInstance (.ref e) (.type "StopIteration") then pure none else throw (.ref e)) Q E { s with heap := g } := fun g e kk ⟨o, ho, hc⟩ =>
    wpAny_bind (wpAny_isInstance (T := "StopIteration") (b := true) ⟨o, ho, hc⟩ isSubtype_stop (wpAny_pure (go g kk)))
  unfold pyNext
  refine wpAny_bind (wpAny_attempt (wpAny_callSpecial?_slot (name := Str.ofString "__next__") ty F.slot_zip_next (wpAny_call_entry F.slot_zip_next ty F.entry_zip_next ?_ (F.args_zip_next_1 _))))
  show wpAny _ _ (field (.ref z) 2 >>= _) _ _ _
  refine wpAny_bind (wpAny_field zz rfl (x := .bool false) rfl ?_)
  show wpAny _ _ (field (.ref z) 3 >>= _) _ _ _
  refine wpAny_bind (wpAny_field zz rfl (x := .ref TI) rfl (wpAny_bind (wpAny_seqItems pI rfl ?_)))
  show wpAny _ _ (Builtin.SmallTypes.ownedTupleIsFree (.ref z) >>= _) _ _ _
  refine wpAny_bind ?_
  unfold Builtin.SmallTypes.ownedTupleIsFree
  refine wpAny_bind (wpAny_field zz rfl (x := .none) rfl (wpAny_pure ?_))
  simp only [if_true]
  refine wpAny_bind (wpAny_rule (wpAny_bind (wpAny_field zz rfl (x := .ref TO) rfl (wpAny_bind (wpAny_setField_rec zz (by simp) fun g1 z1 s1 => ?_)))))
  have z1 : IsZip g1 z TI TO .ellipsis := z1
  refine wpAny_bind ?_
  simp only [List.zipIdx_cons, List.zipIdx_nil, List.forIn_cons, List.forIn_nil]
  refine wpAny_bind (wpAny_bind (wpAny_onRaise ?_))
  show wpAny _ _ (Builtin.SmallTypes.nextOf (.ref i1) >>= _) _ _ _
  cases e1 : xs[k]? with
  | none =>
    refine wpAny_bind (nxe_tup hh (j1.extBut s1.extBut D.i1z) (m1.extBut s1.extBut D.l1z) e1 fun g2 e s2 he => ?_)
    obtain ⟨oe, hoe, hce⟩ := he
    have z2 : IsZip g2 z TI TO .ellipsis := s2 _ _ D.i1z.symm z1
    have ne : e ≠ z := fun q => by subst q; rw [z2] at hoe; cases hoe; simp at hce
    exact wpAny_setField_rec z2 (by simp) fun g3 _ s3 => stop g3 e (fun c o q1 _ q3 _ q => s3.extBut _ _ q1 (s2 _ _ q3 (s1.extBut _ _ q1 q))) ⟨oe, s3.extBut _ _ ne hoe, hce⟩
  | some x =>
    have e2 : ys[k]? = none := by
      rcases hx with q | q
      · rw [e1] at q; cases q
      · exact q
    refine wpAny_bind (nx_tup (j1.extBut s1.extBut D.i1z) (m1.extBut s1.extBut D.l1z) e1 fun g2 n2 s2 => wpAny_pure ?_)
    have o2 : IsPair g2 TO a b := s2.extBut _ _ D.TOi1 (s1.extBut _ _ D.TOz pO)
    refine wpAny_bind (wpAny_seqItems o2 rfl (wpAny_bind (wpAny_updateSeq_pair o2 fun g3 o3 s3 => wpAny_bind (wpAny_letGo (wpAny_pure ?_)))))
    refine wpAny_bind (wpAny_bind (wpAny_onRaise ?_))
    show wpAny _ _ (Builtin.SmallTypes.nextOf (.ref i2) >>= _) _ _ _
    refine wpAny_bind (wpAny_nextOf_list_end hh (((j2.extBut s1.extBut D.i2z).extBut s2.extBut D.i12.symm).extBut s3.extBut D.TOi2.symm) (((m2.extBut s1.extBut D.l2z).extBut s2.extBut D.l2i1).extBut s3.extBut D.l2TO) e2 fun g4 e s4 he => ?_)
    obtain ⟨oe, hoe, hce⟩ := he
    have z4 : IsZip g4 z TI TO .ellipsis := s4 _ _ D.i2z.symm (s3.extBut _ _ D.TOz.symm (s2.extBut _ _ D.i1z.symm z1))
    have ne : e ≠ z := fun q => by subst q; rw [z4] at hoe; cases hoe; simp at hce
    exact wpAny_setField_rec z4 (by simp) fun g5 _ s5 => stop g5 e (fun c o q1 q2 q3 q4 q => s5.extBut _ _ q1 (s4 _ _ q4 (s3.extBut _ _ q2 (s2.extBut _ _ q3 (s1.extBut _ _ q1 q))))) ⟨oe, s5.extBut _ _ ne hoe, hce⟩
end
end L2
namespace L2
open PySem PySem.Spec PyProof.Rows
abbrev zT1 (h : Heap) (a : Addr) : Heap := h.push { cls := .type "tuple_iterator", data := .fields #[.ref a, .int 0 0] }
abbrev zT2 (h : Heap) (a b : Addr) : Heap := (zT1 h a).push { cls := .type "list_iterator", data := .fields #[.ref b, .int 0 0] }
abbrev zT3 (h : Heap) (a b : Addr) : Heap := (zT2 h a b).push { cls := .type "tuple", data := .seq #[.ref h.objs.size, .ref (zT1 h a).objs.size] }
abbrev zT4 (h : Heap) (a b : Addr) : Heap := (zT3 h a b).push { cls := .type "tuple", data := .seq #[.none, .none] }
abbrev zT5 (h : Heap) (a b : Addr) : Heap := (zT4 h a b).push { cls := .type "zip", data := .fields #[.none, .bool false, .bool false, .ref (zT2 h a b).objs.size, .ref (zT3 h a b).objs.size] }
theorem zT_meets (a b : Addr) (xs ys : Array Value) : Meets (Builtin.«zip.__new__» ⟨[.type "zip", .ref a, .ref b], []⟩) (fun _ R s => IsTup s.heap a xs ∧ s.heap.IsList b ys ∧ R (.ok (.ret (.ref (zT4 s.heap a b).objs.size))) { s with heap := zT5 s.heap a b }) :=
  .of_wp fun prog w A R s q => by
    obtain ⟨hp, g, d, tk, os⟩ := s
    obtain ⟨q1, q2, q⟩ := q
    have hsub := sub_zip
    have M1 : IsTup (Shared.heap ⟨hp, g, d, tk, os⟩) a xs := q1
    have M2 : Heap.IsList (Shared.heap ⟨hp.push { cls := .type "tuple_iterator", data := .fields #[.ref a, .int 0 0] }, g, d, tk, os⟩) b ys := Heap.IsList.push q2 _
    wp_walk using iter_tuple M1, wpAny_pyIter_list M2
    exact ⟨_, rfl, q⟩
section
variable {prog : Program} {w : World} {A : Around} {E : Value → Shared → Prop} {s : Shared}
theorem zT_call {a b : Addr} {xs ys : Array Value} {Q : Value → Shared → Prop} (q1 : IsTup s.heap a xs) (q2 : s.heap.IsList b ys)
    (go : ∀ g, IsZip g (s.heap.objs.size + 4) (s.heap.objs.size + 2) (s.heap.objs.size + 3) .none → IsPair g (s.heap.objs.size + 2) (.ref s.heap.objs.size) (.ref (s.heap.objs.size + 1)) → IsPair g (s.heap.objs.size + 3) .none .none →
      IsTupIter g s.heap.objs.size a 0 → g.IsListIter (s.heap.objs.size + 1) b 0 → (∀ c o, s.heap.get? c = some o → g.get? c = some o) → Q (.ref (s.heap.objs.size + 4)) { s with heap := g }) :
    wpAny (model prog w) A (call (.type "zip") [.ref a, .ref b]) Q E s := by
  refine callType_new F.called_zip (by decide) (F.typeCall_zip_2 _ _) (F.newCall_zip_2 _ _) (fun obj => F.args_object_init_3 obj _ _) F.entry_zip_new (zT_meets a b xs ys) ⟨q1, q2, ?_⟩
  have n1 : (zT1 s.heap a).objs.size = s.heap.objs.size + 1 := Heap.size_push ..
  have n2 : (zT2 s.heap a b).objs.size = s.heap.objs.size + 2 := by rw [Heap.size_push, n1]
  have n3 : (zT3 s.heap a b).objs.size = s.heap.objs.size + 3 := by rw [Heap.size_push, n2]
  have n4 : (zT4 s.heap a b).objs.size = s.heap.objs.size + 4 := by rw [Heap.size_push, n3]
  have e5 : (zT5 s.heap a b).get? (zT4 s.heap a b).objs.size = some _ := Heap.get?_push_size _ rfl
  have e4 : (zT5 s.heap a b).get? (zT3 s.heap a b).objs.size = some _ := Heap.get?_push_of_some _ (Heap.get?_push_size _ rfl)
  have e3 : (zT5 s.heap a b).get? (zT2 s.heap a b).objs.size = some _ := Heap.get?_push_of_some _ (Heap.get?_push_of_some _ (Heap.get?_push_size _ rfl))
  have e2 : (zT5 s.heap a b).get? (zT1 s.heap a).objs.size = some _ := Heap.get?_push_of_some _ (Heap.get?_push_of_some _ (Heap.get?_push_of_some _ (Heap.get?_push_size _ rfl)))
  have e1 : (zT5 s.heap a b).get? s.heap.objs.size = some _ := Heap.get?_push_of_some _ (Heap.get?_push_of_some _ (Heap.get?_push_of_some _ (Heap.get?_push_of_some _ (Heap.get?_push_size _ rfl))))
  show _ ∧ _
  rw [n2, n3, n4] at e5
  rw [n1, n2] at e3
  rw [n3] at e4
  rw [n1] at e2
  rw [n4]
  exact ⟨⟨_, e5, rfl⟩, go _ e5 e3 e4 ⟨_, e1, rfl, rfl⟩ ⟨_, e2, rfl, rfl⟩ fun c o q => Heap.get?_push_of_some _ (Heap.get?_push_of_some _ (Heap.get?_push_of_some _ (Heap.get?_push_of_some _ (Heap.get?_push_of_some _ q))))⟩
end
def Itzt (K : PySem.W.Frag) (a b : Addr) : It :=
  ⟨fun i H => ∃ xs ys x y, SqT K H a xs ∧ SqL K H b ys ∧ xs[i]? = some x ∧ ys[i]? = some y, fun i H x H' => ∃ y z t, (∀ xs, SqT K H a xs → xs[i]? = some y) ∧ (∀ xs, SqL K H b xs → xs[i]? = some z) ∧ H t = none ∧ x = .ref t ∧ H' = upd H t (.tup [y, z]), fun i H => ∃ xs ys, SqT K H a xs ∧ SqL K H b ys ∧ (xs.length ≤ i ∨ ys.length ≤ i)⟩
theorem ne_tupI {h : Heap} {l c : Addr} {xs : Array Value} (hl : IsTup h l xs) (hc : ∃ o, h.get? c = some o ∧ o.cls ≠ .type "tuple") : l ≠ c := by
  obtain ⟨o, ho, n⟩ := hc
  obtain ⟨u, hu, cu, _⟩ := hl
  intro z
  rw [z, ho] at hu
  cases hu
  exact n cu
theorem turn_zipT {P : Program} {w : World} {K : PySem.W.Frag} {elts : List Expr} {x1} {tp : Pos} (a b : Addr) (n : Nat) : Turn P w K (.Tuple elts x1 tp) (Itzt K a b) [n + 4, n + 2, n + 3, n, n + 1] (n + 4) (fun i h => IsZip h (n + 4) (n + 2) (n + 3) .none ∧ IsPair h (n + 2) (.ref n) (.ref (n + 1)) ∧ (∃ u v, IsPair h (n + 3) u v) ∧ IsTupIter h n a i ∧ h.IsListIter (n + 1) b i ∧ a ≠ n + 3) where
  mem := by simp
  obj := fun i h st c hc => by
    obtain ⟨h1, h2, ⟨u, v, h3⟩, ⟨o4, q4, c4, d4⟩, ⟨o5, q5, c5, d5⟩, _⟩ := st
    simp only [List.mem_cons, List.not_mem_nil, or_false] at hc
    rcases hc with z | z | z | z | z
    · subst z
      exact ⟨_, h1, fun v z => by
        have z' : Data.fields _ = Data.cell v := z
        cases z'⟩
    · subst z
      exact ⟨_, h2, fun v z => by
        have z' : Data.seq _ = Data.cell v := z
        cases z'⟩
    · subst z
      exact ⟨_, h3, fun v z => by
        have z' : Data.seq _ = Data.cell v := z
        cases z'⟩
    · subst z
      exact ⟨o4, q4, fun v z => by rw [d4] at z; cases z⟩
    · subst z
      exact ⟨o5, q5, fun v z => by rw [d5] at z; cases z⟩
  keep := fun i h h' st k => by
    obtain ⟨h1, h2, ⟨u, v, h3⟩, ⟨o4, q4, r4⟩, h5, nn⟩ := st
    exact ⟨k _ (by simp) _ h1, k _ (by simp) _ h2, ⟨u, v, k _ (by simp) _ h3⟩, ⟨o4, k n (by simp) o4 q4, r4⟩, h5.at fun o q => k (n + 1) (by simp) o q, nn⟩
  item := by
    intro X hP hw hK hc i pins s σ H E I hf st hg
    subst hP hw hK
    obtain ⟨xs, ys, x, y, hq1, hq2, hx, hy⟩ := hg
    obtain ⟨its, rv, pl, hz⟩ := I.tuple hq1
    obtain ⟨u, hu, ru⟩ := rv.get hx
    obtain ⟨its2, rv2, pl2, hz2⟩ := I.list hq2
    obtain ⟨u2, hu2, ru2⟩ := rv2.get hy
    obtain ⟨h1, h2, ⟨v1, v2, h3⟩, h4, h5, nn⟩ := st
    have c1 : ∃ o, s.heap.get? (n + 4) = some o ∧ o.cls ≠ .type "list" := ⟨_, h1, by show Value.type "zip" ≠ Value.type "list"; decide⟩
    have c3 : ∃ o, s.heap.get? (n + 3) = some o ∧ o.cls ≠ .type "list" := ⟨_, h3, by show Value.type "tuple" ≠ Value.type "list"; decide⟩
    have c4 : ∃ o, s.heap.get? n = some o ∧ o.cls ≠ .type "list" := by obtain ⟨o, q, c, _⟩ := h4; exact ⟨o, q, by rw [c]; decide⟩
    have c5 : ∃ o, s.heap.get? (n + 1) = some o ∧ o.cls ≠ .type "list" := by obtain ⟨o, q, c, _⟩ := h5; exact ⟨o, q, by rw [c]; decide⟩
    have d1 : ∃ o, s.heap.get? (n + 4) = some o ∧ o.cls ≠ .type "tuple" := ⟨_, h1, by show Value.type "zip" ≠ Value.type "tuple"; decide⟩
    have d4 : ∃ o, s.heap.get? n = some o ∧ o.cls ≠ .type "tuple" := by obtain ⟨o, q, c, _⟩ := h4; exact ⟨o, q, by rw [c]; decide⟩
    have d5 : ∃ o, s.heap.get? (n + 1) = some o ∧ o.cls ≠ .type "tuple" := by obtain ⟨o, q, c, _⟩ := h5; exact ⟨o, q, by rw [c]; decide⟩
    have D : ZipApart (n + 4) (n + 2) (n + 3) n (n + 1) a b := ⟨ane (by omega), ane (by omega), ane (by omega), ane (by omega), ane (by omega), ane (by omega), ane (by omega), ane (by omega), ane (by omega), ane (by omega), ne_tupI pl d1, nn, ne_tupI pl d4, ne_tupI pl d5, ne_list pl2.isList c1, ne_list pl2.isList c3, ne_list pl2.isList c4, ne_list pl2.isList c5⟩
    have hel : n + 4 < s.heap.objs.size := Heap.lt_size h1
    refine zipT_item D h1 h2 h3 h4 h5 pl pl2.isList (x := u) (y := u2) (by simpa using hu) (by simpa using hu2) fun g1 a1 a2 a3 a4 a5 a7 => ⟨_, rfl, ?_⟩
    refine wpAny_letOwnedTupleGo_zip a1 fun g2 b1 hs2 => ?_
    have hs2' : Heap.SameBut (n + 4) g1 g2 := hs2
    have hnone : H s.heap.objs.size = none := I.hok.fresh (Nat.le_refl _)
    have kk : ∀ c o, c ∉ [n + 4, n + 2, n + 3, n, n + 1] → s.heap.get? c = some o → g2.get? c = some o := fun c o hc q => by
      simp only [List.mem_cons, List.not_mem_nil, or_false, not_or] at hc
      exact (hs2'.2 c hc.1).trans (a7 c o hc.1 hc.2.2.1 hc.2.2.2.1 hc.2.2.2.2 q)
    refine ⟨.ref s.heap.objs.size, upd H s.heap.objs.size (.tup [x, y]), I.turnedN (t' := s.toks) kk rfl ?_ hf, rfl, ⟨x, y, _, fun zs hz => by rw [I.tuple_inj hz hq1]; exact hx, fun zs hz => by rw [I.list_inj hz hq2]; exact hy, hnone, rfl, rfl⟩, ⟨b1, ?_, ⟨_, _, (hs2'.2 _ (ane (by omega))).trans a2⟩, a3.extBut hs2'.extBut (ane (by omega)), a4.extBut hs2'.extBut (ane (by omega)), nn⟩, fun c hc => ?_⟩
    · exact ⟨by show 2 ≤ sizeLine; decide, [u, u2], .cons ru (.cons ru2 .nil), ⟨_, (hs2'.2 _ (ane (by omega))).trans a5, rfl, _, rfl⟩⟩
    · exact (hs2'.2 _ (ane (by omega))).trans (a7 _ _ (ane (by omega)) (ane (by omega)) (ane (by omega)) (ane (by omega)) h2)
    · have hb0 : H c = none := (hf c hc).1
      have hbl : c < s.heap.objs.size := by
        simp only [List.mem_cons, List.not_mem_nil, or_false] at hc
        have hel' : (n : Nat) + 4 < s.heap.objs.size := hel
        rcases hc with z | z | z | z | z <;> rw [z] <;> show (_ : Nat) < s.heap.objs.size <;> omega
      rw [upd_ne (Nat.ne_of_lt hbl)]
      exact hb0
  done := by
    intro X hP hw hK hc i pins s σ H E I hf st hg
    subst hP hw hK
    obtain ⟨xs, ys, hq1, hq2, hx⟩ := hg
    obtain ⟨its, rv, pl, hz⟩ := I.tuple hq1
    obtain ⟨its2, rv2, pl2, hz2⟩ := I.list hq2
    obtain ⟨h1, h2, ⟨v1, v2, h3⟩, h4, h5, nn⟩ := st
    have l1 := rv.length
    have l2 := rv2.length
    have c1 : ∃ o, s.heap.get? (n + 4) = some o ∧ o.cls ≠ .type "list" := ⟨_, h1, by show Value.type "zip" ≠ Value.type "list"; decide⟩
    have c3 : ∃ o, s.heap.get? (n + 3) = some o ∧ o.cls ≠ .type "list" := ⟨_, h3, by show Value.type "tuple" ≠ Value.type "list"; decide⟩
    have c4 : ∃ o, s.heap.get? n = some o ∧ o.cls ≠ .type "list" := by obtain ⟨o, q, c, _⟩ := h4; exact ⟨o, q, by rw [c]; decide⟩
    have c5 : ∃ o, s.heap.get? (n + 1) = some o ∧ o.cls ≠ .type "list" := by obtain ⟨o, q, c, _⟩ := h5; exact ⟨o, q, by rw [c]; decide⟩
    have d1 : ∃ o, s.heap.get? (n + 4) = some o ∧ o.cls ≠ .type "tuple" := ⟨_, h1, by show Value.type "zip" ≠ Value.type "tuple"; decide⟩
    have d4 : ∃ o, s.heap.get? n = some o ∧ o.cls ≠ .type "tuple" := by obtain ⟨o, q, c, _⟩ := h4; exact ⟨o, q, by rw [c]; decide⟩
    have d5 : ∃ o, s.heap.get? (n + 1) = some o ∧ o.cls ≠ .type "tuple" := by obtain ⟨o, q, c, _⟩ := h5; exact ⟨o, q, by rw [c]; decide⟩
    have D : ZipApart (n + 4) (n + 2) (n + 3) n (n + 1) a b := ⟨ane (by omega), ane (by omega), ane (by omega), ane (by omega), ane (by omega), ane (by omega), ane (by omega), ane (by omega), ane (by omega), ane (by omega), ne_tupI pl d1, nn, ne_tupI pl d4, ne_tupI pl d5, ne_list pl2.isList c1, ne_list pl2.isList c3, ne_list pl2.isList c4, ne_list pl2.isList c5⟩
    refine zipT_end (I.ok.hd hc) D h1 h2 h3 h4 h5 pl pl2.isList ?_ fun g1 a7 => ⟨rfl, I.turnedS (t' := s.toks) (ch := [n + 4, n + 2, n + 3, n, n + 1]) (fun c o hc q => ?_) hf⟩
    · rcases hx with z | z
      · exact .inl (by simp; omega)
      · exact .inr (by simp; omega)
    · simp only [List.mem_cons, List.not_mem_nil, or_false, not_or] at hc
      exact a7 c o hc.1 hc.2.2.1 hc.2.2.2.1 hc.2.2.2.2 q
  self := fun _ _ _ _ _ ⟨hz, _⟩ h => wpAny_pyIter_zip hz h
section
variable {X : Cx} {e e2 : Expr} {te te2 : TE} {p pos : Pos}
def iZipT (K : PySem.W.Frag) (tl tl2 : TE) : TI := fun σ H R => tl σ H fun x H1 => tl2 σ H1 fun y H2 => ∃ a b, x = .ref a ∧ y = .ref b ∧ (∃ xs, SqT K H2 a xs) ∧ (∃ ys, SqL K H2 b ys) ∧ R (Itzt K a b) H2
theorem pi_zipT {elts : List Expr} {x1} {tp : Pos} (hg : Gl X "zip") (hm : X.mg "zip" = none) (he : PE X e te) (he2 : PE X e2 te2) (hs : starEach [e, e2] X.env = (false, eval e X.env) :: starEach [e2] X.env := by rfl) (hs2 : starEach [e2] X.env = (false, eval e2 X.env) :: starEach [] X.env := by rfl) : PI X (.Tuple elts x1 tp) (.Call (.Name "zip" p) [e, e2] [] pos) (iZipT X.K te te2) := by
  intro pins s σ H R I h
  refine wpAny_Call_Name_kw (ld_blt I hg hm PyProof.Rows.boot_zip ?_ (by decide) (by decide))
  refine PyProof.Rows.callWith_type1 (thn (pa_cons he (pa_cons he2 pa_nil hs2) hs pos pins s σ H (fun vs H2 => ∃ a b, vs = [.ref a, .ref b] ∧ (∃ xs, SqT X.K H2 a xs) ∧ (∃ ys, SqL X.K H2 b ys) ∧ R (Itzt X.K a b) H2) I ?_) fun us s1 ⟨vs, H1, I1, r1, q1⟩ => ?_) hs (by rw [hs2]; rfl)
  · show te σ H fun x H1 => te2 σ H1 fun y H2 => _
    have e3 : (fun x H1 => te2 σ H1 fun y H2 => tNil σ H2 fun xs H3 => (fun vs H2 => ∃ a b, vs = [V.ref a, V.ref b] ∧ (∃ xs, SqT X.K H2 a xs) ∧ (∃ ys, SqL X.K H2 b ys) ∧ R (Itzt X.K a b) H2) (x :: y :: xs) H3) = fun x H1 => te2 σ H1 fun y H2 => ∃ a b, x = V.ref a ∧ y = V.ref b ∧ (∃ xs, SqT X.K H2 a xs) ∧ (∃ ys, SqL X.K H2 b ys) ∧ R (Itzt X.K a b) H2 := by
      funext x H1
      congr 1
      funext y H2
      simp only [tNil, List.cons.injEq, and_true, and_assoc]
    have := h
    unfold iZipT at this
    rw [← e3] at this
    exact this
  · obtain ⟨a, b, rfl, ⟨xs, hq⟩, ⟨ys, hq2⟩, hR⟩ := q1
    obtain ⟨u, u2, rfl, ru, ru2⟩ := vals2 r1
    cases ru
    cases ru2
    obtain ⟨its, rv, pl, hz⟩ := I1.tuple hq
    obtain ⟨its2, rv2, pl2, hz2⟩ := I1.list hq2
    refine zT_call pl pl2.isList fun h' a1 a2 a3 a4 a5 hk => ?_
    refine wpAny_pyIter_zip a1 ?_
    have la : a < s1.heap.objs.size := pl.lt
    refine ⟨s1.heap.objs.size + 4, [s1.heap.objs.size + 4, s1.heap.objs.size + 2, s1.heap.objs.size + 3, s1.heap.objs.size, s1.heap.objs.size + 1], _, _, H1, rfl, I1.kept (t' := s1.toks) hk, turn_zipT a b _, ⟨a1, a2, ⟨_, _, a3⟩, a4, a5, fun z => by
      have la' : @LT.lt Nat instLTNat a s1.heap.objs.size := la
      have z' : @Eq Nat a (s1.heap.objs.size + 3) := z
      omega⟩, fun c hc => ?_, hR⟩
    have : s1.heap.objs.size ≤ c := by
      simp only [List.mem_cons, List.not_mem_nil, or_false] at hc
      rcases hc with z | z | z | z | z <;> rw [z] <;> show s1.heap.objs.size ≤ (_ : Nat) <;> omega
    exact I1.fpOk this (I1.hok.fresh this)
end
end L2
namespace L2
open PySem PySem.Spec PyProof.Rows
def KTup (K : PySem.W.Frag) (a : Addr) (xs : List V) : Prop := ∃ (o : Obj) (its : Array Value) (n : Nat), K.lookup a = some o ∧ o.cls = .type "tuple" ∧ o.data = .seq its n ∧ its.size ≤ sizeLine ∧ Vals xs its.toList
theorem KTup.sq {K : PySem.W.Frag} {a : Addr} {xs : List V} (h : KTup K a xs) (H : Hp) : SqT K H a xs := .inr h
structure Met (P : Program) (w : World) (K : PySem.W.Frag) (mg : Str → Option Value) (base : Heap) (CX : CXT) (C : Addr) (m : Str) (k : Nat) (ps : List Str) (sp : Sp) : Prop where
  ex : ∃ (f : Addr) (fd : FuncData), FnOk P w K mg base CX k f fd ps sp ∧ Binds K fd ps [] ∧ Meth K C m f
structure MkD (P : Program) (w : World) (K : PySem.W.Frag) (mg : Str → Option Value) (base : Heap) (C : Addr) (k : Nat) (ps : List Str) (sp : Sp) : Prop where
  ex : ∃ (f : Addr) (fd : FuncData), FnOk P w K mg base CX0 k f fd ps sp ∧ Binds K fd ps [] ∧ Mk K C f
def tMethX (C : Addr) (m : Str) (sp : Sp) (EE : St → XK) (ta : TE) (t : TA) : TE := fun σ H Q => ta σ H fun x H1 => ∃ a dx fs, x = .ref a ∧ H1 a = some (.ins C dx fs) ∧ fs.lookup m = none ∧ t σ H1 fun vs H2 => sp (x :: vs) H2 Q (EE σ)
section
variable {X : Cx} {CX : CXT} {C : Addr} {x m : Str} {j k : Nat} {ps : List Str} {sp : Sp} {p pos apos : Pos} {o e : Expr} {es : List Expr} {ta : TE} {t : TA} {E : XK} {EE : St → XK}
theorem pe_met {pl : Sem Bool} (hx : Passes CX X E) (c : Cls X.K C) (M : Met X.prog X.w X.K X.mg X.base CX C m j ps sp) (hr : Room k X.A) (ho : PE X o ta) (ha : PA X (e :: es) t) (hjk : j ≤ k := by decide)
    (hst : starEach (e :: es) X.env = (false, eval e X.env) :: starEach es X.env := by rfl) (hpl : (backTo pos (starEach es X.env)).any (·.1) = false := by rfl)
    (ht : eval (.Call (.Attribute o m apos) (e :: es) [] pos) X.env = (do
      let ov ← eval o X.env
      standAt apos.atName
      let (f, first) ← holding [ov] (getMethod ov m pl)
      callWith pos f first (backTo pos (starEach (e :: es) X.env)) (backToKw pos (keywordEach [] X.env))) := by rfl) :
    PE X (.Call (.Attribute o m apos) (e :: es) [] pos) (tMeth C m sp [] E ta t) := by
  obtain ⟨f, fd, F, b, hm⟩ := M.ex
  exact pe_meth ho c hm F (hr.mono hjk) b .nil hx ha hst hpl ht
theorem pe_metX {pl : Sem Bool} (hx : PassX X EE) (c : Cls X.K C) (M : Met X.prog X.w X.K X.mg X.base (CXE X.prog X.w) C m j ps sp) (hr : Room k X.A) (ho : PE X o ta) (ha : PA X (e :: es) t) (hjk : j ≤ k := by decide)
    (hst : starEach (e :: es) X.env = (false, eval e X.env) :: starEach es X.env := by rfl) (hpl : (backTo pos (starEach es X.env)).any (·.1) = false := by rfl)
    (ht : eval (.Call (.Attribute o m apos) (e :: es) [] pos) X.env = (do
      let ov ← eval o X.env
      standAt apos.atName
      let (f, first) ← holding [ov] (getMethod ov m pl)
      callWith pos f first (backTo pos (starEach (e :: es) X.env)) (backToKw pos (keywordEach [] X.env))) := by rfl) :
    PE X (.Call (.Attribute o m apos) (e :: es) [] pos) (tMethX C m sp EE ta t) := by
  obtain ⟨f, fd, F, hb, hm⟩ := M.ex
  intro pins s σ H Q I h
  refine PySem.W.methodCall_KW (pl := pl) (thn (ho pins s σ H _ I h) fun u s1 ⟨x, H1, I1, rx, a, dx, fs, ex, ea, l, q⟩ => ?_) ht
  subst ex
  obtain rfl : u = Value.ref a := rx
  refine getmeth_ok I1 ea c hm l ?_
  refine PySem.W.callWith_K (first := [.ref a]) (h₀ := X.base) I.ok.mod.kin hm.kp (thn (ha pos pins s1 σ H1 _ I1 q) fun us s2 ⟨vs, H2, I2, r, q2⟩ => ⟨I2.kIn, ?_⟩) hst hpl
  have r2 : Vals (V.ref a :: vs) (Value.ref a :: us) := .cons rfl r
  have hl : (Value.ref a :: us).length = ps.length := by rw [← r2.length]; exact F.len _ _ _ _ q2
  have hbs : BindsTo s2 fd ⟨Value.ref a :: us, []⟩ (ps.zip (Value.ref a :: us)) := by
    have := hb s2 (Value.ref a :: us) I2.kIn (by rw [List.append_nil]; exact hl)
    rwa [List.append_nil] at this
  refine wpAny_call (codeAny_mono (F.run X.A X.stack s2 H2 ⟨Value.ref a :: us, []⟩ (Value.ref a :: us) (V.ref a :: vs) Q (EE σ) (hr.mono hjk) I2.env0 hbs r2 q2) fun r s' hq => ?_)
  cases r with
  | error e => exact hx pins σ H2 s2 e s' I2 hq
  | ok fl =>
    cases fl with
    | ret u => exact I2.after hq
    | next => exact False.elim hq
    | brk => exact False.elim hq
    | cont => exact False.elim hq
theorem pe_mk (D : MkD X.prog X.w X.K X.mg X.base C j ps sp) (hr : Room k X.A) (hg : Gl X x) (hm : X.mg x = some (.ref C)) (ha : PA X (e :: es) t) (hjk : j + 1 ≤ k := by decide) (hdb : (x == ("__debug__" : Str)) = false := by decide)
    (he : starEach (e :: es) X.env = (false, eval e X.env) :: starEach es X.env := by rfl) (hpl : (backTo pos (starEach es X.env)).any (·.1) = false := by rfl) : PE X (.Call (.Name x p) (e :: es) [] pos) (tMake C sp [] E0 t) := by
  obtain ⟨f, fd, F, b, M⟩ := D.ex
  exact pe_make M F (hr.mono hjk) hg hm b .nil pass0 ha hdb he hpl
theorem tab_one {P : Program} {w : World} {K : PySem.W.Frag} {mg : Str → Option Value} {base : Heap} {CX : CXT} {y : Str} {g : Addr} {n : Nat} (hm : mg y = some (.ref g))
    (D : ∃ (f : Addr) (fd : FuncData), FnOk P w K mg base CX n f fd ps sp ∧ Binds K fd ps [] ∧ PySem.W.keepIn K (.ref f) = true ∧ mg y = some (.ref f)) : TabOk P w K mg base CX n (fun h s => h = g ∧ s = sp) := ⟨fun h s ⟨e1, e2⟩ => by
  subst e1 e2
  obtain ⟨f, fd, F, b, kp, m⟩ := D
  rw [hm] at m
  cases m
  exact ⟨fd, ps, F, b, kp⟩⟩
end
end L2
namespace L2
open PySem PySem.Spec PyProof.Rows
theorem compT {K : PySem.W.Frag} {a : Addr} {caps : List Nat} {tt : TT} {te : TE} {σ : St} {H : Hp} {Q : VK} (xs : List V) (Pv : Nat → List V → Hp → Prop) (hn : xs.length ≤ sizeLine) (h0 : Pv 0 [] H) (hl : ∀ i ys H, Pv i ys H → SqT K H a xs)
    (hs : ∀ i (x : V) ys H, xs[i]? = some x → Pv i ys H → tt (some x :: capV caps σ) H fun b H4 => if b = true then te (some x :: capV caps σ) H4 fun v H5 => Pv (i + 1) (ys ++ [v]) H5 else Pv (i + 1) ys H4)
    (hd : ∀ ys H, Pv xs.length ys H → ∀ p, H p = none → Q (.ref p) (upd H p (.lst ys))) : CompIt (Itt K a) caps tt te σ H Q := by
  refine ⟨xs.length, fun i ys H => i ≤ xs.length ∧ Pv i ys H, hn, ⟨Nat.zero_le _, h0⟩, ?_⟩
  rintro i ys H2 ⟨hi, p⟩
  have hS := hl i ys H2 p
  by_cases hlt : i < xs.length
  · have hv : xs[i]? = some xs[i] := List.getElem?_eq_getElem hlt
    refine .inr ⟨⟨_, _, hS, hv⟩, hlt, ?_⟩
    rintro y H3 ⟨rfl, hy⟩
    have hxy : y = xs[i] := (Option.some.inj (hv.symm.trans (hy _ hS))).symm
    subst hxy
    have key := hs i _ ys H3 hv p
    have e2 : (fun (b : Bool) (H4 : Hp) => if b = true then te (some xs[i] :: capV caps σ) H4 fun v H5 => Pv (i + 1) (ys ++ [v]) H5 else Pv (i + 1) ys H4) = fun b H4 => if b = true then te (some xs[i] :: capV caps σ) H4 fun v H5 => i + 1 ≤ xs.length ∧ Pv (i + 1) (ys ++ [v]) H5 else i + 1 ≤ xs.length ∧ Pv (i + 1) ys H4 := by
      funext b H4
      have z : i + 1 ≤ xs.length := hlt
      simp only [z, true_and]
    rw [e2] at key
    exact key
  · have e : i = xs.length := by omega
    subst e
    exact .inl ⟨⟨_, hS, Nat.le_refl _⟩, hd ys H2 p⟩
theorem comp2ZT {K : PySem.W.Frag} {a b : Addr} {caps : List Nat} {tt : TT} {te : TE} {σ : St} {H : Hp} {Q : VK} (xs zs : List V) (Pv : Nat → List V → Hp → Prop) (hn : xs.length ≤ sizeLine) (hnm : xs.length = zs.length) (h0 : Pv 0 [] H) (hl : ∀ i ys H, Pv i ys H → SqT K H a xs ∧ SqL K H b zs)
    (hs : ∀ i (x y : V) ys H H', xs[i]? = some x → zs[i]? = some y → Pv i ys H → Same H H' → tt (some x :: some y :: capV caps σ) H' fun t H4 => if t = true then te (some x :: some y :: capV caps σ) H4 fun v H5 => Pv (i + 1) (ys ++ [v]) H5 else Pv (i + 1) ys H4)
    (hd : ∀ ys H, Pv xs.length ys H → ∀ p, H p = none → Q (.ref p) (upd H p (.lst ys))) : CompIt2 (Itzt K a b) caps (gTup K 2 (gCons (gName 0) (gCons (gName 1) gNil))) tt te σ H Q := by
  refine ⟨xs.length, fun i ys H => i ≤ xs.length ∧ Pv i ys H, hn, ⟨Nat.zero_le _, h0⟩, ?_⟩
  rintro i ys H2 ⟨hi, p⟩
  obtain ⟨hS, hS2⟩ := hl i ys H2 p
  by_cases hlt : i < xs.length
  · have hv : xs[i]? = some xs[i] := List.getElem?_eq_getElem hlt
    have hlt2 : i < zs.length := by omega
    have hv2 : zs[i]? = some zs[i] := List.getElem?_eq_getElem hlt2
    refine .inr ⟨⟨_, _, _, _, hS, hS2, hv, hv2⟩, hlt, ?_⟩
    rintro y H3 ⟨y, z, t, hy, hz, ht, rfl, rfl⟩ o1 o2
    have hy := hy _ hS
    rw [hv] at hy
    cases hy
    have hz := hz _ hS2
    rw [hv2] at hz
    cases hz
    refine ⟨t, _, rfl, SqT.of upd_same, rfl, _, _, rfl, _, _, rfl, rfl, ⟨_, _, rfl⟩, ?_⟩
    have key := hs i _ _ ys H2 _ hv hv2 p (same_new ht (.tup [xs[i], zs[i]]))
    have e2 : (fun (t : Bool) (H4 : Hp) => if t = true then te (some xs[i] :: some zs[i] :: capV caps σ) H4 fun v H5 => Pv (i + 1) (ys ++ [v]) H5 else Pv (i + 1) ys H4) = fun t H4 => if t = true then te (some xs[i] :: some zs[i] :: capV caps σ) H4 fun v H5 => i + 1 ≤ xs.length ∧ Pv (i + 1) (ys ++ [v]) H5 else i + 1 ≤ xs.length ∧ Pv (i + 1) ys H4 := by
      funext t H4
      have z : i + 1 ≤ xs.length := hlt
      simp only [z, true_and]
    rw [e2] at key
    exact key
  · have e : i = xs.length := by omega
    subst e
    exact .inl ⟨⟨_, _, hS, hS2, .inl (Nat.le_refl _)⟩, hd ys H2 p⟩
end L2
namespace K93
/- Dr.DegP.zero Dr.DegP.pq Dr.emod_same Dr.same_of -/
open PySem L2
set_option maxHeartbeats 1000000
section
def top (i : Nat) : Stmt := PySem.Challenge.pw_deeprests_k93_whole_parts_by_text.main.body.getD i (.Pass ⟨0, 0, 0, 0⟩)
def inner (s : Stmt) (j : Nat) : Stmt := match s with | .ClassDef _ _ _ body _ _ _ _ _ _ _ => body.getD j (.Pass ⟨0, 0, 0, 0⟩) | _ => .Pass ⟨0, 0, 0, 0⟩
def l_WANTED : List (Str × Tok × Value) := [("poly", 803, .ref 420), ("times", 806, .ref 421), ("seen", 810, .ref 422), ("slope", 815, .ref 423), ("drop", 818, .ref 424), ("names", 820, .ref 425), ("show", 821, .ref 426), ("solve", 823, .ref 427), ("count", 826, .ref 428), ("single", 829, .ref 429), ("root", 832, .ref 430), ("roots", 836, .ref 431), ("border", 839, .ref 432), ("small", 841, .ref 433), ("parts", 845, .ref 434)]
theorem w_WANTED_poly : atK l_WANTED "poly" = some (.ref 420) := by decide +kernel
theorem w_WANTED_parts : atK l_WANTED "parts" = some (.ref 434) := by decide +kernel
def l_MADE : List (Str × Tok × Value) := [("poly", 997, .ref 469), ("times", 998, .ref 476), ("seen", 999, .ref 483), ("slope", 1000, .ref 490)]
theorem w_MADE_poly : atK l_MADE "poly" = some (.ref 469) := by decide +kernel
theorem w_MADE_parts : atK l_MADE "parts" = none := by decide +kernel
def l_TOLD : List (Str × Tok × Value) := [("show", 1006, .ref 497), ("solve", 1007, .ref 502), ("count", 1008, .ref 509), ("single", 1009, .ref 516), ("root", 1010, .ref 523), ("roots", 1011, .ref 528), ("border", 1012, .ref 533), ("small", 1013, .ref 540), ("parts", 1014, .ref 545)]
theorem w_TOLD_parts : atK l_TOLD "parts" = some (.ref 545) := by decide +kernel
abbrev s_is_prime : Stmt := top 14
theorem S_is_prime : FnScope ["thing", "divisor"] ["thing"] (defScope s_is_prime) := ⟨rfl, rfl, rfl, by decide +kernel, rfl, by decide +kernel, by decide +kernel⟩
abbrev s_power_of : Stmt := top 16
theorem S_power_of : FnScope ["p", "e", "power", "turn"] ["p", "e"] (defScope s_power_of) := ⟨rfl, rfl, rfl, by decide +kernel, rfl, by decide +kernel, by decide +kernel⟩
abbrev s_inverse_by_prime : Stmt := top 17
theorem S_inverse_by_prime : FnScope ["p", "x", "fitting"] ["p", "x"] (defScope s_inverse_by_prime) := ⟨rfl, rfl, rfl, by decide +kernel, rfl, by decide +kernel, by decide +kernel⟩
abbrev s_inverse_of : Stmt := top 18
theorem S_inverse_of : FnScope ["p", "e", "x", "power", "y", "reached"] ["p", "e", "x"] (defScope s_inverse_of) := ⟨rfl, rfl, rfl, by decide +kernel, rfl, by decide +kernel, by decide +kernel⟩
abbrev s_degree_of : Stmt := top 31
theorem S_degree_of : FnScope ["f", "degree", "place", "number"] ["f"] (defScope s_degree_of) := ⟨rfl, rfl, rfl, by decide +kernel, rfl, by decide +kernel, by decide +kernel⟩
abbrev s_poly_product : Stmt := top 32
theorem S_poly_product : FnScope ["f", "g", "product", "place", "number", "other_place", "other_number"] ["f", "g"] (defScope s_poly_product) := ⟨rfl, rfl, rfl, by decide +kernel, rfl, by decide +kernel, by decide +kernel⟩
abbrev s_rests_of : Stmt := top 39
theorem S_rests_of : FnScope ["p", "f"] ["p", "f"] (defScope s_rests_of) := ⟨rfl, rfl, rfl, by decide +kernel, rfl, by decide +kernel, by decide +kernel⟩
abbrev s_poly_difference : Stmt := top 40
theorem S_poly_difference : FnScope ["f", "g", "longest", "padded", "place", "number"] ["f", "g"] (defScope s_poly_difference) := ⟨rfl, rfl, rfl, by decide +kernel, rfl, by decide +kernel, by decide +kernel⟩
abbrev s_divided_by_prime : Stmt := top 41
theorem S_divided_by_prime : FnScope ["p", "f", "g", "degree", "inverse", "quotient", "rest", "place", "times", "step"] ["p", "f", "g"] (defScope s_divided_by_prime) := ⟨rfl, rfl, rfl, by decide +kernel, rfl, by decide +kernel, by decide +kernel⟩
abbrev s_inverse_beside : Stmt := top 42
theorem S_inverse_beside : FnScope ["p", "h", "g", "ahead", "row", "divided", "following"] ["p", "h", "g"] (defScope s_inverse_beside) := ⟨rfl, rfl, rfl, by decide +kernel, rfl, by decide +kernel, by decide +kernel⟩
abbrev s_may_part : Stmt := top 43
theorem S_may_part : FnScope ["p", "N", "f", "g", "h"] ["p", "N", "f", "g", "h"] (defScope s_may_part) := ⟨rfl, rfl, rfl, by decide +kernel, rfl, by decide +kernel, by decide +kernel⟩
abbrev s_raised : Stmt := top 44
theorem S_raised : FnScope ["f", "power", "more"] ["f", "power", "more"] (defScope s_raised) := ⟨rfl, rfl, rfl, by decide +kernel, rfl, by decide +kernel, by decide +kernel⟩
abbrev s_parts_at : Stmt := top 45
theorem S_parts_at : FnScope ["p", "N", "f", "g", "h", "g_rests", "h_rests", "inverse", "G", "H", "power", "turn", "missing", "u", "v"] ["p", "N", "f", "g", "h"] (defScope s_parts_at) := ⟨rfl, rfl, rfl, by decide +kernel, rfl, by decide +kernel, by decide +kernel⟩
abbrev s_is_made_of : Stmt := top 61
theorem S_is_made_of : FnScope ["text", "signs"] ["text", "signs"] (defScope s_is_made_of) := ⟨rfl, rfl, rfl, by decide +kernel, rfl, by decide +kernel, by decide +kernel⟩
abbrev s_is_written_number : Stmt := top 62
theorem S_is_written_number : FnScope ["text", "below", "figures"] ["text"] (defScope s_is_written_number) := ⟨rfl, rfl, rfl, by decide +kernel, rfl, by decide +kernel, by decide +kernel⟩
abbrev s_can_be_written : Stmt := top 63
theorem S_can_be_written : FnScope ["number"] ["number"] (defScope s_can_be_written) := ⟨rfl, rfl, rfl, by decide +kernel, rfl, by decide +kernel, by decide +kernel⟩
abbrev s_read_number : Stmt := top 64
theorem S_read_number : FnScope ["text"] ["text"] (defScope s_read_number) := ⟨rfl, rfl, rfl, by decide +kernel, rfl, by decide +kernel, by decide +kernel⟩
abbrev s_read_poly : Stmt := top 65
theorem S_read_poly : FnScope ["text", "words"] ["text"] (defScope s_read_poly) := ⟨rfl, rfl, rfl, by decide +kernel, rfl, by decide +kernel, by decide +kernel⟩
abbrev s_show_poly : Stmt := top 66
theorem S_show_poly : FnScope ["f"] ["f"] (defScope s_show_poly) := ⟨rfl, rfl, rfl, by decide +kernel, rfl, by decide +kernel, by decide +kernel⟩
abbrev s_words_of : Stmt := top 72
theorem S_words_of : FnScope ["row", "words"] ["row"] (defScope s_words_of) := ⟨rfl, rfl, rfl, by decide +kernel, rfl, by decide +kernel, by decide +kernel⟩
abbrev s_read_name : Stmt := top 73
theorem S_read_name : FnScope ["word"] ["word"] (defScope s_read_name) := ⟨rfl, rfl, rfl, by decide +kernel, rfl, by decide +kernel, by decide +kernel⟩
abbrev s_read_depth : Stmt := top 74
theorem S_read_depth : FnScope ["word", "depth"] ["word"] (defScope s_read_depth) := ⟨rfl, rfl, rfl, by decide +kernel, rfl, by decide +kernel, by decide +kernel⟩
abbrev s_made_poly : Stmt := top 76
theorem S_made_poly : FnScope ["p", "things"] ["p", "things"] (defScope s_made_poly) := ⟨rfl, rfl, rfl, by decide +kernel, rfl, by decide +kernel, by decide +kernel⟩
abbrev s_told_parts : Stmt := top 88
theorem S_told_parts : FnScope ["p", "things", "found"] ["p", "things"] (defScope s_told_parts) := ⟨rfl, rfl, rfl, by decide +kernel, rfl, by decide +kernel, by decide +kernel⟩
abbrev s___init__ : Stmt := inner (top 91) 0
theorem S___init__ : FnScope ["self", "p"] ["self", "p"] (defScope s___init__) := ⟨rfl, rfl, rfl, by decide +kernel, rfl, by decide +kernel, by decide +kernel⟩
abbrev s_say : Stmt := inner (top 91) 1
theorem S_say : FnScope ["self", "row", "words", "deed", "things"] ["self", "row"] (defScope s_say) := ⟨rfl, rfl, rfl, by decide +kernel, rfl, by decide +kernel, by decide +kernel⟩
abbrev s_thing_of : Stmt := inner (top 91) 2
theorem S_thing_of : FnScope ["self", "wanted", "word"] ["self", "wanted", "word"] (defScope s_thing_of) := ⟨rfl, rfl, rfl, by decide +kernel, rfl, by decide +kernel, by decide +kernel⟩
abbrev s_standing : Stmt := inner (top 91) 3
theorem S_standing : FnScope ["self", "name"] ["self", "name"] (defScope s_standing) := ⟨rfl, rfl, rfl, by decide +kernel, rfl, by decide +kernel, by decide +kernel⟩
abbrev s_keep : Stmt := inner (top 91) 4
theorem S_keep : FnScope ["self", "name", "polynomial"] ["self", "name", "polynomial"] (defScope s_keep) := ⟨rfl, rfl, rfl, by decide +kernel, rfl, by decide +kernel, by decide +kernel⟩
abbrev s__law_cell : Stmt := top 93
theorem S__law_cell : FnScope ["script", "k"] ["script", "k"] (defScope s__law_cell) := ⟨rfl, rfl, rfl, by decide +kernel, rfl, by decide +kernel, by decide +kernel⟩
abbrev s__law_prime : Stmt := top 94
theorem S__law_prime : FnScope ["cell", "some"] ["cell"] (defScope s__law_prime) := ⟨rfl, rfl, rfl, by decide +kernel, rfl, by decide +kernel, by decide +kernel⟩
abbrev s__law_times : Stmt := top 96
theorem S__law_times : FnScope ["f", "g", "found", "i", "j"] ["f", "g"] (defScope s__law_times) := ⟨rfl, rfl, rfl, by decide +kernel, rfl, by decide +kernel, by decide +kernel⟩
abbrev s__law_power : Stmt := top 97
theorem S__law_power : FnScope ["p", "e", "found", "k"] ["p", "e"] (defScope s__law_power) := ⟨rfl, rfl, rfl, by decide +kernel, rfl, by decide +kernel, by decide +kernel⟩
abbrev s__law_rests : Stmt := top 98
theorem S__law_rests : FnScope ["p", "script", "many", "found", "k", "cell", "root"] ["p", "script"] (defScope s__law_rests) := ⟨rfl, rfl, rfl, by decide +kernel, rfl, by decide +kernel, by decide +kernel⟩
abbrev s__law_built : Stmt := top 99
theorem S__law_built : FnScope ["some", "found", "root"] ["some"] (defScope s__law_built) := ⟨rfl, rfl, rfl, by decide +kernel, rfl, by decide +kernel, by decide +kernel⟩
abbrev s__law_put_off : Stmt := top 100
theorem S__law_put_off : FnScope ["f", "cell", "whole"] ["f", "cell", "whole"] (defScope s__law_put_off) := ⟨rfl, rfl, rfl, by decide +kernel, rfl, by decide +kernel, by decide +kernel⟩
abbrev s__law_shown : Stmt := top 101
theorem S__law_shown : FnScope ["f"] ["f"] (defScope s__law_shown) := ⟨rfl, rfl, rfl, by decide +kernel, rfl, by decide +kernel, by decide +kernel⟩
abbrev s__law_told : Stmt := top 102
theorem S__law_told : FnScope ["desk", "row", "found", "e"] ["desk", "row"] (defScope s__law_told) := ⟨rfl, rfl, rfl, by decide +kernel, rfl, by decide +kernel, by decide +kernel⟩
abbrev s_law : Stmt := top 103
theorem S_law : FnScope ["script", "p", "some", "at", "deep", "one", "other", "whole", "f", "g", "h", "desk", "name", "poly", "e", "power", "due", "refused"] ["script"] (defScope s_law) := ⟨rfl, rfl, rfl, by decide +kernel, rfl, by decide +kernel, by decide +kernel⟩
structure Bi (mg : Str → Option Value) (K : PySem.W.Frag) (w : World) : Prop where
  kd_WANTED : KDict K w 419 l_WANTED
  gd_WANTED : mg "WANTED" = some (.ref 419)
  kd_MADE : KDict K w 546 l_MADE
  gd_MADE : mg "MADE" = some (.ref 546)
  kd_TOLD : KDict K w 547 l_TOLD
  gd_TOLD : mg "TOLD" = some (.ref 547)
  tu_420 : KTup K 420 [.str "new", .str "poly"]
  tu_434 : KTup K 434 [.str "name", .str "name", .str "name", .str "depth"]
  fa_made_poly : mg "made_poly" = some (.ref 469)
  fa_told_parts : mg "told_parts" = some (.ref 545)
  cl_Desk : Cls K (clK K "Desk")
  na_prime : NoAttr K (clK K "Desk") "prime"
  na_kept : NoAttr K (clK K "Desk") "kept"
  b_abs : mg "abs" = none
  b_all : mg "all" = none
  b_bool : mg "bool" = none
  b_enumerate : mg "enumerate" = none
  b_int : mg "int" = none
  b_isinstance : mg "isinstance" = none
  b_len : mg "len" = none
  b_list : mg "list" = none
  b_max : mg "max" = none
  b_min : mg "min" = none
  b_range : mg "range" = none
  b_reversed : mg "reversed" = none
  b_sorted : mg "sorted" = none
  b_str : mg "str" = none
  b_sum : mg "sum" = none
  b_zip : mg "zip" = none
  g_FIGURES : ∃ t, mg "FIGURES" = some (.str "0123456789" t)
  g_GREATEST_DEPTH : ∃ t, mg "GREATEST_DEPTH" = some (.int 60 t)
  g_GREATEST_PRIME : ∃ t, mg "GREATEST_PRIME" = some (.int 97 t)
  g_LETTERS : ∃ t, mg "LETTERS" = some (.str "abcdefghijklmnopqrstuvwxyz" t)
  g_MOST_FIGURES : ∃ t, mg "MOST_FIGURES" = some (.int 60 t)
  g_MOST_LETTERS : ∃ t, mg "MOST_LETTERS" = some (.int 8 t)
  g_MOST_NUMBERS : ∃ t, mg "MOST_NUMBERS" = some (.int 13 t)
  c_Desk : mg "Desk" = some (.ref (clK K "Desk"))
  c_NoDepth : mg "NoDepth" = some (.ref (clK K "NoDepth"))
  c_NoInverse : mg "NoInverse" = some (.ref (clK K "NoInverse"))
  c_NoName : mg "NoName" = some (.ref (clK K "NoName"))
  c_NoParts : mg "NoParts" = some (.ref (clK K "NoParts"))
  c_NoPrime : mg "NoPrime" = some (.ref (clK K "NoPrime"))
  c_NoRow : mg "NoRow" = some (.ref (clK K "NoRow"))
  c_NoSingle : mg "NoSingle" = some (.ref (clK K "NoSingle"))
  c_NoSmall : mg "NoSmall" = some (.ref (clK K "NoSmall"))
  c_NoText : mg "NoText" = some (.ref (clK K "NoText"))
  c_RestError : mg "RestError" = some (.ref (clK K "RestError"))
  c_TooDeep : mg "TooDeep" = some (.ref (clK K "TooDeep"))
  c_TooGreat : mg "TooGreat" = some (.ref (clK K "TooGreat"))
  x_NoParts : ExcK K (clK K "NoParts")
  m_NoParts_RestError : PySem.W.exmOne K (.ref (clK K "NoParts")) (.ref (clK K "RestError")) = some true
  f_NoParts : Xc.ExcC K (clK K "NoParts")
  i_NoParts_Desk : PySem.W.kitOne K (.ref (clK K "NoParts")) (.ref (clK K "Desk")) = some false
  i_NoParts_NoDepth : PySem.W.kitOne K (.ref (clK K "NoParts")) (.ref (clK K "NoDepth")) = some false
  i_NoParts_NoInverse : PySem.W.kitOne K (.ref (clK K "NoParts")) (.ref (clK K "NoInverse")) = some false
  i_NoParts_NoName : PySem.W.kitOne K (.ref (clK K "NoParts")) (.ref (clK K "NoName")) = some false
  i_NoParts_NoParts : PySem.W.kitOne K (.ref (clK K "NoParts")) (.ref (clK K "NoParts")) = some true
  i_NoParts_NoPrime : PySem.W.kitOne K (.ref (clK K "NoParts")) (.ref (clK K "NoPrime")) = some false
  i_NoParts_NoRow : PySem.W.kitOne K (.ref (clK K "NoParts")) (.ref (clK K "NoRow")) = some false
  i_NoParts_NoSingle : PySem.W.kitOne K (.ref (clK K "NoParts")) (.ref (clK K "NoSingle")) = some false
  i_NoParts_NoSmall : PySem.W.kitOne K (.ref (clK K "NoParts")) (.ref (clK K "NoSmall")) = some false
  i_NoParts_NoText : PySem.W.kitOne K (.ref (clK K "NoParts")) (.ref (clK K "NoText")) = some false
  i_NoParts_RestError : PySem.W.kitOne K (.ref (clK K "NoParts")) (.ref (clK K "RestError")) = some true
  i_NoParts_TooDeep : PySem.W.kitOne K (.ref (clK K "NoParts")) (.ref (clK K "TooDeep")) = some false
  i_NoParts_TooGreat : PySem.W.kitOne K (.ref (clK K "NoParts")) (.ref (clK K "TooGreat")) = some false
variable {P : Program} {w : World} {K : PySem.W.Frag} {mg : Str → Option Value} {base : Heap} {f : Addr} {fd : FuncData}
theorem log_small {p : Int} (h : 2 ≤ p ∧ p < 1000) : CDivW 0 p := ⟨by omega, by
  have h1 : p.natAbs < 1000 := by omega
  have h2 : p.natAbs.log2 < 10 := (Nat.log2_lt (by omega)).mpr (Nat.lt_trans h1 (by decide))
  omega⟩
theorem atI_ints {ns : List Int} {i : Int} (h0 : 0 ≤ i) (h1 : i < (ns.length : Int)) : atI (ns.map V.int) i = some (.int (ns.getD i.toNat 0)) := by
  have hk : i.toNat < ns.length := by omega
  have ek : i = ((i.toNat : Nat) : Int) := by omega
  have g : atI (ns.map V.int) ((i.toNat : Nat) : Int) = some (.int (ns.getD i.toNat 0)) := atI_nat (by rw [List.getElem?_map, List.getElem?_eq_getElem hk, List.getD_eq_getElem?_getD, List.getElem?_eq_getElem hk]; rfl)
  rw [← ek] at g
  exact g
theorem getD_in {ns : List Int} {i : Int} (h0 : 0 ≤ i) (h1 : i < (ns.length : Int)) : ns.getD i.toNat 0 ∈ ns := by
  rw [List.getD_eq_getElem?_getD, List.getElem?_eq_getElem (by omega)]
  exact List.getElem_mem _
theorem mod_in (x : Int) {m : Int} (h : 0 < m) : 0 ≤ x % m ∧ x % m < m := ⟨Int.emod_nonneg x (by omega), Int.emod_lt_of_pos x h⟩
def Sh (n : Int) : Prop := Builtin.Int.intBits n ≤ 2 ^ 20 + 64
theorem sh_div {n m : Int} (h : Sh n) (hm : 0 < m) : Sh (n / m) := by
  unfold Sh at *
  have : n / m = n.fdiv m := (Int.fdiv_eq_ediv_of_nonneg n (by omega)).symm
  rw [this]
  exact PyProof.Rows.bits_fdiv h
theorem pow_bits {p : Int} (hp : 2 ≤ p ∧ p < 1000) (n : Nat) : (p ^ n).natAbs < 2 ^ (10 * n + 1) := by
  have h1 : p ^ n ≤ 1024 ^ n := int_pow_le (by omega) (by omega) _
  have h2 : (1024 : Int) ^ n = ((2 ^ (10 * n) : Nat) : Int) := by
    rw [Nat.pow_mul]
    simp
  have h3 := Dr.pow_pos hp.1 n
  rw [Nat.pow_succ]
  omega
theorem us1 {us : List Value} (h : us.length = 1) : ∃ a0, us = [a0] := List.length_eq_one_iff.mp h
theorem us2 : ∀ {us : List Value}, us.length = 2 → ∃ a0 a1, us = [a0, a1]
  | [], h => (by cases h)
  | a0 :: r, h => by
    obtain ⟨a1, rfl⟩ := us1 (us := r) (by simpa using h)
    exact ⟨a0, a1, rfl⟩
theorem us3 : ∀ {us : List Value}, us.length = 3 → ∃ a0 a1 a2, us = [a0, a1, a2]
  | [], h => (by cases h)
  | a0 :: r, h => by
    obtain ⟨a1, a2, rfl⟩ := us2 (us := r) (by simpa using h)
    exact ⟨a0, a1, a2, rfl⟩
theorem us4 : ∀ {us : List Value}, us.length = 4 → ∃ a0 a1 a2 a3, us = [a0, a1, a2, a3]
  | [], h => (by cases h)
  | a0 :: r, h => by
    obtain ⟨a1, a2, a3, rfl⟩ := us3 (us := r) (by simpa using h)
    exact ⟨a0, a1, a2, a3, rfl⟩
theorem us5 : ∀ {us : List Value}, us.length = 5 → ∃ a0 a1 a2 a3 a4, us = [a0, a1, a2, a3, a4]
  | [], h => (by cases h)
  | a0 :: r, h => by
    obtain ⟨a1, a2, a3, a4, rfl⟩ := us4 (us := r) (by simpa using h)
    exact ⟨a0, a1, a2, a3, a4, rfl⟩
def sp_is_made_of (_ : PySem.W.Frag) : Sp := fun vs H Q _ => ∃ z y : Str, vs = [.str z, .str y] ∧ z.length ≤ 2000 ∧ ∀ (b : Bool) (H' : Hp), Same H H' → (b = true ↔ ∀ c, c ∈ z.cps.toList → c ∈ y.cps.toList) → Q (.bl b) H'
theorem take_next {α : Type} {l : List α} {i : Nat} {c : α} (h : l[i]? = some c) : l.take (i + 1) = l.take i ++ [c] := by
  rw [List.take_add_one, h]
  rfl
theorem strs_at {l : List Str} {i : Nat} {x : V} (h : (l.map V.str)[i]? = some x) : ∃ w, l[i]? = some w ∧ x = .str w := by
  rw [List.getElem?_map] at h
  cases e : l[i]? with
  | none => rw [e] at h; cases h
  | some w =>
    rw [e] at h
    exact ⟨w, rfl, (Option.some.inj h).symm⟩
theorem none_of {H H' : Hp} {l : Addr} (g : Same H H') (n : H' l = none) : H l = none := by
  cases e : H l with
  | none => rfl
  | some o =>
    have := g _ _ e
    rw [n] at this
    cases this
theorem newS {H : Hp} {l : Addr} {o : _} (n : H l = none) : Same H (upd H l o) := (newH rfl n).1
theorem figure_in {c : Nat} : decide (c ∈ (Str.ofString "0123456789").cps.toList) = decide (48 ≤ c ∧ c ≤ 57) := by
  rw [show (Str.ofString "0123456789").cps.toList = [48, 49, 50, 51, 52, 53, 54, 55, 56, 57] by decide +kernel]
  rw [decide_eq_decide]
  simp only [List.mem_cons, List.not_mem_nil, or_false]
  omega
local macro_rules | `(tactic| walk_at "dr1") => `(tactic| simp only [tSeq, tNext, tRet, tRetN, tDrop, tIfS, tIf, tTest, tB, tAnd, tOr, tNot, tAndV, tOrV, tNotV, tAsg, gName, gTup, gLst, gCons, gNil, tPar, tAug, tVar, tC, tOp, tUn, rI, rI0, rU, rEq, rNe, rAdd, rSub, ipI, tCons, tNil, tTup, tLst, tCall, tCB, tSl, tNoPart, tPart, gSub, tAugS, rGetL, iEnum, tSlK, tListRng, rExtend, rClear, iZip, tDNewT, tDGet, tDGet2, sDPut, iDict, rSlL, rSlT, rIxL, rIxT, rSetL, rIn, tBM, tBM0, rAppend, rCat, rRep, tNever, tRaise, tTry, tTryAs, Ends.gone, tCallX, cx_K, cc_K, w_tyl, Int.reduceLT, Int.reduceLE, Nat.reduceLT, Nat.reduceLeDiff, tChain, w_for, w_comp, w_comp2, capV, Option.getD_some, iRng1, iRng2, iRng3, iList, iTup, iRev, tListRev, L2.start, sc_ii, sc_bb, sc_in, sc_ni, sc_ss, sc_nn, sc_bn, sc_is, isv_int_int, isv_int_bool, isv_int_str, isv_int_list, isv_int_tuple, isv_int_dict, isv_bool_int, isv_bool_bool, isv_bool_str, isv_bool_list, isv_bool_tuple, isv_bool_dict, isv_NoneType_int, isv_NoneType_bool, isv_NoneType_str, isv_NoneType_list, isv_NoneType_tuple, isv_NoneType_dict, isv_str_int, isv_str_bool, isv_str_str, isv_str_list, isv_str_tuple, isv_str_dict, iso_list_int, iso_list_bool, iso_list_str, iso_list_list, iso_list_tuple, iso_list_dict, iso_tuple_int, iso_tuple_bool, iso_tuple_str, iso_tuple_list, iso_tuple_tuple, iso_tuple_dict, iso_dict_int, iso_dict_bool, iso_dict_str, iso_dict_list, iso_dict_tuple, iso_dict_dict, isCls, clsV, List.getElem?_cons_zero, List.getElem?_cons_succ, List.set_cons_zero, List.set_cons_succ, List.map_cons, List.map_nil, List.cons_append, List.nil_append, List.append_nil, List.replicate_succ, List.replicate_zero, List.length_cons, List.length_nil, Option.some.injEq, exists_eq, exists_eq', exists_eq_left, exists_eq_left', exists_and_left, exists_and_right, List.cons.injEq, V.int.injEq, V.bl.injEq, V.ref.injEq, V.str.injEq, V.ty.injEq, reduceCtorEq, and_true, true_and, and_assoc, false_and, and_false, or_false, false_or, exists_false, decide_eq_true_eq, Bool.not_eq_true', decide_eq_false_iff_not, Bool.not_eq_false', Bool.not_eq_true, Bool.false_eq_true, Bool.true_eq_false, ite_true, ite_false, if_true, if_false, Bool.not_true, Bool.not_false, Bool.true_eq, Bool.or_true, Bool.or_false, Bool.true_or, Bool.false_or, Bool.and_true, Bool.and_false, beq_self_eq_true, decide_true, decide_false, eq_self_iff_true, not_true_eq_false, not_false_eq_true, tKGet, tKIn, tKNot, tCallV, tMeth, tMethX, tMake, tFld, sFld, tDIn, tDNotIn, tDNewK, iZipT])
theorem ok_is_made_of (B : Bi mg K w) (F : Fun K "is_made_of" "is_made_of" s_is_made_of f fd) : FnOk P w K mg base CX0 1 f fd ["text", "signs"] (sp_is_made_of K) := by
  refine F.ok S_is_made_of (fun vs H Q E h => ?_) (fun cdv A outer s H vs Q E hr h => ?_)
  · obtain ⟨z, y, rfl, _⟩ := h
    rfl
  obtain ⟨z, y, rfl, hz, q⟩ := h
  have S := S_is_made_of
  refine ⟨_, ((pss_one (ps_ret (pe_callB (call_allB rfl) rfl B.b_all bt_all (pa_cons (pe_comp [1] ["signs"] rfl rfl ⟨rfl, trivial⟩ ⟨rfl, rfl, rfl, rfl, trivial⟩ rfl rfl (by decide) (by decide) rfl rfl (by decide) (pi_str (pv 0)) (fun _ _ _ _ => pts_nil) (fun _ _ _ _ => (pe_cmpR op_in_str (pv 0) (pv 1) rfl))) pa_nil))))), ?_⟩
  (first | refine hX _ _ ?_ | skip); (try dsimp only); try walk_at "dr1"; (try simp only [iStr]); try walk_at "dr1"
  obtain ⟨Pv, hPv⟩ : ∃ Pv : Nat → List V → Hp → Prop, ∀ i ys H', Pv i ys H' ↔ (H' = H ∧ ys = (((z.cps.toList.take i).map fun c => decide (c ∈ y.cps.toList)).map V.bl)) := ⟨_, fun _ _ _ => Iff.rfl⟩
  have hz' : z.cps.toList.length ≤ 2000 := by simpa [Str.length] using hz
  refine compS z Pv (Nat.le_trans hz' (by decide)) ((hPv _ _ _).mpr ⟨rfl, by simp⟩) (fun i c ys H2 hc p => ?_) (fun ys H2 p l n_l => ?_)
  · obtain ⟨rfl, rfl⟩ := (hPv _ _ _).mp p
    (first | refine hX _ _ ?_ | skip); (try dsimp only); try walk_at "dr1"
    refine (hPv _ _ _).mpr ⟨rfl, ?_⟩
    rw [StrLaws.found_one, take_next hc, List.map_append, List.map_append]
    rfl
  · obtain ⟨rfl, rfl⟩ := (hPv _ _ _).mp p
    refine ⟨l, rfl, _, SqL.of upd_same, ?_⟩
    refine q _ _ (newS n_l) ?_
    rw [List.take_length, List.all_map, List.all_eq_true]
    simp
def sp_is_written_number (_ : PySem.W.Frag) : Sp := fun vs H Q _ => ∃ z : Str, vs = [.str z] ∧ z.length ≤ 2000 ∧ ∀ (b : Bool) (H' : Hp), Same H H' → (b = true ↔ Tx.Wr z.cps.toList) → Q (.bl b) H'
local macro_rules | `(tactic| walk_at "dr2") => `(tactic| simp only [tNext, tRet, tRetN, tDrop, tIfS, tIf, tTest, tB, tAnd, tOr, tNot, tAndV, tOrV, tNotV, tAsg, gName, gTup, gLst, gCons, gNil, tPar, tAug, tVar, tC, tOp, tUn, rI, rI0, rU, rEq, rNe, rAdd, rSub, ipI, tCons, tNil, tTup, tLst, tCall, tCB, tSl, tNoPart, tPart, gSub, tAugS, rGetL, iEnum, tSlK, tListRng, rExtend, rClear, iZip, tDNewT, tDGet, tDGet2, sDPut, iDict, rSlL, rSlT, rIxL, rIxT, rSetL, rIn, tBM, tBM0, rAppend, rCat, rRep, tNever, tRaise, tTry, tTryAs, Ends.gone, tCallX, cx_K, cc_K, w_tyl, Int.reduceLT, Int.reduceLE, Nat.reduceLT, Nat.reduceLeDiff, tChain, w_for, w_comp, w_comp2, capV, Option.getD_some, iRng1, iRng2, iRng3, iList, iTup, iRev, tListRev, L2.start, sc_ii, sc_bb, sc_in, sc_ni, sc_ss, sc_nn, sc_bn, sc_is, isv_int_int, isv_int_bool, isv_int_str, isv_int_list, isv_int_tuple, isv_int_dict, isv_bool_int, isv_bool_bool, isv_bool_str, isv_bool_list, isv_bool_tuple, isv_bool_dict, isv_NoneType_int, isv_NoneType_bool, isv_NoneType_str, isv_NoneType_list, isv_NoneType_tuple, isv_NoneType_dict, isv_str_int, isv_str_bool, isv_str_str, isv_str_list, isv_str_tuple, isv_str_dict, iso_list_int, iso_list_bool, iso_list_str, iso_list_list, iso_list_tuple, iso_list_dict, iso_tuple_int, iso_tuple_bool, iso_tuple_str, iso_tuple_list, iso_tuple_tuple, iso_tuple_dict, iso_dict_int, iso_dict_bool, iso_dict_str, iso_dict_list, iso_dict_tuple, iso_dict_dict, isCls, clsV, List.getElem?_cons_zero, List.getElem?_cons_succ, List.set_cons_zero, List.set_cons_succ, List.map_cons, List.map_nil, List.cons_append, List.nil_append, List.append_nil, List.replicate_succ, List.replicate_zero, List.length_cons, List.length_nil, Option.some.injEq, exists_eq, exists_eq', exists_eq_left, exists_eq_left', exists_and_left, exists_and_right, List.cons.injEq, V.int.injEq, V.bl.injEq, V.ref.injEq, V.str.injEq, V.ty.injEq, reduceCtorEq, and_true, true_and, and_assoc, false_and, and_false, or_false, false_or, exists_false, decide_eq_true_eq, Bool.not_eq_true', decide_eq_false_iff_not, Bool.not_eq_false', Bool.not_eq_true, Bool.false_eq_true, Bool.true_eq_false, ite_true, ite_false, if_true, if_false, Bool.not_true, Bool.not_false, Bool.true_eq, Bool.or_true, Bool.or_false, Bool.true_or, Bool.false_or, Bool.and_true, Bool.and_false, beq_self_eq_true, decide_true, decide_false, eq_self_iff_true, not_true_eq_false, not_false_eq_true, tKGet, tKIn, tKNot, tCallV, tMeth, tMethX, tMake, tFld, sFld, tDIn, tDNotIn, tDNewK, iZipT])
theorem ok_is_written_number (B : Bi mg K w) (d_is_made_of : Def P w K mg base "is_made_of" 1 ["text", "signs"] (sp_is_made_of K)) (F : Fun K "is_written_number" "is_written_number" s_is_written_number f fd) : FnOk P w K mg base CX0 2 f fd ["text"] (sp_is_written_number K) := by
  refine F.ok S_is_written_number (fun vs H Q E h => ?_) (fun cdv A outer s H vs Q E hr h => ?_)
  · obtain ⟨z, rfl, _⟩ := h
    rfl
  obtain ⟨z, rfl, hz, q⟩ := h
  have S := S_is_written_number
  obtain ⟨t1, g_FIGURES⟩ := B.g_FIGURES
  obtain ⟨t2, g_MOST_FIGURES⟩ := B.g_MOST_FIGURES
  refine ⟨_, ((pss_cons (ps_set (i := 1) S.nd rfl (Or.inl rfl) (pe_bm PySem.F.plainAttrs_str PySem.F.slot_str_startswith PySem.F.type_str_startswith mt_starts (pv 0) (pa_cons pe_str pa_nil)))
    (pss_cons (ps_join (ps_set (i := 2) S.nd rfl (Or.inl rfl) (pe_ifExp (pt_val (pv 1)) (pe_slice sl_str (pv 0) (po_some pe_int) po_none) (pv 0))))
    (pss_cons (ps_if (PW.pt (pw_or (pt_cmpR op_lt (pe_callB call_len_str rfl B.b_len PySem.boot_len (pa_cons (pv 2) pa_nil)) pe_int (nomark _)) (pw_or (pt_cmpR op_gt (pe_callB call_len_str rfl B.b_len PySem.boot_len (pa_cons (pv 2) pa_nil)) (pe_glob (v := .int 60) rfl g_MOST_FIGURES ⟨_, rfl⟩) (nomark _)) (pw_or1 (pt_not (pt_val (pe_def d_is_made_of hr rfl (pa_cons (pv 2) (pa_cons (pe_glob (v := .str "0123456789") rfl g_FIGURES ⟨_, rfl⟩) pa_nil))))))))) (pss_one (ps_ret pe_bl)) pss_nil)
    (pss_cons (ps_if (pt_cmpR op_eq (pv 2) pe_str (nomark _)) (pss_one (ps_ret (pe_not (pv 1)))) pss_nil)
    (pss_one (ps_ret (pe_not (pe_bm PySem.F.plainAttrs_str PySem.F.slot_str_startswith PySem.F.type_str_startswith mt_starts (pv 2) (pa_cons pe_str pa_nil)))))))))), ?_⟩
  (try dsimp only); (first | refine hX _ _ ?_ | skip); (try dsimp only); (first | refine seqX (fun X hX => ?_) | skip); try walk_at "dr2"; (try simp only [sp_is_made_of]); try walk_at "dr2"
  refine ⟨rfl, z, _, rfl, rfl, ?_⟩
  rw [Tx.starts_minus]
  have hz' := Tx.len_list z
  obtain ⟨R, hR⟩ : ∃ R : St → Hp → Prop, ∀ σ' H2, R σ' H2 ↔ (∃ y : Str, y.cps.toList = Tx.figs z.cps.toList ∧ H2 = H ∧ σ' = [some (.str z), some (.bl (Tx.neg z.cps.toList)), some (.str y)]) := ⟨_, fun _ _ => Iff.rfl⟩
  dsimp only
  (first | refine hX _ _ ?_ | skip); refine seqI ?_
  (first | refine hX _ _ ?_ | skip); refine joinB R ?_ ?_
  · (first | refine hX _ _ ?_ | skip); (try dsimp only); try walk_at "dr1"; (try simp only [sp_is_made_of]); try walk_at "dr1"
    cases hn : Tx.neg z.cps.toList with
    | true =>
      rw [if_pos rfl]
      have e := Tx.figs_of_neg hn
      have l1 : 1 ≤ z.length := by rw [hz', e]; simp
      refine ⟨z, rfl, Nat.le_trans hz (by decide), (hR _ _).mpr ⟨_, ?_, rfl, by rw [hn]⟩⟩
      rw [Tx.sl_from (by decide) (by omega), e]
      rfl
    | false =>
      rw [if_neg (by decide)]
      exact (hR _ _).mpr ⟨z, (Tx.figs_of_not hn).symm, rfl, by rw [hn]⟩
  intro σ' H2 w0
  obtain ⟨y, hy, rfl, rfl⟩ := (hR _ _).mp w0
  clear hR w0
  have hyl : y.length ≤ 2000 := by
    rw [Tx.len_list, hy]
    rw [hz'] at hz
    cases hn : Tx.neg z.cps.toList with
    | true =>
      rw [Tx.figs_of_neg hn] at hz
      simp only [List.length_cons] at hz
      omega
    | false => rw [Tx.figs_of_not hn]; exact hz
  have hyn := Tx.len_list y
  rw [hy] at hyn
  (try dsimp only); (first | refine hX _ _ ?_ | skip); (try dsimp only); (first | refine seqX (fun X hX => ?_) | skip); try walk_at "dr2"; (try simp only [sp_is_made_of]); try walk_at "dr2"
  refine ⟨Nat.le_trans hyl (by decide), ite2 (fun c1 => q false _ (Same.refl _) ⟨nofun, fun w => absurd w.one (by omega)⟩) (fun c1 => ⟨Nat.le_trans hyl (by decide), ite2 (fun c2 => q false _ (Same.refl _) ⟨nofun, fun w => absurd w.most (by omega)⟩) (fun c2 => ⟨hyl, fun b H' g hb0 => ?_⟩)⟩)⟩
  rw [hy] at hb0
  have hb : b = true ↔ ∀ c, c ∈ Tx.figs z.cps.toList → 48 ≤ c ∧ c ≤ 57 := hb0.trans (forall_congr' fun c => imp_congr_right fun _ => by have := figure_in (c := c); rwa [decide_eq_decide] at this)
  cases b with
  | false => exact q false _ g ⟨nofun, fun w => absurd (hb.mpr w.all) (by decide)⟩
  | true =>
    rw [if_neg (by decide)]
    have hall := hb.mp rfl
    (first | refine hX _ _ ?_ | skip); (try dsimp only); try walk_at "dr1"; (try simp only [sp_is_made_of, rStarts, w_tys]); try walk_at "dr1"
    refine ite2 (fun c3 => q _ _ g ?_) (fun c3 => q _ _ g ?_)
    · have e : Tx.figs z.cps.toList = [48] := by rw [← hy, c3, Tx.nought]
      constructor
      · intro hn
        refine ⟨by omega, by omega, hall, fun r hr => ?_⟩
        rw [e] at hr
        cases hr
        exact ⟨rfl, by simpa using hn⟩
      · intro w
        rw [(w.head [] e).2]
        rfl
    · rw [Tx.nought, Tx.starts_one, hy]
      constructor
      · intro hn
        refine ⟨by omega, by omega, hall, fun r hr => ?_⟩
        rw [hr] at hn
        simp at hn
      · intro w
        have : (Tx.figs z.cps.toList).head? ≠ some 48 := fun hh => by
          cases hf : Tx.figs z.cps.toList with
          | nil => rw [hf] at hh; cases hh
          | cons a r =>
            rw [hf] at hh
            cases hh
            have := (w.head r hf).1
            subst this
            exact c3 (Tx.ext (by rw [hy, hf, Tx.nought]))
        simpa using this
def sp_read_number (_ : PySem.W.Frag) : Sp := fun vs H Q _ => ∃ z : Str, vs = [.str z] ∧ Tx.Wr z.cps.toList ∧ ∀ H', Same H H' → Q (.int (Tx.valOf z.cps.toList)) H'
theorem ok_read_number (B : Bi mg K w) (d_is_written_number : Def P w K mg base "is_written_number" 2 ["text"] (sp_is_written_number K)) (F : Fun K "read_number" "read_number" s_read_number f fd) : FnOk P w K mg base CX0 3 f fd ["text"] (sp_read_number K) := by
  refine F.ok S_read_number (fun vs H Q E h => ?_) (fun cdv A outer s H vs Q E hr h => ?_)
  · obtain ⟨z, rfl, _⟩ := h
    rfl
  obtain ⟨z, rfl, hw, q⟩ := h
  have S := S_read_number
  have wl := hw.len
  refine ⟨_, ((pss_cons (ps_if (PW.pt (pw_or (pt_not (pt_val (pe_callB call_isiS rfl B.b_isinstance L2.bt_isinstance (pa_cons (pv 0) (pa_cons (pe_bltn (v := .ty "str") rfl B.b_str L2.bt_str rfl) pa_nil))))) (pw_or1 (pt_not (pt_val (pe_def d_is_written_number hr rfl (pa_cons (pv 0) pa_nil))))))) (pss_one ps_never) pss_nil)
    (pss_one (ps_ret (pe_callTy call_intS rfl B.b_int L2.bt_int (pa_cons (pv 0) pa_nil)))))), ?_⟩
  (first | refine hX _ _ ?_ | skip); (try dsimp only); try walk_at "dr1"; (try simp only [sp_is_written_number, rIntS]); try walk_at "dr1"
  refine ⟨by omega, fun b H' g hb => ?_⟩
  cases b with
  | false => exact absurd (hb.mpr hw) (by decide)
  | true =>
    rw [if_neg (by decide)]
    exact ⟨_, hw.reads, by omega, q H' g⟩
def sp_read_poly (_ : PySem.W.Frag) : Sp := fun vs H Q _ => ∃ (z : Str) (ms : List Int), vs = [.str z] ∧ z.length ≤ 2000 ∧ Tx.poly z = some ms ∧ ∀ c H', Same H H' → H c = none → H' c = some (.lst (ms.map V.int)) → Q (.ref c) H'
theorem ok_read_poly (B : Bi mg K w) (d_read_number : Def P w K mg base "read_number" 3 ["text"] (sp_read_number K)) (F : Fun K "read_poly" "read_poly" s_read_poly f fd) : FnOk P w K mg base CX0 4 f fd ["text"] (sp_read_poly K) := by
  refine F.ok S_read_poly (fun vs H Q E h => ?_) (fun cdv A outer s H vs Q E hr h => ?_)
  · obtain ⟨z, ms, rfl, _⟩ := h
    rfl
  obtain ⟨z, ms, rfl, hz, hp, q⟩ := h
  have S := S_read_poly
  obtain ⟨t1, g_MOST_NUMBERS⟩ := B.g_MOST_NUMBERS
  obtain ⟨w13, wall, wms⟩ := Tx.poly_some hp
  refine ⟨_, ((pss_cons (ps_if (pt_not (pt_val (pe_callB call_isiS rfl B.b_isinstance L2.bt_isinstance (pa_cons (pv 0) (pa_cons (pe_bltn (v := .ty "str") rfl B.b_str L2.bt_str rfl) pa_nil))))) (pss_one ps_never) pss_nil)
    (pss_cons (ps_set (i := 1) S.nd rfl (Or.inl rfl) (pe_bm PySem.F.plainAttrs_str PySem.F.slot_str_split PySem.F.type_str_split mt_split (pv 0) (pa_cons pe_str pa_nil)))
    (pss_cons (ps_if (pt_cmpR op_gt (pe_callB call_len_seq rfl B.b_len PySem.boot_len (pa_cons (pv 1) pa_nil)) (pe_glob (v := .int 13) rfl g_MOST_NUMBERS ⟨_, rfl⟩) (nomark _)) (pss_one ps_never) pss_nil)
    (pss_one (ps_ret (pe_comp [] [] rfl rfl trivial trivial rfl rfl (by decide) (by decide) rfl rfl (by decide) (pi_list (pv 1)) (fun _ _ _ _ => pts_nil) (fun _ _ _ _ => (pe_def d_read_number hr rfl (pa_cons (pv 0) pa_nil)))))))))), ?_⟩
  (try dsimp only); (first | refine hX _ _ ?_ | skip); (try dsimp only); (first | refine seqX (fun X hX => ?_) | skip); try walk_at "dr2"; (try simp only [sp_read_number]); try walk_at "dr2"
  (try dsimp only); (first | refine hX _ _ ?_ | skip); (try dsimp only); (first | refine seqX (fun X hX => ?_) | skip); try walk_at "dr2"; (try simp only [sp_read_number]); try walk_at "dr2"
  refine ⟨rfl, z, _, rfl, rfl, by decide +kernel, Nat.le_trans (Nat.add_le_add_right hz 2) (by decide), ?_⟩
  intro l1 n_l1; generalize e_l1 : upd _ l1 _ = H1; obtain ⟨g1, k1⟩ := newH e_l1 n_l1; clear e_l1
  have k1 : H1 l1 = some (.lst ((Tx.words z).map V.str)) := k1
  (try dsimp only); (first | refine hX _ _ ?_ | skip); (try dsimp only); (first | refine seqX (fun X hX => ?_) | skip); try walk_at "dr2"; (try simp only [sp_read_number]); try walk_at "dr2"
  refine ⟨_, .inl (SqL.of k1), ite2 (fun c => ?_) (fun c => ?_)⟩
  · rw [List.length_map] at c
    omega
  (first | refine hX _ _ ?_ | skip); (try dsimp only); try walk_at "dr1"; (try simp only [sp_read_number]); try walk_at "dr1"
  obtain ⟨Pv, hPv⟩ : ∃ Pv : Nat → List V → Hp → Prop, ∀ i ys H', Pv i ys H' ↔ (Same H1 H' ∧ ys = ((((Tx.words z).take i).map fun w => Tx.valOf w.cps.toList).map V.int)) := ⟨_, fun _ _ _ => Iff.rfl⟩
  refine ⟨⟨_, SqL.of k1⟩, ?_⟩
  (first | refine hX _ _ ?_ | skip); refine compL ((Tx.words z).map V.str) Pv (by rw [List.length_map]; exact Nat.le_trans w13 (by decide)) ((hPv _ _ _).mpr ⟨Same.refl _, rfl⟩) (fun i ys H2 p => ?_) (fun i x ys H2 hx p => ?_) (fun ys H2 p l n_l => ?_)
  · exact SqL.of (((hPv _ _ _).mp p).1 _ _ k1)
  · obtain ⟨g2, rfl⟩ := (hPv _ _ _).mp p
    obtain ⟨w, hw', rfl⟩ := strs_at hx
    (first | refine hX _ _ ?_ | skip); (try dsimp only); try walk_at "dr1"; (try simp only [sp_read_number]); try walk_at "dr1"
    refine ⟨wall w (List.mem_of_getElem? hw'), fun H3 g3 => (hPv _ _ _).mpr ⟨g2.trans g3, ?_⟩⟩
    rw [take_next hw', List.map_append, List.map_append]
    rfl
  · rw [List.length_map] at p
    obtain ⟨g2, rfl⟩ := (hPv _ _ _).mp p
    rw [List.take_length, ← wms]
    exact q l _ (g1.trans (g2.trans (newS n_l))) (none_of (g1.trans g2) n_l) upd_same
theorem str_big {x : Int} (h : x.natAbs < 10 ^ 190) : (Str.ofString (toString x)).length ≤ 191 := by
  rw [ofString_length]
  exact int_text_length_le10 (by decide) h
theorem log_big {x : Int} (h : x.natAbs < 10 ^ 190) : x.natAbs.log2 < 1920 := by
  by_cases z : x.natAbs = 0
  · rw [z]; decide
  · exact (Nat.log2_lt z).mpr (Nat.lt_of_lt_of_le h (by decide +kernel))
theorem texts_big : ∀ (ms : List Int), (∀ x, x ∈ ms → x.natAbs < 10 ^ 190) → ((ms.map fun x => Str.ofString (toString x)).map (·.length)).sum ≤ 191 * ms.length
  | [], _ => Nat.le_refl _
  | x :: ms, h => by
    have ih := texts_big ms fun y hy => h y (.tail _ hy)
    have hx := str_big (h x (.head _))
    simp only [List.map_cons, List.sum_cons, List.length_cons]
    omega
theorem join_big {ms : List Int} (hl : ms.length ≤ 14) (h : ∀ x, x ∈ ms → x.natAbs < 10 ^ 190) : JoinOk (Str.ofString ",") (ms.map fun x => Str.ofString (toString x)) = true := by
  have := texts_big ms h
  refine PyProof.Rows.joinOk_of ?_
  rw [Tx.comma, List.length_map]
  omega
theorem shown_len {ms : List Int} (hl : ms.length ≤ 14) (h : ∀ x, x ∈ ms → x.natAbs < 10 ^ 190) : (Tx.shown ms).length ≤ 2688 := by
  have h1 := texts_big ms h
  have h2 := StrLaws.join_length_le (Str.ofString ",") (ms.map fun x => Str.ofString (toString x))
  rw [Tx.comma, List.length_map] at h2
  unfold Tx.shown
  rw [Tx.join_eq]
  have e : (ms.map Tx.tx) = ms.map fun x => Str.ofString (toString x) := rfl
  rw [e]
  omega
def sp_show_poly (K : PySem.W.Frag) : Sp := fun vs H Q _ => ∃ (a : Addr) (ms : List Int), vs = [.ref a] ∧ SqL K H a (ms.map V.int) ∧ ms.length ≤ 14 ∧ (∀ x, x ∈ ms → x.natAbs < 10 ^ 190) ∧ ∀ H', Same H H' → Q (.str (Tx.shown ms)) H'
theorem ok_show_poly (B : Bi mg K w) (F : Fun K "show_poly" "show_poly" s_show_poly f fd) : FnOk P w K mg base CX0 1 f fd ["f"] (sp_show_poly K) := by
  refine F.ok S_show_poly (fun vs H Q E h => ?_) (fun cdv A outer s H vs Q E hr h => ?_)
  · obtain ⟨a, ms, rfl, _⟩ := h
    rfl
  obtain ⟨a, ms, rfl, hS, hl, hb, q⟩ := h
  have S := S_show_poly
  refine ⟨_, ((pss_one (ps_ret (pe_bm PySem.F.plainAttrs_str PySem.F.slot_str_join PySem.F.type_str_join mt_join pe_str (pa_cons (pe_comp [] [] rfl rfl trivial trivial rfl rfl (by decide) (by decide) rfl rfl (by decide) (pi_list (pv 0)) (fun _ _ _ _ => pts_nil) (fun _ _ _ _ => (pe_callTy call_str_int rfl B.b_str L2.bt_str (pa_cons (pv 0) pa_nil)))) pa_nil))))), ?_⟩
  (first | refine hX _ _ ?_ | skip); (try dsimp only); try walk_at "dr1"
  refine ⟨rfl, ⟨_, hS⟩, ?_⟩
  obtain ⟨Pv, hPv⟩ : ∃ Pv : Nat → List V → Hp → Prop, ∀ i ys H', Pv i ys H' ↔ (H' = H ∧ ys = (((ms.take i).map fun x => Str.ofString (toString x)).map V.str)) := ⟨_, fun _ _ _ => Iff.rfl⟩
  (first | refine hX _ _ ?_ | skip); refine compI ms Pv (Nat.le_trans hl (by decide)) ((hPv _ _ _).mpr ⟨rfl, rfl⟩) (fun i ys H2 p => ?_) (fun i x ys H2 hx p => ?_) (fun ys H2 p l n_l => ?_)
  · obtain ⟨rfl, _⟩ := (hPv _ _ _).mp p
    exact hS
  · obtain ⟨rfl, rfl⟩ := (hPv _ _ _).mp p
    (first | refine hX _ _ ?_ | skip); (try dsimp only); try walk_at "dr1"
    refine ⟨log_big (hb x (List.mem_of_getElem? hx)), (hPv _ _ _).mpr ⟨rfl, ?_⟩⟩
    rw [take_next hx, List.map_append, List.map_append]
    rfl
  · obtain ⟨rfl, rfl⟩ := (hPv _ _ _).mp p
    rw [List.take_length]
    exact ⟨_, l, _, rfl, rfl, SqL.of upd_same, join_big hl hb, q _ (newS n_l)⟩
def sp_words_of (K : PySem.W.Frag) : Sp := fun vs H Q _ => ∃ (z w0 : Str) (ws : List Str) (a : Addr) (xs : List V), vs = [.str z] ∧ z.length ≤ 2000 ∧ Txt.split z (Str.ofString " ") = w0 :: ws ∧ atK l_WANTED w0 = some (.ref a) ∧ KTup K a xs ∧ xs.length = ws.length ∧ ∀ l H', Same H H' → H l = none → H' l = some (.lst ((w0 :: ws).map V.str)) → Q (.ref l) H'
theorem ok_words_of (B : Bi mg K w) (F : Fun K "words_of" "words_of" s_words_of f fd) : FnOk P w K mg base CX0 1 f fd ["row"] (sp_words_of K) := by
  refine F.ok S_words_of (fun vs H Q E h => ?_) (fun cdv A outer s H vs Q E hr h => ?_)
  · obtain ⟨z, w0, ws, a, xs, rfl, _⟩ := h
    rfl
  obtain ⟨z, w0, ws, a, xs, rfl, hz, hsp, hat, htu, hlen, q⟩ := h
  have S := S_words_of
  refine ⟨_, ((pss_cons (ps_if (pt_not (pt_val (pe_callB call_isiS rfl B.b_isinstance L2.bt_isinstance (pa_cons (pv 0) (pa_cons (pe_bltn (v := .ty "str") rfl B.b_str L2.bt_str rfl) pa_nil))))) (pss_one ps_never) pss_nil)
    (pss_cons (ps_set (i := 1) S.nd rfl (Or.inl rfl) (pe_bm PySem.F.plainAttrs_str PySem.F.slot_str_split PySem.F.type_str_split mt_split (pv 0) (pa_cons pe_str pa_nil)))
    (pss_cons (ps_if (PW.pt (pw_or (pt_cmp (pc_knot B.kd_WANTED rfl B.gd_WANTED (pe_ix ix_list (pv 1) pe_int (fun _ _ => rfl)))) (pw_or1 (pt_cmpR op_ne (pe_callB call_len_seq rfl B.b_len PySem.boot_len (pa_cons (pv 1) pa_nil)) (pe_op op_add (pe_callB call_len_seq rfl B.b_len PySem.boot_len (pa_cons (pe_kget B.kd_WANTED rfl B.gd_WANTED (pe_ix ix_list (pv 1) pe_int (fun _ _ => rfl)) (fun _ _ => rfl)) pa_nil)) pe_int) (nomark _))))) (pss_one ps_never) pss_nil)
    (pss_one (ps_ret (pv 1))))))), ?_⟩
  (try dsimp only); (first | refine hX _ _ ?_ | skip); (try dsimp only); (first | refine seqX (fun X hX => ?_) | skip); try walk_at "dr2"
  (try dsimp only); (first | refine hX _ _ ?_ | skip); (try dsimp only); (first | refine seqX (fun X hX => ?_) | skip); try walk_at "dr2"
  refine ⟨rfl, z, _, rfl, rfl, by decide +kernel, Nat.le_trans (Nat.add_le_add_right hz 2) (by decide), ?_⟩
  intro l1 n_l1; generalize e_l1 : upd _ l1 _ = H1; obtain ⟨g1, k1⟩ := newH e_l1 n_l1; clear e_l1
  have k1 : H1 l1 = some (.lst ((w0 :: ws).map V.str)) := by rw [k1, hsp]
  (try dsimp only); (first | refine hX _ _ ?_ | skip); (try dsimp only); (first | refine seqX (fun X hX => ?_) | skip); try walk_at "dr2"
  refine ⟨_, SqL.of k1, _, atI_nat (j := 0) rfl, w0, rfl, ?_⟩
  rw [hat, if_neg (by intro z; cases z)]
  refine ⟨_, .inl (SqL.of k1), _, SqL.of k1, _, atI_nat (j := 0) rfl, w0, rfl, a, hat, _, .inr (htu.sq _), ?_⟩
  rw [if_neg (fun n => n (by rw [hlen, List.length_map, List.length_cons]; rfl))]
  (first | refine hX _ _ ?_ | skip); (try dsimp only); try walk_at "dr1"
  exact q l1 H1 g1 n_l1 k1
structure Nm (z : Str) : Prop where
  one : 1 ≤ z.length
  most : z.length ≤ 8
  all : ∀ c, c ∈ z.cps.toList → c ∈ (Str.ofString "abcdefghijklmnopqrstuvwxyz").cps.toList
def sp_read_name (_ : PySem.W.Frag) : Sp := fun vs H Q _ => ∃ z : Str, vs = [.str z] ∧ Nm z ∧ ∀ H', Same H H' → Q (.str z) H'
theorem ok_read_name (B : Bi mg K w) (d_is_made_of : Def P w K mg base "is_made_of" 1 ["text", "signs"] (sp_is_made_of K)) (F : Fun K "read_name" "read_name" s_read_name f fd) : FnOk P w K mg base CX0 2 f fd ["word"] (sp_read_name K) := by
  refine F.ok S_read_name (fun vs H Q E h => ?_) (fun cdv A outer s H vs Q E hr h => ?_)
  · obtain ⟨z, rfl, _⟩ := h
    rfl
  obtain ⟨z, rfl, hn, q⟩ := h
  have S := S_read_name
  obtain ⟨t1, g_LETTERS⟩ := B.g_LETTERS
  obtain ⟨t2, g_MOST_LETTERS⟩ := B.g_MOST_LETTERS
  have h1 := hn.one
  have h2 := hn.most
  refine ⟨_, ((pss_cons (ps_if (PW.pt (pw_or (pt_cmpR op_lt (pe_callB call_len_str rfl B.b_len PySem.boot_len (pa_cons (pv 0) pa_nil)) pe_int (nomark _)) (pw_or (pt_cmpR op_gt (pe_callB call_len_str rfl B.b_len PySem.boot_len (pa_cons (pv 0) pa_nil)) (pe_glob (v := .int 8) rfl g_MOST_LETTERS ⟨_, rfl⟩) (nomark _)) (pw_or1 (pt_not (pt_val (pe_def d_is_made_of hr rfl (pa_cons (pv 0) (pa_cons (pe_glob (v := .str "abcdefghijklmnopqrstuvwxyz") rfl g_LETTERS ⟨_, rfl⟩) pa_nil))))))))) (pss_one ps_never) pss_nil)
    (pss_one (ps_ret (pv 0))))), ?_⟩
  (try dsimp only); (first | refine hX _ _ ?_ | skip); (try dsimp only); (first | refine seqX (fun X hX => ?_) | skip); try walk_at "dr2"; (try simp only [sp_is_made_of]); try walk_at "dr2"
  refine ⟨Nat.le_trans h2 (by decide), ite2 (fun c => by omega) (fun _ => ⟨Nat.le_trans h2 (by decide), ite2 (fun c => by omega) (fun _ => ⟨by omega, fun b H' g hb => ?_⟩)⟩)⟩
  cases b with
  | false => exact absurd (hb.mpr hn.all) (by decide)
  | true =>
    rw [if_neg (by decide)]
    (first | refine hX _ _ ?_ | skip); (try dsimp only); try walk_at "dr1"; (try simp only [sp_is_made_of]); try walk_at "dr1"
    exact q H' g
def sp_read_depth (_ : PySem.W.Frag) : Sp := fun vs H Q _ => ∃ z : Str, vs = [.str z] ∧ Tx.Wr z.cps.toList ∧ (0 ≤ Tx.valOf z.cps.toList ∧ Tx.valOf z.cps.toList ≤ 60) ∧ ∀ H', Same H H' → Q (.int (Tx.valOf z.cps.toList)) H'
theorem ok_read_depth (B : Bi mg K w) (d_read_number : Def P w K mg base "read_number" 3 ["text"] (sp_read_number K)) (F : Fun K "read_depth" "read_depth" s_read_depth f fd) : FnOk P w K mg base CX0 4 f fd ["word"] (sp_read_depth K) := by
  refine F.ok S_read_depth (fun vs H Q E h => ?_) (fun cdv A outer s H vs Q E hr h => ?_)
  · obtain ⟨z, rfl, _⟩ := h
    rfl
  obtain ⟨z, rfl, hw, hd, q⟩ := h
  have S := S_read_depth
  obtain ⟨t1, g_GREATEST_DEPTH⟩ := B.g_GREATEST_DEPTH
  refine ⟨_, ((pss_cons (ps_set (i := 1) S.nd rfl (Or.inl rfl) (pe_def d_read_number hr rfl (pa_cons (pv 0) pa_nil)))
    (pss_cons (ps_if (PW.pt (pw_or (pt_cmpR op_lt (pv 1) pe_int (nomark _)) (pw_or1 (pt_cmpR op_gt (pv 1) (pe_glob (v := .int 60) rfl g_GREATEST_DEPTH ⟨_, rfl⟩) (nomark _))))) (pss_one ps_never) pss_nil)
    (pss_one (ps_ret (pv 1)))))), ?_⟩
  (try dsimp only); (first | refine hX _ _ ?_ | skip); (try dsimp only); (first | refine seqX (fun X hX => ?_) | skip); try walk_at "dr2"; (try simp only [sp_read_number]); try walk_at "dr2"
  refine ⟨hw, fun H' g => ?_⟩
  (try dsimp only); (first | refine hX _ _ ?_ | skip); (try dsimp only); (first | refine seqX (fun X hX => ?_) | skip); try walk_at "dr2"; (try simp only [sp_read_number]); try walk_at "dr2"
  refine ite2 (fun c => by omega) (fun _ => ite2 (fun c => by omega) (fun _ => ?_))
  (first | refine hX _ _ ?_ | skip); (try dsimp only); try walk_at "dr1"; (try simp only [sp_read_number]); try walk_at "dr1"
  exact q H' g
def sp_power_of (_ : PySem.W.Frag) : Sp := fun vs H Q _ => ∃ (p e : Int), vs = [.int p, .int e] ∧ (2 ≤ p ∧ p < 1000) ∧ (0 ≤ e ∧ e < 100000) ∧ Q (.int (p ^ e.toNat)) H
theorem ok_power_of (B : Bi mg K w) (F : Fun K "power_of" "power_of" s_power_of f fd) : FnOk P w K mg base CX0 1 f fd ["p", "e"] (sp_power_of K) := by
  refine F.ok S_power_of (fun vs H Q E h => ?_) (fun cdv A outer s H vs Q E hr h => ?_)
  · obtain ⟨p, e, rfl, _⟩ := h
    rfl
  obtain ⟨p, e, rfl, hp, he, q⟩ := h
  have S := S_power_of
  refine ⟨_, ((pss_cons (ps_set (i := 2) S.nd rfl (Or.inl rfl) pe_int)
    (pss_cons (ps_for PassesOwn.never rfl (pi_range1 rfl B.b_range (pa_cons (pv 1) pa_nil)) (pg_name (i := 3) S.nd rfl (Or.inl rfl)) (pss_one (ps_set (i := 2) S.nd rfl (Or.inl rfl) (pe_op op_mulW (pv 2) (pv 0)))))
    (pss_one (ps_ret (pv 2)))))), ?_⟩
  refine ⟨_, rfl, e, rfl, by omega, by omega, ?_⟩
  refine for_range (n := e.toNat) (fun i σ H' => H' = H ∧ ∃ t, σ = [some (.int p), some (.int e), some (.int (p ^ i)), t]) ⟨rfl, none, by rw [Int.pow_zero]; rfl⟩ ?_ ?_
  · rintro i σ H' hi ⟨rfl, t, rfl⟩
    refine ⟨_, rfl, _, rfl, _, _, rfl, rfl, IntMulOk.of_right (intBits_le_64 (by omega) (by omega)), rfl, some (.int (0 + (i : Int))), ?_⟩
    rw [Int.pow_succ]
    rfl
  · rintro σ H' ⟨rfl, t, rfl⟩
    exact ⟨_, rfl, q⟩
def sp_can_be_written (_ : PySem.W.Frag) : Sp := fun vs H Q _ => ∃ n : Int, vs = [.int n] ∧ n.natAbs < 10 ^ 60 ∧ Q (.bl true) H
theorem ok_can_be_written (B : Bi mg K w) (d_power_of : Def P w K mg base "power_of" 1 ["p", "e"] (sp_power_of K)) (F : Fun K "can_be_written" "can_be_written" s_can_be_written f fd) : FnOk P w K mg base CX0 2 f fd ["number"] (sp_can_be_written K) := by
  refine F.ok S_can_be_written (fun vs H Q E h => ?_) (fun cdv A outer s H vs Q E hr h => ?_)
  · obtain ⟨n, rfl, _⟩ := h
    rfl
  obtain ⟨n, rfl, hn, q⟩ := h
  have S := S_can_be_written
  obtain ⟨t1, g_MOST_FIGURES⟩ := B.g_MOST_FIGURES
  refine ⟨_, ((pss_one (ps_ret (pe_cmpR op_lt (pe_callB call_abs rfl B.b_abs bt_abs (pa_cons (pv 0) pa_nil)) (pe_def d_power_of hr rfl (pa_cons pe_int (pa_cons (pe_glob (v := .int 60) rfl g_MOST_FIGURES ⟨_, rfl⟩) pa_nil))) (nomark _))))), ?_⟩
  (first | refine hX _ _ ?_ | skip); (try dsimp only); try walk_at "dr1"; (try simp only [sp_power_of]); try walk_at "dr1"
  have hM : (10 : Int) ^ Int.toNat 60 = ((10 ^ 60 : Nat) : Int) := by decide +kernel
  rw [hM]
  generalize (10 ^ 60 : Nat) = M at hn ⊢
  rw [decide_eq_true (by split <;> omega)]
  exact q
def sp_made_poly (K : PySem.W.Frag) : Sp := fun vs H Q _ => ∃ (p : Int) (a : Addr) (x y : V) (xs : List V), vs = [.int p, .ref a] ∧ SqL K H a (x :: y :: xs) ∧ Q y H
theorem ok_made_poly (B : Bi mg K w) (F : Fun K "made_poly" "made_poly" s_made_poly f fd) : FnOk P w K mg base CX0 1 f fd ["p", "things"] (sp_made_poly K) := by
  refine F.ok S_made_poly (fun vs H Q E h => ?_) (fun cdv A outer s H vs Q E hr h => ?_)
  · obtain ⟨p, a, x, y, xs, rfl, _⟩ := h
    rfl
  obtain ⟨p, a, x, y, xs, rfl, hS, q⟩ := h
  have S := S_made_poly
  refine ⟨_, ((pss_one (ps_ret (pe_ix ix_list (pv 1) pe_int (fun _ _ => rfl))))), ?_⟩
  (first | refine hX _ _ ?_ | skip); (try dsimp only); try walk_at "dr1"
  exact ⟨_, hS, _, atI_nat (j := 1) rfl, q⟩
def sp_is_prime (_ : PySem.W.Frag) : Sp := fun vs H Q _ => ∃ (n : Int), vs = [.int n] ∧ n < 2 ^ 60 ∧ ∀ b : Bool, (b = true ↔ Dr.IsP n) → Q (.bl b) H
theorem isP_end {n d : Int} (hd : 2 ≤ d) (h : ∀ e : Int, 2 ≤ e → e < d → n % e ≠ 0) (hn : 2 ≤ n) (c : ¬ d * d ≤ n) : Dr.IsP n := by
  refine ⟨hn, fun e he hee => h e he ?_⟩
  refine Int.lt_of_not_ge fun z => c ?_
  exact Int.le_trans (Int.mul_le_mul z z (by omega) (by omega)) hee
theorem ok_is_prime (B : Bi mg K w) (F : Fun K "is_prime" "is_prime" s_is_prime f fd) : FnOk P w K mg base CX0 1 f fd ["thing"] (sp_is_prime K) := by
  refine F.ok S_is_prime (fun vs H Q E h => ?_) (fun cdv A outer s H vs Q E hr h => ?_)
  · obtain ⟨n, rfl, _⟩ := h
    rfl
  obtain ⟨n, rfl, hn, q⟩ := h
  have S := S_is_prime
  refine ⟨_, ((pss_cons (ps_if (PW.pt (pw_or (pt_not (pt_val (pe_callB call_isiS rfl B.b_isinstance L2.bt_isinstance (pa_cons (pv 0) (pa_cons (pe_bltn (v := .ty "int") rfl B.b_int L2.bt_int rfl) pa_nil))))) (pw_or1 (pt_cmpR op_lt (pv 0) pe_int (nomark _))))) (pss_one (ps_ret pe_bl)) pss_nil)
    (pss_cons (ps_set (i := 1) S.nd rfl (Or.inl rfl) pe_int)
    (pss_cons (ps_while PassesOwn.never (pt_cmpR op_le (pe_op op_mulW (pv 1) (pv 1)) (pv 0) (nomark _)) (pss_cons (ps_if (pt_cmpR op_eq (pe_op op_mod (pv 0) (pv 1)) pe_int (nomark _)) (pss_one (ps_ret pe_bl)) pss_nil)
    (pss_one (ps_aug (i := 1) S.nd rfl (Or.inl rfl) pe_int ip_add))))
    (pss_one (ps_ret pe_bl)))))), ?_⟩
  (first | refine hX _ _ ?_ | skip); (try dsimp only); try walk_at "dr1"
  refine ite2 (fun c => q false ⟨fun z => (by cases z), fun z => absurd z.1 (by omega)⟩) (fun c => ?_)
  obtain ⟨W, hW⟩ : ∃ W : Nat → St → Hp → Prop, ∀ m σ H', W m σ H' ↔ (H' = H ∧ ∃ d : Int, σ = [some (.int n), some (.int d)] ∧ 2 ≤ d ∧ (∀ e : Int, 2 ≤ e → e < d → n % e ≠ 0) ∧ d ≤ n ∧ m = (n + 1 - d).toNat) := ⟨_, fun _ _ _ => Iff.rfl⟩
  (first | refine hX _ _ ?_ | skip); refine whB W (n + 1 - 2).toNat ((hW _ _ _).mpr ⟨rfl, 2, rfl, by omega, fun e h1 h2 => by omega, by omega, rfl⟩) ?_
  intro m σ H' z
  obtain ⟨rfl, d, rfl, hd, h1, h2, rfl⟩ := (hW _ _ _).mp z
  (first | refine hX _ _ ?_ | skip); (try dsimp only); try walk_at "dr1"
  refine ⟨IntMulOk.of_left (intBits_le_64 (by omega) (by omega)), ite2 (fun c1 => ?_) (fun c1 => ?_)⟩
  · refine ⟨_, fun _ _ h => h, ?_⟩
    refine ⟨by omega, ite2 (fun c2 => ?_) (fun c2 => ?_)⟩
    · exact q false ⟨fun z => (by cases z), fun z => absurd c2 (z.2 d hd c1)⟩
    · have hlt : d < n := by
        have : d * 2 ≤ d * d := Int.mul_le_mul_of_nonneg_left hd (by omega)
        omega
      refine ⟨(n + 1 - (d + 1)).toNat, by omega, (hW _ _ _).mpr ⟨rfl, d + 1, rfl, by omega, fun e e1 e2 => ?_, by omega, rfl⟩⟩
      by_cases w : e = d
      · rw [w]; exact c2
      · exact h1 e e1 (by omega)
  · exact q true ⟨fun _ => isP_end hd h1 (by omega) c1, fun _ => rfl⟩
theorem isP_of {p : Int} (hp : p ∈ Dr.primes) : Dr.IsP p := by
  refine ⟨(Dr.primes_ge hp).1, fun e he hee => ?_⟩
  have h97 := (Dr.primes_ge hp).2
  have h9 : e < 10 := by
    refine Int.lt_of_not_ge fun z => ?_
    have := Int.mul_le_mul z z (by decide) (by omega)
    omega
  rcases (show e = 2 ∨ e = 3 ∨ e = 4 ∨ e = 5 ∨ e = 6 ∨ e = 7 ∨ e = 8 ∨ e = 9 by omega) with h | h | h | h | h | h | h | h <;> subst h <;> revert hee <;> clear h97 he h9 <;> revert p <;> decide
def sp___init__ (K : PySem.W.Frag) : Sp := fun vs H Q _ => ∃ (d dx : Addr) (p : Int), vs = [.ref d, .int p] ∧ H d = some (.ins (clK K "Desk") dx []) ∧ p ∈ Dr.primes ∧
  ∀ kd H', kd ≠ d → H kd = none → H' d = some (.ins (clK K "Desk") dx [("prime", .int p), ("kept", .ref kd)]) → H' kd = some (.dK []) → (∀ b, b ≠ d → b ≠ kd → H' b = H b) → Q .non H'
theorem ok___init__ (B : Bi mg K w) (d_is_prime : Def P w K mg base "is_prime" 1 ["thing"] (sp_is_prime K)) (F : Fun K "__init__" "Desk.__init__" s___init__ f fd) : FnOk P w K mg base CX0 2 f fd ["self", "p"] (sp___init__ K) := by
  refine F.ok S___init__ (fun vs H Q E h => ?_) (fun cdv A outer s H vs Q E hr h => ?_)
  · obtain ⟨d, dx, p, rfl, _⟩ := h
    rfl
  obtain ⟨d, dx, p, rfl, hd, hp, q⟩ := h
  have S := S___init__
  obtain ⟨t1, g_GREATEST_PRIME⟩ := B.g_GREATEST_PRIME
  have p97 := Dr.primes_ge hp
  refine ⟨_, ((pss_cons (ps_if (PW.pt (pw_or (pt_not (pt_val (pe_callB call_isiS rfl B.b_isinstance L2.bt_isinstance (pa_cons (pv 1) (pa_cons (pe_bltn (v := .ty "int") rfl B.b_int L2.bt_int rfl) pa_nil))))) (pw_or (pt_cmpR op_gt (pv 1) (pe_glob (v := .int 97) rfl g_GREATEST_PRIME ⟨_, rfl⟩) (nomark _)) (pw_or1 (pt_not (pt_val (pe_def d_is_prime hr rfl (pa_cons (pv 1) pa_nil)))))))) (pss_one ps_never) pss_nil)
    (pss_cons (ps_fld (pv 0) (pv 1) rfl)
    (pss_one (ps_fld (pv 0) pe_dnewK rfl))))), ?_⟩
  (try dsimp only); (first | refine hX _ _ ?_ | skip); (try dsimp only); (first | refine seqX (fun X hX => ?_) | skip); try walk_at "dr2"; (try simp only [sp_is_prime]); try walk_at "dr2"
  rw [if_neg (by omega)]
  refine ⟨by omega, fun b hb => ?_⟩
  have hb : b = true := hb.mpr (isP_of hp)
  subst hb
  rw [if_neg (by decide)]
  (try dsimp only); (first | refine hX _ _ ?_ | skip); (try dsimp only); (first | refine seqX (fun X hX => ?_) | skip); try walk_at "dr2"; (try simp only [sp_is_prime]); try walk_at "dr2"
  refine ⟨_, _, _, hd, B.cl_Desk, B.na_prime, by decide, ?_⟩
  (first | refine hX _ _ ?_ | skip); (try dsimp only); try walk_at "dr1"; (try simp only [sp_is_prime]); try walk_at "dr1"
  intro kd nk
  have ne : kd ≠ d := fun z => by rw [z, upd_same] at nk; cases nk
  rw [upd_ne ne] at nk
  refine ⟨_, _, _, by rw [upd_ne (Ne.symm ne)]; exact upd_same, B.cl_Desk, B.na_kept, by show 1 < 1000; decide, ?_⟩
  refine q kd _ ne nk ?_ ?_ ?_
  · rw [upd_same]
    exact congrArg some (congrArg (HO.ins _ _) (by rfl))
  · rw [upd_ne ne, upd_same]
  · intro b h1 h2
    rw [upd_ne h1, upd_ne h2, upd_ne h1]
def sp_standing (K : PySem.W.Frag) : Sp := fun vs H Q _ => ∃ (d dx kd : Addr) (fs : List (Str × V)) (kvs : List (Key × V)) (z : Str) (v : V), vs = [.ref d, .str z] ∧ H d = some (.ins (clK K "Desk") dx fs) ∧ fs.lookup ("kept" : Str) = some (V.ref kd) ∧ H kd = some (.dK kvs) ∧ valV kvs (Sum.inr z) = some v ∧ Q v H
theorem ok_standing (B : Bi mg K w) (F : Fun K "standing" "Desk.standing" s_standing f fd) : FnOk P w K mg base CX0 1 f fd ["self", "name"] (sp_standing K) := by
  refine F.ok S_standing (fun vs H Q E h => ?_) (fun cdv A outer s H vs Q E hr h => ?_)
  · obtain ⟨d, dx, kd, fs, kvs, z, v, rfl, _⟩ := h
    rfl
  obtain ⟨d, dx, kd, fs, kvs, z, v, rfl, hd, hf, hk, hv, q⟩ := h
  have S := S_standing
  refine ⟨_, ((pss_cons (ps_if (pt_cmp (pc_dnotin (hu1 hr.units) (pv 1) (pe_fld (pv 0) rfl))) (pss_one ps_never) pss_nil)
    (pss_one (ps_ret (pe_dget (hu1 hr.units) (pe_fld (pv 0) rfl) (pv 1) (fun _ _ => rfl)))))), ?_⟩
  (try dsimp only); (first | refine hX _ _ ?_ | skip); (try dsimp only); (first | refine seqX (fun X hX => ?_) | skip); try walk_at "dr2"
  refine ⟨_, _, _, hd, B.cl_Desk, B.na_kept, _, hf, kd, rfl, _, DGet.k (k := Sum.inr z) hk, ?_⟩
  rw [hv, if_neg (by intro z; cases z)]
  (first | refine hX _ _ ?_ | skip); (try dsimp only); try walk_at "dr1"
  exact ⟨_, _, _, hd, B.cl_Desk, B.na_kept, _, hf, kd, rfl, v, by rw [← hv]; exact DGet.k (k := Sum.inr z) hk, q⟩
def sp_keep (K : PySem.W.Frag) : Sp := fun vs H Q _ => ∃ (d dx kd l : Addr) (fs : List (Str × V)) (kvs : List (Key × V)) (z : Str) (ms : List Int), vs = [.ref d, .str z, .ref l] ∧ H d = some (.ins (clK K "Desk") dx fs) ∧ fs.lookup ("kept" : Str) = some (V.ref kd) ∧ H kd = some (.dK kvs) ∧ kvs.length < 1000 ∧
  SqL K H l (ms.map V.int) ∧ ms.length ≤ 60 ∧ (∀ x, x ∈ ms → x.natAbs < 10 ^ 60) ∧ ∀ H1, Same H H1 → Q (.str "ok") (upd H1 kd (.dK (putK kvs (Sum.inr z) (.ref l))))
theorem ok_keep (B : Bi mg K w) (d_can_be_written : Def P w K mg base "can_be_written" 2 ["number"] (sp_can_be_written K)) (F : Fun K "keep" "Desk.keep" s_keep f fd) : FnOk P w K mg base CX0 3 f fd ["self", "name", "polynomial"] (sp_keep K) := by
  refine F.ok S_keep (fun vs H Q E h => ?_) (fun cdv A outer s H vs Q E hr h => ?_)
  · obtain ⟨d, dx, kd, l, fs, kvs, z, ms, rfl, _⟩ := h
    rfl
  obtain ⟨d, dx, kd, l, fs, kvs, z, ms, rfl, hd, hf, hk, hkl, hS, hl, hb, q⟩ := h
  have S := S_keep
  refine ⟨_, ((pss_cons (ps_if (pt_not (pt_val (pe_callB (call_allB rfl) rfl B.b_all bt_all (pa_cons (pe_comp [] [] rfl rfl trivial trivial rfl rfl (by decide) (by decide) rfl rfl (by decide) (pi_list (pv 2)) (fun _ _ _ _ => pts_nil) (fun _ _ _ _ => (pe_def d_can_be_written hr rfl (pa_cons (pv 0) pa_nil)))) pa_nil)))) (pss_one ps_never) pss_nil)
    (pss_cons (ps_dput (hu1 hr.units) (pe_fld (pv 0) rfl) (pv 1) (pv 2) rfl)
    (pss_one (ps_ret pe_str))))), ?_⟩
  (try dsimp only); (first | refine hX _ _ ?_ | skip); (try dsimp only); (first | refine seqX (fun X hX => ?_) | skip); try walk_at "dr2"; (try simp only [sp_can_be_written]); try walk_at "dr2"
  refine ⟨⟨_, hS⟩, ?_⟩
  obtain ⟨Pv, hPv⟩ : ∃ Pv : Nat → List V → Hp → Prop, ∀ i ys H', Pv i ys H' ↔ (H' = H ∧ ys = (List.replicate i true).map V.bl) := ⟨_, fun _ _ _ => Iff.rfl⟩
  (first | refine hX _ _ ?_ | skip); refine compI ms Pv (Nat.le_trans hl (by decide)) ((hPv _ _ _).mpr ⟨rfl, rfl⟩) (fun i ys H2 p => ?_) (fun i x ys H2 hx p => ?_) (fun ys H2 p r n_r => ?_)
  · obtain ⟨rfl, _⟩ := (hPv _ _ _).mp p
    exact hS
  · obtain ⟨rfl, rfl⟩ := (hPv _ _ _).mp p
    (first | refine hX _ _ ?_ | skip); (try dsimp only); try walk_at "dr1"; (try simp only [sp_can_be_written]); try walk_at "dr1"
    refine ⟨hb x (List.mem_of_getElem? hx), (hPv _ _ _).mpr ⟨rfl, ?_⟩⟩
    rw [List.replicate_succ', List.map_append]
    rfl
  obtain ⟨rfl, rfl⟩ := (hPv _ _ _).mp p
  refine ⟨r, rfl, _, SqL.of upd_same, ?_⟩
  rw [if_neg (by simp)]
  have g := newS n_r (o := HO.lst (List.map V.bl (List.replicate ms.length true)))
  generalize upd H2 r (HO.lst (List.map V.bl (List.replicate ms.length true))) = H3 at g ⊢
  (try dsimp only); (first | refine hX _ _ ?_ | skip); (try dsimp only); (first | refine seqX (fun X hX => ?_) | skip); try walk_at "dr2"; (try simp only [sp_can_be_written]); try walk_at "dr2"
  refine ⟨_, _, _, g _ _ hd, B.cl_Desk, B.na_kept, _, hf, kd, rfl, _, DPut.k (k := Sum.inr z) (g _ _ hk) (Nat.lt_trans hkl (by decide)), ?_⟩
  (first | refine hX _ _ ?_ | skip); (try dsimp only); try walk_at "dr1"; (try simp only [sp_can_be_written]); try walk_at "dr1"
  exact q _ g
inductive Thing (K : PySem.W.Frag) (H : Hp) (d : Addr) : Str → Str → (V → Hp → Prop) → Prop
  | new {z : Str} {R : V → Hp → Prop} : Nm z → (∀ H', Same H H' → R (.str z) H') → Thing K H d "new" z R
  | name {z : Str} {R : V → Hp → Prop} {dx kd : Addr} {fs : List (Str × V)} {kvs : List (Key × V)} {v : V} : Nm z → H d = some (.ins (clK K "Desk") dx fs) → fs.lookup ("kept" : Str) = some (V.ref kd) → H kd = some (.dK kvs) → valV kvs (Sum.inr z) = some v → (∀ H', Same H H' → R v H') → Thing K H d "name" z R
  | poly {z : Str} {R : V → Hp → Prop} {ms : List Int} : z.length ≤ 2000 → Tx.poly z = some ms → (∀ c H', Same H H' → H c = none → H' c = some (.lst (ms.map V.int)) → R (.ref c) H') → Thing K H d "poly" z R
  | depth {z : Str} {R : V → Hp → Prop} : Tx.Wr z.cps.toList → (0 ≤ Tx.valOf z.cps.toList ∧ Tx.valOf z.cps.toList ≤ 60) → (∀ H', Same H H' → R (.int (Tx.valOf z.cps.toList)) H') → Thing K H d "depth" z R
def sp_thing_of (K : PySem.W.Frag) : Sp := fun vs H Q _ => ∃ (d dx : Addr) (fs : List (Str × V)) (y z : Str), vs = [.ref d, .str y, .str z] ∧ H d = some (.ins (clK K "Desk") dx fs) ∧ fs.lookup ("standing" : Str) = none ∧ Thing K H d y z Q
theorem ok_thing_of (B : Bi mg K w) (d_read_number : Def P w K mg base "read_number" 3 ["text"] (sp_read_number K)) (d_read_poly : Def P w K mg base "read_poly" 4 ["text"] (sp_read_poly K)) (d_read_name : Def P w K mg base "read_name" 2 ["word"] (sp_read_name K)) (d_read_depth : Def P w K mg base "read_depth" 4 ["word"] (sp_read_depth K)) (d_standing : Met P w K mg base CX0 (clK K "Desk") "standing" 1 ["self", "name"] (sp_standing K)) (F : Fun K "thing_of" "Desk.thing_of" s_thing_of f fd) : FnOk P w K mg base CX0 5 f fd ["self", "wanted", "word"] (sp_thing_of K) := by
  refine F.ok S_thing_of (fun vs H Q E h => ?_) (fun cdv A outer s H vs Q E hr h => ?_)
  · obtain ⟨d, dx, fs, y, z, rfl, _⟩ := h
    rfl
  obtain ⟨d, dx, fs, y, z, rfl, hd, hst, t⟩ := h
  have S := S_thing_of
  refine ⟨_, ((pss_cons (ps_if (pt_cmpR op_eq (pv 1) pe_str (nomark _)) (pss_one (ps_ret (pe_def d_read_name hr rfl (pa_cons (pv 2) pa_nil)))) pss_nil)
    (pss_cons (ps_if (pt_cmpR op_eq (pv 1) pe_str (nomark _)) (pss_one (ps_ret (pe_met pass0 B.cl_Desk d_standing hr (pv 0) (pa_cons (pe_def d_read_name hr rfl (pa_cons (pv 2) pa_nil)) pa_nil)))) pss_nil)
    (pss_cons (ps_if (pt_cmpR op_eq (pv 1) pe_str (nomark _)) (pss_one (ps_ret (pe_def d_read_poly hr rfl (pa_cons (pv 2) pa_nil)))) pss_nil)
    (pss_cons (ps_if (pt_cmpR op_eq (pv 1) pe_str (nomark _)) (pss_one (ps_ret (pe_def d_read_depth hr rfl (pa_cons (pv 2) pa_nil)))) pss_nil)
    (pss_one (ps_ret (pe_def d_read_number hr rfl (pa_cons (pv 2) pa_nil))))))))), ?_⟩
  cases t with
  | new hn q =>
    (first | refine hX _ _ ?_ | skip); (try dsimp only); try walk_at "dr1"; (try simp only [sp_read_number, sp_read_poly, sp_read_name, sp_read_depth, sp_standing]); try walk_at "dr1"
    exact ⟨hn, q⟩
  | name hn hd' hf hk hv q =>
    (first | refine hX _ _ ?_ | skip); (try dsimp only); try walk_at "dr1"; (try simp only [sp_read_number, sp_read_poly, sp_read_name, sp_read_depth, sp_standing]); try walk_at "dr1"
    rw [if_neg (by decide +kernel)]
    exact ⟨_, _, hd, hst, hn, fun H' g => ⟨_, _, _, g _ _ hd', hf, _, g _ _ hk, _, hv, q H' g⟩⟩
  | poly hz hp q =>
    (first | refine hX _ _ ?_ | skip); (try dsimp only); try walk_at "dr1"; (try simp only [sp_read_number, sp_read_poly, sp_read_name, sp_read_depth, sp_standing]); try walk_at "dr1"
    rw [if_neg (by decide +kernel), if_neg (by decide +kernel)]
    exact ⟨hz, _, hp, q⟩
  | depth hw hb q =>
    (first | refine hX _ _ ?_ | skip); (try dsimp only); try walk_at "dr1"; (try simp only [sp_read_number, sp_read_poly, sp_read_name, sp_read_depth, sp_standing]); try walk_at "dr1"
    rw [if_neg (by decide +kernel), if_neg (by decide +kernel), if_neg (by decide +kernel)]
    exact ⟨hw, hb.1, hb.2, q⟩
theorem mulSm {a b : Int} {m n : Nat} (ha : Dr.Sm a m) (hb : Dr.Sm b n) (h : m + n ≤ 134217728) : IntMulOk a b := PyProof.Rows.mulOk_of_bits (PyProof.Rows.intBits_le ha) (PyProof.Rows.intBits_le hb) h
theorem sm_of {a : Int} {k : Nat} (B : Int) (h : -B ≤ a ∧ a ≤ B) (hB : B.natAbs < 2 ^ k) : Dr.Sm a k := by
  unfold Dr.Sm
  omega
theorem rep_zero (n : Nat) : (List.replicate n [V.int 0]).flatten = (List.replicate n (0 : Int)).map V.int := by
  induction n with
  | zero => rfl
  | succ n ih => simp [List.replicate_succ, ih]
theorem ixN_nn {n : Nat} {k : Int} (h0 : 0 ≤ k) (h1 : k < (n : Int)) : ixN n k = some k.toNat := by
  unfold ixN
  simp only [h0, if_true, if_pos]
  rw [if_pos (by omega)]
theorem get_int {fs : List Int} {k : Int} (h0 : 0 ≤ k) (h1 : k < (fs.length : Int)) : ∃ v, fs[k.toNat]? = some v ∧ atI (fs.map V.int) k = some (.int v) ∧ ixN (fs.map V.int).length k = some k.toNat ∧ (fs.map V.int)[k.toNat]? = some (.int v) := by
  have hk : k.toNat < fs.length := by omega
  have e : fs[k.toNat]? = some fs[k.toNat] := List.getElem?_eq_getElem hk
  refine ⟨fs[k.toNat], e, ?_, ixN_nn h0 (by rw [List.length_map]; exact h1), by rw [List.getElem?_map, e]; rfl⟩
  rw [atI_ints h0 h1, List.getD_eq_getElem?_getD, e]
  rfl
theorem set_int (fs : List Int) (k : Nat) (v : Int) : (fs.map V.int).set k (.int v) = (fs.set k v).map V.int := by rw [List.map_set]
theorem mem_set {fs : List Int} {k : Nat} {v c : Int} (h : c ∈ fs.set k v) : c ∈ fs ∨ c = v := List.mem_or_eq_of_mem_set h
theorem steps {i T : Nat} {v n : Int} (h : v.natAbs ≤ i * T) (h' : n.natAbs ≤ T) : (v + n).natAbs ≤ (i + 1) * T := by
  rw [Nat.succ_mul]
  omega
def sp_inverse_by_prime (_ : PySem.W.Frag) : Sp := fun vs H Q _ => ∃ (p x : Int), vs = [.int p, .int x] ∧ p ∈ Dr.primes ∧ x % p ≠ 0 ∧ ∀ (y : Int) (H' : Hp), 1 ≤ y ∧ y < p → x * y % p = 1 → Same H H' → Q (.int y) H'
theorem ok_inverse_by_prime (B : Bi mg K w) (F : Fun K "inverse_by_prime" "inverse_by_prime" s_inverse_by_prime f fd) : FnOk P w K mg base CX0 1 f fd ["p", "x"] (sp_inverse_by_prime K) := by
  refine F.ok S_inverse_by_prime (fun vs H Q E h => ?_) (fun cdv A outer s H vs Q E hr h => ?_)
  · obtain ⟨p, x, rfl, _⟩ := h
    rfl
  obtain ⟨p, x, rfl, hp, hx, q⟩ := h
  have S := S_inverse_by_prime
  have p2 := Dr.primes_ge hp
  have hpp : 2 ≤ p ∧ p < 1000 := by omega
  refine ⟨_, ((pss_cons (ps_comp [0, 1] ["p", "x"] rfl S.nd (k := 2) rfl rfl rfl rfl ⟨rfl, rfl, trivial⟩ ⟨rfl, rfl, rfl, rfl, rfl, rfl, rfl, rfl, trivial⟩ rfl rfl (by decide) (by decide) rfl rfl (by decide) (pi_range2 rfl B.b_range (pa_cons pe_int (pa_cons (pv 0) pa_nil))) (fun _ _ _ _ => (pts_one (pt_cmpR op_eq (pe_op op_mod (pe_op op_mulW (pv 2) (pv 0)) (pv 1)) pe_int (nomark _)))) (fun _ _ _ _ => (pv 0)))
    (pss_one (ps_ret (pe_ix ix_list (pv 2) pe_int (fun _ _ => rfl)))))), ?_⟩
  (first | refine hX _ _ ?_ | skip); (try dsimp only); try walk_at "dr1"
  repeat (refine And.intro (by first | omega | exact ⟨by decide, by decide⟩ | decide | assumption | exact log_small (by assumption) | exact Dr.pow_pos (by omega) _ | exact IntMulOk.of_left (by decide) | exact cell_sh (by assumption) (by omega) | exact sh_div (by assumption) (by decide) | exact sh_div (cell_sh (by assumption) (by omega)) (by decide)) ?_)
  obtain ⟨Pv, hPv⟩ : ∃ Pv : Nat → List V → Hp → Prop, ∀ i ys H', Pv i ys H' ↔ (H' = H ∧ ∃ zs : List Int, ys = zs.map V.int ∧ (∀ z, z ∈ zs → (1 ≤ z ∧ z < p) ∧ x * z % p = 1) ∧ (∀ y : Int, 1 ≤ y → y < 1 + i → x * y % p = 1 → zs ≠ [])) := ⟨_, fun _ _ _ => Iff.rfl⟩
  (first | refine hX _ _ ?_ | skip); refine compR Pv (by unfold sizeLine; omega) ((hPv _ _ _).mpr ⟨rfl, [], rfl, by simp, fun y h1 h2 => by omega⟩) ?_ ?_
  · intro i ys H' hi zz
    obtain ⟨rfl, zs, rfl, h1, h2⟩ := (hPv _ _ _).mp zz
    (first | refine hX _ _ ?_ | skip); (try dsimp only); try walk_at "dr1"
    refine ⟨IntMulOk.of_right (intBits_le_64 (by omega) (by omega)), by omega, ite2 (fun c => ?_) (fun c => ?_)⟩
    · refine (hPv _ _ _).mpr ⟨rfl, zs ++ [1 + (i : Int)], by simp, fun z hz => ?_, fun y _ _ _ => by simp⟩
      rcases List.mem_append.mp hz with w | w
      · exact h1 z w
      · rw [List.mem_singleton.mp w]
        exact ⟨by omega, c⟩
    · refine (hPv _ _ _).mpr ⟨rfl, zs, rfl, h1, fun y y1 y2 y3 => ?_⟩
      by_cases w : y = 1 + (i : Int)
      · rw [w] at y3
        exact absurd y3 c
      · exact h2 y y1 (by omega) y3
  · intro ys H' zz
    obtain ⟨rfl, zs, rfl, h1, h2⟩ := (hPv _ _ _).mp zz
    intro l n_l; generalize e_l : upd _ l _ = H1; obtain ⟨g1, k1⟩ := newH e_l n_l; clear e_l
    obtain ⟨y, y1, y2, y3⟩ := Dr.inv_ex hp hx
    have hne := h2 y y1 (by omega) y3
    cases zs with
    | nil => exact absurd rfl hne
    | cons z zs =>
      (first | refine hX _ _ ?_ | skip); (try dsimp only); try walk_at "dr1"
      refine ⟨_, SqL.of k1, _, atI_nat (j := 0) rfl, ?_⟩
      obtain ⟨a1, a2⟩ := h1 z (List.mem_cons_self ..)
      exact q z H1 a1 a2 g1
theorem bits_below {p : Int} (hp : 2 ≤ p ∧ p < 1000) {x : Int} (n : Nat) (h0 : 0 ≤ x) (h : x < p ^ n) : Builtin.Int.intBits x ≤ 10 * n + 1 := PyProof.Rows.intBits_le (by
  have := pow_bits hp n
  have := Dr.pow_pos hp.1 n
  omega)
def sp_inverse_of (_ : PySem.W.Frag) : Sp := fun vs H Q _ => ∃ (p e x : Int), vs = [.int p, .int e, .int x] ∧ p ∈ Dr.primes ∧ (0 ≤ e ∧ e < 1000) ∧ Builtin.Int.intBits x ≤ 2 ^ 22 ∧ (e = 0 ∨ x % p ≠ 0) ∧ ∀ (y : Int) (H' : Hp), Dr.InvE p x y e.toNat → Same H H' → Q (.int y) H'
theorem ok_inverse_of (B : Bi mg K w) (d_power_of : Def P w K mg base "power_of" 1 ["p", "e"] (sp_power_of K)) (d_inverse_by_prime : Def P w K mg base "inverse_by_prime" 1 ["p", "x"] (sp_inverse_by_prime K)) (F : Fun K "inverse_of" "inverse_of" s_inverse_of f fd) : FnOk P w K mg base CX0 2 f fd ["p", "e", "x"] (sp_inverse_of K) := by
  refine F.ok S_inverse_of (fun vs H Q E h => ?_) (fun cdv A outer s H vs Q E hr h => ?_)
  · obtain ⟨p, e, x, rfl, _⟩ := h
    rfl
  obtain ⟨p, e, x, rfl, hp, he, hb, hx, q⟩ := h
  have S := S_inverse_of
  have p2 := Dr.primes_ge hp
  have hpp : 2 ≤ p ∧ p < 1000 := by omega
  refine ⟨_, ((pss_cons (ps_if (pt_cmpR op_eq (pv 1) pe_int (nomark _)) (pss_one (ps_ret pe_int)) pss_nil)
    (pss_cons (ps_if (pt_cmpR op_eq (pe_op op_mod (pv 2) (pv 0)) pe_int (nomark _)) (pss_one ps_never) pss_nil)
    (pss_cons (ps_set (i := 3) S.nd rfl (Or.inl rfl) (pe_def d_power_of hr rfl (pa_cons (pv 0) (pa_cons (pv 1) pa_nil))))
    (pss_cons (ps_set (i := 4) S.nd rfl (Or.inl rfl) (pe_def d_inverse_by_prime hr rfl (pa_cons (pv 0) (pa_cons (pv 2) pa_nil))))
    (pss_cons (ps_set (i := 5) S.nd rfl (Or.inl rfl) pe_int)
    (pss_cons (ps_while PassesOwn.never (pt_cmpR op_lt (pv 5) (pv 1) (nomark _)) (pss_cons (ps_set (i := 4) S.nd rfl (Or.inl rfl) (pe_op op_mod (pe_op op_mulW (pv 4) (pe_op op_sub pe_int (pe_op op_mulW (pv 2) (pv 4)))) (pv 3)))
    (pss_one (ps_set (i := 5) S.nd rfl (Or.inl rfl) (pe_op op_mulW (pv 5) pe_int)))))
    (pss_one (ps_ret (pv 4)))))))))), ?_⟩
  (first | refine hX _ _ ?_ | skip); (try dsimp only); try walk_at "dr1"; (try simp only [sp_power_of, sp_inverse_by_prime]); try walk_at "dr1"
  refine ite2 (fun c => ?_) (fun c => ?_)
  · refine q 0 H ?_ (Same.refl H)
    rw [c]
    exact Dr.InvE.zero p x
  have hx' : x % p ≠ 0 := by
    rcases hx with z | z
    · exact absurd z c
    · exact z
  refine ⟨by omega, ite2 (fun d => absurd d hx') (fun d => ?_)⟩
  repeat (refine And.intro (by first | omega | exact ⟨by decide, by decide⟩ | decide | assumption | exact log_small (by assumption) | exact Dr.pow_pos (by omega) _ | exact IntMulOk.of_left (by decide) | exact cell_sh (by assumption) (by omega) | exact sh_div (by assumption) (by decide) | exact sh_div (cell_sh (by assumption) (by omega)) (by decide)) ?_)
  intro y H1 y1 y2 g1
  have e1 : 1 ≤ e.toNat := by omega
  have hpe : p ≤ p ^ e.toNat := by
    have : p ^ 1 ≤ p ^ e.toNat := by
      obtain ⟨k, hk⟩ : ∃ k, e.toNat = 1 + k := ⟨e.toNat - 1, by omega⟩
      rw [hk, Dr.pow_add']
      have := Dr.pow_pos hpp.1 k
      have h2 : 0 < p ^ 1 := Dr.pow_pos hpp.1 1
      have := Int.mul_le_mul_of_nonneg_left (show 1 ≤ p ^ k by omega) (show 0 ≤ p ^ 1 by omega)
      omega
    rwa [Int.pow_succ, Int.pow_zero, Int.one_mul] at this
  obtain ⟨W, hW⟩ : ∃ W : Nat → St → Hp → Prop, ∀ m σ H2, W m σ H2 ↔ (H2 = H1 ∧ ∃ (y : Int) (r : Nat), σ = [some (.int p), some (.int e), some (.int x), some (.int (p ^ e.toNat)), some (.int y), some (.int (r : Int))] ∧ 1 ≤ r ∧ 0 ≤ y ∧ y < p ^ e.toNat ∧ (x * y - 1) % p ^ (min r e.toNat) = 0 ∧ m = e.toNat - r) := ⟨_, fun _ _ _ => Iff.rfl⟩
  (first | refine hX _ _ ?_ | skip); refine whB W (e.toNat - 1) ((hW _ _ _).mpr ⟨rfl, y, 1, rfl, by omega, by omega, by omega, ?_, rfl⟩) ?_
  · rw [Nat.min_eq_left e1, Int.pow_succ, Int.pow_zero, Int.one_mul]
    rw [Int.sub_emod, y2]
    simp
  · intro m σ H2 z
    obtain ⟨rfl, y, r, rfl, r1, z1, z2, z3, rfl⟩ := (hW _ _ _).mp z
    (first | refine hX _ _ ?_ | skip); (try dsimp only); try walk_at "dr1"; (try simp only [sp_power_of, sp_inverse_by_prime]); try walk_at "dr1"
    refine ite2 (fun c => ?_) (fun c => ?_)
    · refine ⟨_, fun _ _ h => h, ?_⟩
      have by' : Builtin.Int.intBits y ≤ 10 * e.toNat + 1 := bits_below hpp _ z1 z2
      have b1 : IntMulOk x y := PyProof.Rows.mulOk_of_bits hb by' (by omega)
      have b2 : Builtin.Int.intBits (x * y) ≤ 2 ^ 22 + (10 * e.toNat + 1) := PySem.intBits_mul_le hb by'
      have b3 : Builtin.Int.intBits (2 - x * y) ≤ 2 ^ 22 + (10 * e.toNat + 1) + 1 := Nat.le_trans (PySem.intBits_sub_le (m := 2 ^ 22 + (10 * e.toNat + 1)) (Nat.le_trans (show Builtin.Int.intBits 2 ≤ 64 by decide) (by omega)) b2) (by omega)
      have b4 : IntMulOk y (2 - x * y) := PyProof.Rows.mulOk_of_bits by' b3 (by omega)
      have hpos := Dr.pow_pos hpp.1 e.toNat
      refine ⟨b1, b4, hpos, IntMulOk.of_right (by decide), e.toNat - r * 2, by omega, (hW _ _ _).mpr ⟨rfl, y * (2 - x * y) % p ^ e.toNat, r * 2, by simp, by omega, Int.emod_nonneg _ (by omega), Int.emod_lt_of_pos _ hpos, Dr.inv_step z3, rfl⟩⟩
    · have hr : min r e.toNat = e.toNat := by omega
      rw [hr] at z3
      exact q y H2 ⟨z1, z2, z3⟩ g1
def sp_degree_of (K : PySem.W.Frag) : Sp := fun vs H Q _ => ∃ (a : Addr) (f : List Int), vs = [.ref a] ∧ SqL K H a (f.map V.int) ∧ ∀ (d : Int) (H' : Hp), Dr.IsDeg f d → Same H H' → Q (.int d) H'
theorem ok_degree_of (B : Bi mg K w) (F : Fun K "degree_of" "degree_of" s_degree_of f fd) : FnOk P w K mg base CX0 1 f fd ["f"] (sp_degree_of K) := by
  refine F.ok S_degree_of (fun vs H Q E h => ?_) (fun cdv A outer s H vs Q E hr h => ?_)
  · obtain ⟨a, f, rfl, _⟩ := h
    rfl
  obtain ⟨a, f, rfl, hS, q⟩ := h
  have S := S_degree_of
  refine ⟨_, ((pss_cons (ps_set (i := 1) S.nd rfl (Or.inl rfl) (pe_un un_neg pe_int))
    (pss_cons (ps_for PassesOwn.never rfl (pi_enum rfl B.b_enumerate (pv 0)) (pg_tup rfl (pgs_cons (pg_name (i := 2) S.nd rfl (Or.inl rfl)) (pgs_cons (pg_name (i := 3) S.nd rfl (Or.inl rfl)) pgs_nil))) (pss_one (ps_if (pt_cmpR op_ne (pv 3) pe_int (nomark _)) (pss_one (ps_set (i := 1) S.nd rfl (Or.inl rfl) (pv 2))) pss_nil)))
    (pss_one (ps_ret (pv 1)))))), ?_⟩
  (first | refine hX _ _ ?_ | skip); (try dsimp only); try walk_at "dr1"
  refine ⟨⟨_, hS⟩, ?_⟩
  obtain ⟨Pv, hPv⟩ : ∃ Pv : Nat → St → Hp → Prop, ∀ i σ H2, Pv i σ H2 ↔ (Same H H2 ∧ ∃ (d : Int) (t2 t3 : Option V), Dr.IsDeg (f.take i) d ∧ σ = [some (.ref a), some (.int d), t2, t3]) := ⟨_, fun _ _ _ => Iff.rfl⟩
  (first | refine hX _ _ ?_ | skip); refine forE f Pv ((hPv _ _ _).mpr ⟨Same.refl _, -1, none, none, by simpa using Dr.IsDeg.nil, rfl⟩) (fun i σ H2 z => by obtain ⟨g, _⟩ := (hPv _ _ _).mp z; exact g.seq hS) ?_ ?_
  · intro i c σ H2 t H3 hc z g3 ht
    obtain ⟨g2, d, t2, t3, hd, rfl⟩ := (hPv _ _ _).mp z
    (first | refine hX _ _ ?_ | skip); (try dsimp only); try walk_at "dr1"
    refine ⟨_, SqT.of ht, rfl, _, _, rfl, ?_⟩
    refine ⟨_, _, rfl, rfl, rfl, ?_⟩
    simp only [V.int.injEq]
    have g := g2.trans g3
    have hd' := hd.take_succ hc
    refine ite2 (fun c0 => ?_) (fun c0 => ?_)
    · rw [if_pos c0] at hd'
      exact (hPv _ _ _).mpr ⟨g, _, _, _, hd', rfl⟩
    · rw [if_neg c0] at hd'
      exact (hPv _ _ _).mpr ⟨g, _, _, _, hd', rfl⟩
  · intro σ H2 z
    obtain ⟨g2, d, t2, t3, hd, rfl⟩ := (hPv _ _ _).mp z
    (first | refine hX _ _ ?_ | skip); (try dsimp only); try walk_at "dr1"
    rw [List.take_length] at hd
    exact q d H2 hd g2
def sp_poly_product (K : PySem.W.Frag) : Sp := fun vs H Q _ => ∃ (a b : Addr) (f g : List Int) (m n : Nat), vs = [.ref a, .ref b] ∧ SqL K H a (f.map V.int) ∧ SqL K H b (g.map V.int) ∧ (0 < f.length ∧ f.length ≤ 60 ∧ 0 < g.length ∧ g.length ≤ 60) ∧ Dr.PolyB f m ∧ Dr.PolyB g n ∧ (m ≤ 1000000 ∧ n ≤ 1000000) ∧
  ∀ (c : Addr) (r : List Int) (H' : Hp), Dr.IsProd f g r → Dr.PolyB r (m + n + 12) → H c = none → Same H H' → H' c = some (.lst (r.map V.int)) → Q (.ref c) H'
theorem ok_poly_product (B : Bi mg K w) (F : Fun K "poly_product" "poly_product" s_poly_product f fd) : FnOk P w K mg base CX0 1 f fd ["f", "g"] (sp_poly_product K) := by
  refine F.ok S_poly_product (fun vs H Q E h => ?_) (fun cdv A outer s H vs Q E hr h => ?_)
  · obtain ⟨a, b, f, g, m, n, rfl, _⟩ := h
    rfl
  obtain ⟨a, b, f, g, m, n, rfl, hS, hS', hl, hf, hg, hmn, q⟩ := h
  have S := S_poly_product
  refine ⟨_, ((pss_cons (ps_set (i := 2) S.nd rfl (Or.inl rfl) (pe_op op_rep (pe_lst (pa_cons pe_int pa_nil)) (pe_op op_sub (pe_op op_add (pe_callB call_len_seq rfl B.b_len PySem.boot_len (pa_cons (pv 0) pa_nil)) (pe_callB call_len_seq rfl B.b_len PySem.boot_len (pa_cons (pv 1) pa_nil))) pe_int)))
    (pss_cons (ps_for PassesOwn.never rfl (pi_enum rfl B.b_enumerate (pv 0)) (pg_tup rfl (pgs_cons (pg_name (i := 3) S.nd rfl (Or.inl rfl)) (pgs_cons (pg_name (i := 4) S.nd rfl (Or.inl rfl)) pgs_nil))) (pss_one (ps_for PassesOwn.never rfl (pi_enum rfl B.b_enumerate (pv 1)) (pg_tup rfl (pgs_cons (pg_name (i := 5) S.nd rfl (Or.inl rfl)) (pgs_cons (pg_name (i := 6) S.nd rfl (Or.inl rfl)) pgs_nil))) (pss_one (ps_augS (pv 2) (pe_op op_add (pv 3) (pv 5)) get_list (pe_op op_mulW (pv 4) (pv 6)) ip_add set_list)))))
    (pss_one (ps_ret (pv 2)))))), ?_⟩
  (first | refine hX _ _ ?_ | skip); (try dsimp only); try walk_at "dr1"
  refine ⟨by decide, ?_⟩
  intro l0 n_l0; generalize e_l0 : upd _ l0 _ = H1; obtain ⟨g1, k1⟩ := newH e_l0 n_l0; clear e_l0
  refine ⟨_, .inl (g1.seq hS), _, .inl (g1.seq hS'), ?_⟩
  simp only [List.length_map]
  refine ⟨_, k1, by omega, by omega, by simp only [List.length_cons, List.length_nil]; unfold sizeLine; omega, ?_⟩
  intro l n_l; generalize e_l : upd _ l _ = H2; obtain ⟨g2, k2⟩ := newH e_l n_l; clear e_l
  rw [rep_zero] at k2
  have g12 := g1.trans g2
  have nl : H l = none := g1.free n_l
  refine ⟨⟨_, g12.seq hS⟩, ?_⟩
  obtain ⟨M, hM⟩ : ∃ M : Nat, M = 2 ^ (m + n) := ⟨_, rfl⟩
  obtain ⟨Pv, hPv⟩ : ∃ Pv : Nat → St → Hp → Prop, ∀ i σ H3, Pv i σ H3 ↔ (Same H H3 ∧ ∃ (r : List Int) (t3 t4 t5 t6 : Option V), r.length + 1 = f.length + g.length ∧ (∀ c, c ∈ r → c.natAbs ≤ i * g.length * M) ∧ (∀ x, Dr.pev r x = Dr.pev (f.take i) x * Dr.pev g x) ∧ H3 l = some (.lst (r.map V.int)) ∧ σ = [some (.ref a), some (.ref b), some (.ref l), t3, t4, t5, t6]) := ⟨_, fun _ _ _ => Iff.rfl⟩
  (first | refine hX _ _ ?_ | skip); refine forE f Pv ((hPv _ _ _).mpr ⟨g12, _, none, none, none, none, by rw [List.length_replicate]; omega, fun c hc => by rw [(List.mem_replicate.mp hc).2]; simp, fun x => by rw [Dr.pev_zeros]; simp [Dr.pev], k2, rfl⟩) (fun i σ H3 z => by obtain ⟨g, _⟩ := (hPv _ _ _).mp z; exact g.seq hS) ?_ ?_
  · intro i c σ H3 t H4 hc z g4 ht
    obtain ⟨g3, r, t3, t4, t5, t6, hrl, hrb, hre, k3, rfl⟩ := (hPv _ _ _).mp z
    have k4 := g4 _ _ k3
    have hi := (List.getElem?_eq_some_iff.mp hc).1
    have G4 := g3.trans g4
    (first | refine hX _ _ ?_ | skip); (try dsimp only); try walk_at "dr1"
    refine ⟨_, SqT.of ht, rfl, _, _, rfl, _, _, rfl, rfl, ?_⟩
    try try walk_at "dr1"
    refine ⟨⟨_, G4.seq hS'⟩, ?_⟩
    obtain ⟨Pw, hPw⟩ : ∃ Pw : Nat → St → Hp → Prop, ∀ j σ H5, Pw j σ H5 ↔ (Same H H5 ∧ ∃ (r : List Int) (t5 t6 : Option V), r.length + 1 = f.length + g.length ∧ (∀ c, c ∈ r → c.natAbs ≤ (i * g.length + j) * M) ∧ (∀ x, Dr.pev r x = Dr.pev (f.take i) x * Dr.pev g x + c * x ^ i * Dr.pev (g.take j) x) ∧ H5 l = some (.lst (r.map V.int)) ∧ σ = [some (.ref a), some (.ref b), some (.ref l), some (.int (i : Int)), some (.int c), t5, t6]) := ⟨_, fun _ _ _ => Iff.rfl⟩
    (first | refine hX _ _ ?_ | skip); refine forE g Pw ((hPw _ _ _).mpr ⟨G4, r, t5, t6, hrl, hrb, fun x => by rw [hre]; simp [Dr.pev], k4, rfl⟩) (fun i σ H3 z => by obtain ⟨g, _⟩ := (hPw _ _ _).mp z; exact g.seq hS') ?_ ?_
    · intro j d σ H5 t H6 hd z g6 ht
      obtain ⟨g5, r, t5, t6, hrl, hrb, hre, k5, rfl⟩ := (hPw _ _ _).mp z
      have k6 := g6 _ _ k5
      have hj := (List.getElem?_eq_some_iff.mp hd).1
      (first | refine hX _ _ ?_ | skip); (try dsimp only); try walk_at "dr1"
      refine ⟨_, SqT.of ht, rfl, _, _, rfl, _, _, rfl, rfl, ?_⟩
      try try walk_at "dr1"
      obtain ⟨v, e1, _, e3, e4⟩ := get_int (fs := r) (k := (i : Int) + (j : Int)) (by omega) (by omega)
      have hcd : (c * d).natAbs ≤ M := by
        rw [hM]
        exact Nat.le_of_lt ((hf c (List.mem_of_getElem? hc)).mul (hg d (List.mem_of_getElem? hd)))
      refine ⟨by omega, _, SqL.of k6, _, e4, mulSm (hf c (List.mem_of_getElem? hc)) (hg d (List.mem_of_getElem? hd)) (by omega), v, rfl, _, k6, _, e3, ?_⟩
      rw [set_int]
      have eij : ((i : Int) + (j : Int)).toNat = i + j := by omega
      rw [eij] at e1 ⊢
      refine (hPw _ _ _).mpr ⟨(g5.trans g6).up nl _, _, _, _, by rw [List.length_set]; exact hrl, fun e he => ?_, fun x => ?_, upd_same, rfl⟩
      · rcases mem_set he with w | w
        · exact Nat.le_trans (hrb e w) (Nat.mul_le_mul_right _ (Nat.le_succ _))
        · rw [w]
          exact steps (hrb v (List.mem_of_getElem? e1)) hcd
      · rw [Dr.pev_set x (c * d) r (i + j) v e1, hre, Dr.pev_take_succ hd, Dr.pow_add']
        generalize x ^ i = X
        generalize x ^ j = Y
        grind
    · intro σ H5 z
      obtain ⟨g5, r, t5, t6, hrl, hrb, hre, k5, rfl⟩ := (hPw _ _ _).mp z
      refine (hPv _ _ _).mpr ⟨g5, r, _, _, _, _, hrl, fun c hc => ?_, fun x => ?_, k5, rfl⟩
      · rw [Nat.succ_mul]
        exact hrb c hc
      · rw [hre, List.take_length, Dr.pev_take_succ hc]
        grind
  · intro σ H3 z
    obtain ⟨g3, r, t3, t4, t5, t6, hrl, hrb, hre, k3, rfl⟩ := (hPv _ _ _).mp z
    (first | refine hX _ _ ?_ | skip); (try dsimp only); try walk_at "dr1"
    rw [List.take_length] at hre
    refine q l r H3 ⟨hrl, hre⟩ (fun c hc => ?_) nl g3 k3
    have h1 := hrb c hc
    have h2 : f.length * g.length * M ≤ 3600 * M := Nat.mul_le_mul_right _ (Nat.mul_le_mul (show f.length ≤ 60 by omega) (show g.length ≤ 60 by omega))
    show c.natAbs < 2 ^ (m + n + 12)
    rw [Nat.pow_add, ← hM]
    have : (2 : Nat) ^ 12 = 4096 := by decide
    have : 0 < M := by rw [hM]; exact Nat.pow_pos (by decide)
    omega
def sp_rests_of (K : PySem.W.Frag) : Sp := fun vs H Q _ => ∃ (p : Int) (b : Addr) (f : List Int), vs = [.int p, .ref b] ∧ SqL K H b (f.map V.int) ∧ f.length ≤ 60 ∧ (2 ≤ p ∧ p < 1000) ∧ ∀ (r : Addr) (H' : Hp), H r = none → Same H H' → H' r = some (.lst ((f.map (· % p)).map V.int)) → Q (.ref r) H'
theorem comp_mod {K : PySem.W.Frag} {H : Hp} {a : Addr} {l : List Int} {p : Int} {σ : St} {Q : VK} {i : Nat} (hS : SqL K H a (l.map V.int)) (hl : l.length ≤ 60) (hp : 0 < p) (hi : σ[i]? = some (some (.int p))) (q : ∀ r, H r = none → Q (.ref r) (upd H r (.lst ((l.map (· % p)).map V.int)))) :
    CompIt (Itl K a) [i] (fun _ H Q => Q true H) (tOp (rI (fun _ j => 0 < j) fun i j => V.int (i % j)) (tVar 0) (tVar 1)) σ H Q := by
  obtain ⟨Pc, hPc⟩ : ∃ Pc : Nat → List V → Hp → Prop, ∀ i ys H1, Pc i ys H1 ↔ (H1 = H ∧ ys = ((l.take i).map (· % p)).map V.int) := ⟨_, fun _ _ _ => Iff.rfl⟩
  (first | refine hX _ _ ?_ | skip); refine compI l Pc (by unfold sizeLine; omega) ((hPc _ _ _).mpr ⟨rfl, by simp⟩) (fun i ys H4 z => by obtain ⟨rfl, _⟩ := (hPc _ _ _).mp z; exact hS) ?_ ?_
  · intro j c ys H1 hc z
    obtain ⟨rfl, rfl⟩ := (hPc _ _ _).mp z
    simp only [capV, List.map_cons, List.map_nil, hi, Option.getD_some]
    (first | refine hX _ _ ?_ | skip); (try dsimp only); try walk_at "dr1"
    refine ⟨hp, (hPc _ _ _).mpr ⟨rfl, ?_⟩⟩
    rw [List.take_add_one, hc, List.map_append, List.map_append]
    simp
  · intro ys H1 z
    obtain ⟨rfl, rfl⟩ := (hPc _ _ _).mp z
    intro r hr
    have := q r hr
    rw [List.take_length]
    exact this
theorem mods_b {p : Int} (hp : 2 ≤ p ∧ p < 1000) (f : List Int) : Dr.PolyB (f.map (· % p)) 10 := fun c hc => by
  obtain ⟨x, _, rfl⟩ := List.mem_map.mp hc
  have := mod_in x (show 0 < p by omega)
  exact sm_of 1000 (by omega) (by decide)
theorem mods_r {p : Int} (hp : 2 ≤ p) (f : List Int) : ∀ x, x ∈ f.map (· % p) → 0 ≤ x ∧ x < p := fun c hc => by
  obtain ⟨x, _, rfl⟩ := List.mem_map.mp hc
  exact mod_in x (show 0 < p by omega)
theorem range_b {p : Int} (hp : p < 1000) {f : List Int} (h : ∀ x, x ∈ f → 0 ≤ x ∧ x < p) : Dr.PolyB f 10 := fun c hc => by
  have := h c hc
  exact sm_of 1000 (by omega) (by decide)
theorem ok_rests_of (B : Bi mg K w) (F : Fun K "rests_of" "rests_of" s_rests_of f fd) : FnOk P w K mg base CX0 1 f fd ["p", "f"] (sp_rests_of K) := by
  refine F.ok S_rests_of (fun vs H Q E h => ?_) (fun cdv A outer s H vs Q E hr h => ?_)
  · obtain ⟨p, b, f, rfl, _⟩ := h
    rfl
  obtain ⟨p, b, f, rfl, hS, hl, hp, q⟩ := h
  have S := S_rests_of
  refine ⟨_, ((pss_one (ps_ret (pe_comp [0] ["p"] rfl rfl ⟨rfl, trivial⟩ ⟨rfl, rfl, rfl, rfl, trivial⟩ rfl rfl (by decide) (by decide) rfl rfl (by decide) (pi_list (pv 1)) (fun _ _ _ _ => pts_nil) (fun _ _ _ _ => (pe_op op_mod (pv 0) (pv 1))))))), ?_⟩
  (try dsimp only); (first | refine hX _ _ ?_ | skip); (try dsimp only); (first | refine seqX (fun X hX => ?_) | skip); try walk_at "dr2"
  refine ⟨⟨_, hS⟩, comp_mod hS hl (by omega) rfl ?_⟩
  intro ls n_ls; generalize e_ls : upd _ ls _ = H1; obtain ⟨g1, k1⟩ := newH e_ls n_ls; clear e_ls
  exact q ls H1 n_ls g1 k1
def sp_poly_difference (K : PySem.W.Frag) : Sp := fun vs H Q _ => ∃ (a b : Addr) (f g : List Int) (m : Nat), vs = [.ref a, .ref b] ∧ SqL K H a (f.map V.int) ∧ SqL K H b (g.map V.int) ∧ (f.length ≤ 60 ∧ g.length ≤ 60) ∧ Dr.PolyB f m ∧ Dr.PolyB g m ∧
  ∀ (c : Addr) (r : List Int) (H' : Hp), r.length = max f.length g.length → (∀ x, Dr.pev r x = Dr.pev f x - Dr.pev g x) → Dr.PolyB r (m + 1) → H c = none → Same H H' → H' c = some (.lst (r.map V.int)) → Q (.ref c) H'
theorem ok_poly_difference (B : Bi mg K w) (F : Fun K "poly_difference" "poly_difference" s_poly_difference f fd) : FnOk P w K mg base CX0 1 f fd ["f", "g"] (sp_poly_difference K) := by
  refine F.ok S_poly_difference (fun vs H Q E h => ?_) (fun cdv A outer s H vs Q E hr h => ?_)
  · obtain ⟨a, b, f, g, m, rfl, _⟩ := h
    rfl
  obtain ⟨a, b, f, g, m, rfl, hS, hS', hl, hf, hg, q⟩ := h
  have S := S_poly_difference
  refine ⟨_, ((pss_cons (ps_set (i := 2) S.nd rfl (Or.inl rfl) (pe_callB (call_max2 rfl) rfl B.b_max L2.bt_max (pa_cons (pe_callB call_len_seq rfl B.b_len PySem.boot_len (pa_cons (pv 0) pa_nil)) (pa_cons (pe_callB call_len_seq rfl B.b_len PySem.boot_len (pa_cons (pv 1) pa_nil)) pa_nil))))
    (pss_cons (ps_set (i := 3) S.nd rfl (Or.inl rfl) (pe_op op_cat (pe_callTy call_list_of rfl B.b_list L2.bt_list (pa_cons (pv 0) pa_nil)) (pe_op op_rep (pe_lst (pa_cons pe_int pa_nil)) (pe_op op_sub (pv 2) (pe_callB call_len_seq rfl B.b_len PySem.boot_len (pa_cons (pv 0) pa_nil))))))
    (pss_cons (ps_for PassesOwn.never rfl (pi_enum rfl B.b_enumerate (pv 1)) (pg_tup rfl (pgs_cons (pg_name (i := 4) S.nd rfl (Or.inl rfl)) (pgs_cons (pg_name (i := 5) S.nd rfl (Or.inl rfl)) pgs_nil))) (pss_one (ps_augS (pv 3) (pv 4) get_list (pv 5) ip_sub set_list)))
    (pss_one (ps_ret (pv 3))))))), ?_⟩
  (try dsimp only); (first | refine hX _ _ ?_ | skip); (try dsimp only); (first | refine seqX (fun X hX => ?_) | skip); try walk_at "dr2"
  refine ⟨_, .inl hS, _, .inl hS', ?_⟩
  simp only [List.length_map]
  generalize eL : (if _ > (f.length : Int) then _ else (f.length : Int)) = L
  have bL : L = ((max f.length g.length : Nat) : Int) := by
    rw [← eL]
    split <;> omega
  clear eL
  subst bL
  (try dsimp only); (first | refine hX _ _ ?_ | skip); (try dsimp only); (first | refine seqX (fun X hX => ?_) | skip); try walk_at "dr2"
  refine ⟨_, .inl hS, ?_⟩
  intro l1 n_l1; generalize e_l1 : upd _ l1 _ = H1; obtain ⟨g1, k1⟩ := newH e_l1 n_l1; clear e_l1
  refine ⟨by decide, ?_⟩
  intro l2 n_l2; generalize e_l2 : upd _ l2 _ = H2; obtain ⟨g2, k2⟩ := newH e_l2 n_l2; clear e_l2
  refine ⟨_, .inl (g2.seq (g1.seq hS)), _, k2, by simp only [List.length_map]; omega, by simp only [List.length_map]; omega, by simp only [List.length_cons, List.length_nil, List.length_map]; unfold sizeLine; omega, ?_⟩
  intro l3 n_l3; generalize e_l3 : upd _ l3 _ = H3; obtain ⟨g3, k3⟩ := newH e_l3 n_l3; clear e_l3
  rw [rep_zero] at k3
  refine ⟨_, g3 _ _ (g2 _ _ k1), _, k3, by simp only [List.length_map, List.length_replicate]; unfold sizeLine; omega, ?_⟩
  intro l n_l; generalize e_l : upd _ l _ = H4; obtain ⟨g4, k4⟩ := newH e_l n_l; clear e_l
  have G4 := g1.trans (g2.trans (g3.trans g4))
  have nl : H l = none := g1.free (g2.free (g3.free n_l))
  obtain ⟨f0, ef0⟩ : ∃ f0, f0 = f ++ List.replicate (max f.length g.length - f.length) 0 := ⟨_, rfl⟩
  have k4 : H4 l = some (.lst (f0.map V.int)) := by
    rw [k4, ef0, List.map_append]
    congr 3
    simp only [List.length_map]
    congr 2
    omega
  have lf0 : f0.length = max f.length g.length := by rw [ef0, List.length_append, List.length_replicate]; omega
  have bf0 : Dr.PolyB f0 m := fun x hx => by
    rw [ef0] at hx
    rcases List.mem_append.mp hx with z | z
    · exact hf x z
    · rw [(List.mem_replicate.mp z).2]; exact Dr.Sm.zero _
  have ev0 : ∀ x, Dr.pev f0 x = Dr.pev f x := fun x => by rw [ef0, Dr.pev_append, Dr.pev_zeros]; simp
  clear ef0
  (try dsimp only); (first | refine hX _ _ ?_ | skip); (try dsimp only); (first | refine seqX (fun X hX => ?_) | skip); try walk_at "dr2"
  refine ⟨⟨_, G4.seq hS'⟩, ?_⟩
  obtain ⟨Pv, hPv⟩ : ∃ Pv : Nat → St → Hp → Prop, ∀ i σ H5, Pv i σ H5 ↔ (Same H H5 ∧ ∃ (r : List Int) (t4 t5 : Option V), r.length = max f.length g.length ∧ (∀ (k : Nat) (c : Int), r[k]? = some c → Dr.Sm c (m + 1) ∧ (i ≤ k → Dr.Sm c m)) ∧ (∀ x, Dr.pev r x = Dr.pev f x - Dr.pev (g.take i) x) ∧ H5 l = some (.lst (r.map V.int)) ∧ σ = [some (.ref a), some (.ref b), some (.int ((max f.length g.length : Nat) : Int)), some (.ref l), t4, t5]) := ⟨_, fun _ _ _ => Iff.rfl⟩
  (first | refine hX _ _ ?_ | skip); refine forE g Pv ((hPv _ _ _).mpr ⟨G4, f0, none, none, lf0, fun k c hc => ⟨(bf0 c (List.mem_of_getElem? hc)).mono (by omega), fun _ => bf0 c (List.mem_of_getElem? hc)⟩, fun x => by rw [ev0]; simp [Dr.pev], k4, rfl⟩) (fun i σ H3 z => by obtain ⟨g, _⟩ := (hPv _ _ _).mp z; exact g.seq hS') ?_ ?_
  · intro i d σ H5 t H6 hd z g6 ht
    obtain ⟨g5, r, t4, t5, hrl, hrb, hre, k5, rfl⟩ := (hPv _ _ _).mp z
    have k6 := g6 _ _ k5
    have hi := (List.getElem?_eq_some_iff.mp hd).1
    (first | refine hX _ _ ?_ | skip); (try dsimp only); try walk_at "dr1"
    refine ⟨_, SqT.of ht, rfl, _, _, rfl, _, _, rfl, rfl, ?_⟩
    try try walk_at "dr1"
    obtain ⟨v, e1, _, e3, e4⟩ := get_int (fs := r) (k := (i : Int)) (by omega) (by omega)
    refine ⟨by omega, _, SqL.of k6, _, e4, v, rfl, _, k6, _, e3, ?_⟩
    rw [set_int]
    rw [Int.toNat_natCast] at e1 ⊢
    refine (hPv _ _ _).mpr ⟨(g5.trans g6).up nl _, _, _, _, by rw [List.length_set]; exact hrl, fun k c hc => ?_, fun x => ?_, upd_same, rfl⟩
    · rw [List.getElem?_set] at hc
      split at hc
      · rename_i ek
        subst ek
        split at hc
        · cases hc
          exact ⟨(((hrb i v e1).2 (Nat.le_refl _)).sub (hg d (List.mem_of_getElem? hd))).mono (by omega), fun z => by omega⟩
        · cases hc
      · exact ⟨(hrb k c hc).1, fun z => (hrb k c hc).2 (by omega)⟩
    · rw [show v - d = v + -d by omega, Dr.pev_set x (-d) r i v e1, hre, Dr.pev_take_succ hd]
      generalize x ^ i = X
      grind
  · intro σ H5 z
    obtain ⟨g5, r, t4, t5, hrl, hrb, hre, k5, rfl⟩ := (hPv _ _ _).mp z
    (first | refine hX _ _ ?_ | skip); (try dsimp only); try walk_at "dr1"
    refine q l r H5 hrl (fun x => by rw [hre, List.take_length]) (fun c hc => ?_) nl g5 k5
    obtain ⟨k, hk, e⟩ := List.getElem_of_mem hc
    exact (hrb k c (by rw [List.getElem?_eq_getElem hk, e])).1
def sp_raised (K : PySem.W.Frag) : Sp := fun vs H Q _ => ∃ (a b : Addr) (f u : List Int) (w : Int) (m n k : Nat), vs = [.ref a, .int w, .ref b] ∧ SqL K H a (f.map V.int) ∧ SqL K H b (u.map V.int) ∧ f.length = u.length ∧ f.length ≤ 60 ∧ Dr.PolyB f m ∧ Dr.PolyB u n ∧ Dr.Sm w k ∧ (n ≤ 1000 ∧ k ≤ 10000) ∧
  ∀ (c : Addr) (H' : Hp), H c = none → Same H H' → H' c = some (.lst ((List.zipWith (fun a b => a + w * b) f u).map V.int)) → Q (.ref c) H'
theorem ok_raised (B : Bi mg K w) (F : Fun K "raised" "raised" s_raised f fd) : FnOk P w K mg base CX0 1 f fd ["f", "power", "more"] (sp_raised K) := by
  refine F.ok S_raised (fun vs H Q E h => ?_) (fun cdv A outer s H vs Q E hr h => ?_)
  · obtain ⟨a, b, f, u, w, m, n, k, rfl, _⟩ := h
    rfl
  obtain ⟨a, b, f, u, w, m, n, k, rfl, hS, hS', hfu, hl, hf, hu, hw, hnk, q⟩ := h
  have S := S_raised
  refine ⟨_, ((pss_one (ps_ret (pe_comp2 [1] ["power"] rfl rfl ⟨rfl, trivial⟩ ⟨rfl, rfl, rfl, rfl, trivial⟩ rfl rfl (by decide) (by decide) rfl rfl rfl (by decide) (pi_zip rfl B.b_zip (pv 0) (pv 2)) (fun _ _ _ _ => pts_nil) (fun _ _ _ _ => (pe_op op_add (pv 0) (pe_op op_mulW (pv 2) (pv 1)))))))), ?_⟩
  (try dsimp only); (first | refine hX _ _ ?_ | skip); (try dsimp only); (first | refine seqX (fun X hX => ?_) | skip); try walk_at "dr2"
  refine ⟨⟨_, hS⟩, ⟨_, hS'⟩, ?_⟩
  obtain ⟨Pc, hPc⟩ : ∃ Pc : Nat → List V → Hp → Prop, ∀ i ys H1, Pc i ys H1 ↔ (Same H H1 ∧ ys = ((List.zipWith (fun a b => a + w * b) f u).take i).map V.int) := ⟨_, fun _ _ _ => Iff.rfl⟩
  refine comp2Z f u Pc (by unfold sizeLine; omega) hfu ((hPc _ _ _).mpr ⟨Same.refl _, by simp⟩) (fun i ys H4 z => by obtain ⟨g, _⟩ := (hPc _ _ _).mp z; exact ⟨g.seq hS, g.seq hS'⟩) ?_ ?_
  · intro i x y ys H1 H2 hx hy z g2
    obtain ⟨g1, rfl⟩ := (hPc _ _ _).mp z
    (first | refine hX _ _ ?_ | skip); (try dsimp only); try walk_at "dr1"
    refine ⟨mulSm hw (hu y (List.mem_of_getElem? hy)) (by omega), (hPc _ _ _).mpr ⟨g1.trans g2, ?_⟩⟩
    rw [List.take_add_one, List.getElem?_zipWith, hx, hy, List.map_append]
    rfl
  · intro ys H1 z
    obtain ⟨g1, rfl⟩ := (hPc _ _ _).mp z
    rw [List.take_of_length_le (by rw [List.length_zipWith]; omega)]
    intro l n_l; generalize e_l : upd _ l _ = H2; obtain ⟨g2, k2⟩ := newH e_l n_l; clear e_l
    exact q l H2 (g1.free n_l) (g1.trans g2) k2
def sp_divided_by_prime (K : PySem.W.Frag) : Sp := fun vs H Q _ => ∃ (p : Int) (a b : Addr) (f g : List Int), vs = [.int p, .ref a, .ref b] ∧ SqL K H a (f.map V.int) ∧ SqL K H b (g.map V.int) ∧ (f.length ≤ 60 ∧ g.length ≤ 60) ∧ p ∈ Dr.primes ∧ (∀ x, x ∈ g → 0 ≤ x ∧ x < p) ∧ (∃ x, x ∈ g ∧ x ≠ 0) ∧
  ∀ (t c e : Addr) (n : Nat) (D R : List Int) (H' : Hp), Dr.IsDeg g (n : Int) → Dr.Divd p f g n D R → H c = none → H e = none → Same H H' → H' c = some (.lst (D.map V.int)) → H' e = some (.lst (R.map V.int)) → H' t = some (.tup [.ref c, .ref e]) → Q (.ref t) H'
theorem take_deg {g : List Int} {n : Nat} (h : ∀ (j : Nat) (b : Int), n < j → g[j]? = some b → b = 0) (hn : n < g.length) (x : Int) : Dr.pev (g.take (n + 1)) x = Dr.pev g x := by
  have e : g = g.take (n + 1) ++ List.replicate (g.length - (n + 1)) 0 := by
    refine List.ext_getElem (by rw [List.length_append, List.length_take, List.length_replicate]; omega) fun i h1 h2 => ?_
    by_cases ci : i < n + 1
    · rw [List.getElem_append_left (by rw [List.length_take]; omega), List.getElem_take]
    · rw [List.getElem_append_right (by rw [List.length_take]; omega), List.getElem_replicate]
      exact h i _ (by omega) (List.getElem?_eq_getElem h1)
  conv => rhs; rw [e]
  exact (Dr.pev_pad _ _ _).symm
inductive DpW (H : Hp) (p : Int) (f g : List Int) (n : Nat) (a b : Addr) (y : Int) (lq lr : Addr) (mm : Nat) (σ : St) (H6 : Hp) : Prop
  | mk (q0 : Same H H6) (place : Int) (D R : List Int) (t8 t9 : Option V) (q1 : Dr.Dv p f g n place D R) (q2 : (-1 ≤ place ∨ f.length ≤ n)) (q3 : place < (f.length : Int) - n) (q4 : H6 lq = some (.lst (D.map V.int))) (q5 : H6 lr = some (.lst (R.map V.int))) (q6 : mm = (place + 1).toNat) (q7 : σ = [some (.int p), some (.ref a), some (.ref b), some (.int (n : Int)), some (.int y), some (.ref lq), some (.ref lr), some (.int place), t8, t9])
inductive DpI (H : Hp) (p : Int) (g : List Int) (n pl : Nat) (tm : Int) (R D : List Int) (a b : Addr) (y : Int) (lq lr : Addr) (j : Nat) (σ : St) (H8 : Hp) : Prop
  | mk (q0 : Same H H8) (S : List Int) (t9 : Option V) (q1 : Dr.Dw p g n pl tm R j S) (q2 : H8 lq = some (.lst ((D.set pl tm).map V.int))) (q3 : H8 lr = some (.lst (S.map V.int))) (q4 : σ = [some (.int p), some (.ref a), some (.ref b), some (.int (n : Int)), some (.int y), some (.ref lq), some (.ref lr), some (.int (pl : Int)), some (.int tm), t9])
theorem ok_divided_by_prime (B : Bi mg K w) (d_inverse_of : Def P w K mg base "inverse_of" 2 ["p", "e", "x"] (sp_inverse_of K)) (d_degree_of : Def P w K mg base "degree_of" 1 ["f"] (sp_degree_of K)) (d_rests_of : Def P w K mg base "rests_of" 1 ["p", "f"] (sp_rests_of K)) (F : Fun K "divided_by_prime" "divided_by_prime" s_divided_by_prime f fd) : FnOk P w K mg base CX0 3 f fd ["p", "f", "g"] (sp_divided_by_prime K) := by
  refine F.ok S_divided_by_prime (fun vs H Q E h => ?_) (fun cdv A outer s H vs Q E hr h => ?_)
  · obtain ⟨p, a, b, f, g, rfl, _⟩ := h
    rfl
  obtain ⟨p, a, b, f, g, rfl, hS, hS', hl, hpp, hg, hnz, q⟩ := h
  have S := S_divided_by_prime
  have p2 := Dr.primes_ge hpp
  have hp : 2 ≤ p ∧ p < 1000 := by omega
  refine ⟨_, ((pss_cons (ps_set (i := 3) S.nd rfl (Or.inl rfl) (pe_def d_degree_of hr rfl (pa_cons (pv 2) pa_nil)))
    (pss_cons (ps_set (i := 4) S.nd rfl (Or.inl rfl) (pe_def d_inverse_of hr rfl (pa_cons (pv 0) (pa_cons pe_int (pa_cons (pe_ix ix_list (pv 2) (pv 3) (fun _ _ => rfl)) pa_nil)))))
    (pss_cons (ps_set (i := 5) S.nd rfl (Or.inl rfl) (pe_op op_rep (pe_lst (pa_cons pe_int pa_nil)) (pe_op op_sub (pe_callB call_len_seq rfl B.b_len PySem.boot_len (pa_cons (pv 1) pa_nil)) (pv 3))))
    (pss_cons (ps_set (i := 6) S.nd rfl (Or.inl rfl) (pe_def d_rests_of hr rfl (pa_cons (pv 0) (pa_cons (pv 1) pa_nil))))
    (pss_cons (ps_set (i := 7) S.nd rfl (Or.inl rfl) (pe_op op_sub (pe_op op_sub (pe_callB call_len_seq rfl B.b_len PySem.boot_len (pa_cons (pv 1) pa_nil)) pe_int) (pv 3)))
    (pss_cons (ps_while PassesOwn.never (pt_cmpR op_ge (pv 7) pe_int (nomark _)) (pss_cons (ps_set (i := 8) S.nd rfl (Or.inl rfl) (pe_op op_mod (pe_op op_mulW (pe_ix ix_list (pv 6) (pe_op op_add (pv 7) (pv 3)) (fun _ _ => rfl)) (pv 4)) (pv 0)))
    (pss_cons (ps_asg (pv 8) (pg_sub (pv 5) (pv 7) set_list))
    (pss_cons (ps_for PassesOwn.never rfl (pi_range1 rfl B.b_range (pa_cons (pe_op op_add (pv 3) pe_int) pa_nil)) (pg_name (i := 9) S.nd rfl (Or.inl rfl)) (pss_one (ps_asg (pe_op op_mod (pe_op op_sub (pe_ix ix_list (pv 6) (pe_op op_add (pv 7) (pv 9)) (fun _ _ => rfl)) (pe_op op_mulW (pv 8) (pe_ix ix_list (pv 2) (pv 9) (fun _ _ => rfl)))) (pv 0)) (pg_sub (pv 6) (pe_op op_add (pv 7) (pv 9)) set_list))))
    (pss_one (ps_aug (i := 7) S.nd rfl (Or.inl rfl) pe_int ip_sub))))))
    (pss_one (ps_ret (pe_tup (pa_cons (pv 5) (pa_cons (pe_slice sl_list (pv 6) po_none (po_some (pv 3))) pa_nil)))))))))))), ?_⟩
  (try dsimp only); (first | refine hX _ _ ?_ | skip); (try dsimp only); (first | refine seqX (fun X hX => ?_) | skip); try walk_at "dr2"; (try simp only [sp_inverse_of, sp_degree_of, sp_rests_of]); try walk_at "dr2"
  refine ⟨g, hS', fun d H1 hd g1 => ?_⟩
  obtain ⟨n, c0, rfl, hc0, c0n, hab⟩ : ∃ (k : Nat) (c : Int), d = (k : Int) ∧ g[k]? = some c ∧ c ≠ 0 ∧ ∀ (j : Nat) (b : Int), k < j → g[j]? = some b → b = 0 := by
    rcases hd with ⟨_, z⟩ | z
    · obtain ⟨x, hx, x0⟩ := hnz
      exact absurd (z x hx) x0
    · exact z
  have hn := (List.getElem?_eq_some_iff.mp hc0).1
  have r0 := hg c0 (List.mem_of_getElem? hc0)
  have c0p : c0 % p ≠ 0 := by rw [Int.emod_eq_of_lt r0.1 r0.2]; exact c0n
  (try dsimp only); (first | refine hX _ _ ?_ | skip); (try dsimp only); (first | refine seqX (fun X hX => ?_) | skip); try walk_at "dr2"; (try simp only [sp_inverse_of, sp_degree_of, sp_rests_of]); try walk_at "dr2"
  refine ⟨_, g1.seq hS', _, atI_nat (j := n) (by rw [List.getElem?_map, hc0]; rfl), _, rfl, hpp, Nat.le_trans (intBits_le_64 (by omega) (by omega)) (by decide), .inr c0p, fun y H2 hy g2 => ?_⟩
  have e1 : Int.toNat 1 = 1 := rfl
  rw [e1] at hy
  have hy1 : (c0 * y - 1) % p = 0 := by have := hy.one; rwa [Int.pow_one] at this
  have hylo := hy.lo
  have hyhi : y < p := by have := hy.hi; rwa [Int.pow_one] at this
  have G2 := g1.trans g2
  (try dsimp only); (first | refine hX _ _ ?_ | skip); (try dsimp only); (first | refine seqX (fun X hX => ?_) | skip); try walk_at "dr2"; (try simp only [sp_inverse_of, sp_degree_of, sp_rests_of]); try walk_at "dr2"
  refine ⟨by decide, ?_⟩
  intro l1 n_l1; generalize e_l1 : upd _ l1 _ = H3; obtain ⟨g3, k3⟩ := newH e_l1 n_l1; clear e_l1
  refine ⟨_, .inl (g3.seq (G2.seq hS)), _, k3, by simp only [List.length_map]; omega, by simp only [List.length_map]; omega, by simp only [List.length_cons, List.length_nil, List.length_map]; unfold sizeLine; omega, ?_⟩
  intro lq n_lq; generalize e_lq : upd _ lq _ = H4; obtain ⟨g4, k4⟩ := newH e_lq n_lq; clear e_lq
  rw [rep_zero] at k4
  have G4 := G2.trans (g3.trans g4)
  have nq : H lq = none := G2.free (g3.free n_lq)
  (try dsimp only); (first | refine hX _ _ ?_ | skip); (try dsimp only); (first | refine seqX (fun X hX => ?_) | skip); try walk_at "dr2"; (try simp only [sp_inverse_of, sp_degree_of, sp_rests_of]); try walk_at "dr2"
  refine ⟨f, G4.seq hS, by omega, hp.1, hp.2, fun lr H5 nr g5 k5 => ?_⟩
  have G5 := G4.trans g5
  have nr0 : H lr = none := G4.free nr
  have kq5 := g5 _ _ k4
  have nqr : lq ≠ lr := fun z => by rw [z, nr] at k4; cases k4
  (try dsimp only); (first | refine hX _ _ ?_ | skip); (try dsimp only); (first | refine seqX (fun X hX => ?_) | skip); try walk_at "dr2"; (try simp only [sp_inverse_of, sp_degree_of, sp_rests_of]); try walk_at "dr2"
  refine ⟨_, .inl (G5.seq hS), ?_⟩
  simp only [List.length_map]
  have eq0 : ((f.length : Int) - (n : Int)).toNat = f.length - n := by omega
  rw [List.length_map, eq0] at kq5
  (try dsimp only); (first | refine hX _ _ ?_ | skip); (try dsimp only); (first | refine seqX (fun X hX => ?_) | skip); try walk_at "dr2"; (try simp only [sp_inverse_of, sp_degree_of, sp_rests_of]); try walk_at "dr2"
  obtain ⟨W, hW⟩ : ∃ W : Nat → St → Hp → Prop, ∀ mm σ H6, W mm σ H6 ↔ (DpW H p f g n a b y lq lr mm σ H6) := ⟨_, fun _ _ _ => Iff.rfl⟩
  (first | refine hX _ _ ?_ | skip); refine whB W _ ((hW _ _ _).mpr ⟨G5, _, _, _, none, none, Dr.Dv.start hp.1, by omega, by omega, kq5, k5, rfl, rfl⟩) ?_
  intro mm σ H6 z
  refine byX fun X hX => ?_; obtain ⟨g6, place, D, R, t8, t9, hv, hpl, hpl2, kD, kR, rfl, rfl⟩ := (hW _ _ _).mp z; refine hX ?_; clear hX X
  (first | refine hX _ _ ?_ | skip); (try dsimp only); try walk_at "dr1"; (try simp only [sp_inverse_of, sp_degree_of, sp_rests_of]); try walk_at "dr1"
  refine ite2 (fun c1 => ?_) (fun c1 => ?_)
  · refine ⟨_, fun _ _ h => h, ?_⟩
    obtain ⟨pl, rfl⟩ : ∃ pl : Nat, place = (pl : Int) := ⟨place.toNat, by omega⟩
    have hpn : pl + n < f.length := by omega
    have lR := hv.lr
    have lD := hv.lq
    obtain ⟨w, ew, ew2, _, _⟩ := get_int (fs := R) (k := (pl : Int) + (n : Int)) (by omega) (by omega)
    rw [show ((pl : Int) + (n : Int)).toNat = pl + n by omega] at ew
    have rw0 := hv.rr w (List.mem_of_getElem? ew)
    have mt := mod_in (w * y) (show 0 < p by omega)
    obtain ⟨v0, _, _, e3, _⟩ := get_int (fs := D) (k := (pl : Int)) (by omega) (by omega)
    (try dsimp only); (first | refine hX _ _ ?_ | skip); (try dsimp only); (first | refine seqX (fun X hX => ?_) | skip); try walk_at "dr2"; (try simp only [sp_inverse_of, sp_degree_of, sp_rests_of]); try walk_at "dr2"
    refine ⟨_, SqL.of kR, _, ew2, _, rfl, IntMulOk.of_left (intBits_le_64 (by omega) (by omega)), by omega, ?_⟩
    obtain ⟨tm, etm⟩ : ∃ tm, tm = w * y % p := ⟨_, rfl⟩
    rw [← etm] at mt
    rw [← etm]
    (try dsimp only); (first | refine hX _ _ ?_ | skip); (try dsimp only); (first | refine seqX (fun X hX => ?_) | skip); try walk_at "dr2"; (try simp only [sp_inverse_of, sp_degree_of, sp_rests_of]); try walk_at "dr2"
    refine ⟨_, kD, _, e3, ?_⟩
    rw [set_int, Int.toNat_natCast]
    generalize e7 : upd H6 lq _ = H7
    have kD7 : H7 lq = some (.lst ((D.set pl tm).map V.int)) := by rw [← e7, upd_same]
    have kR7 : H7 lr = some (.lst (R.map V.int)) := by rw [← e7, upd_ne (Ne.symm nqr)]; exact kR
    have g7 : Same H H7 := by rw [← e7]; exact g6.up nq _
    clear e7
    (try dsimp only); (first | refine hX _ _ ?_ | skip); (try dsimp only); (first | refine seqX (fun X hX => ?_) | skip); try walk_at "dr2"; (try simp only [sp_inverse_of, sp_degree_of, sp_rests_of]); try walk_at "dr2"
    refine ⟨by omega, by omega, ?_⟩
    obtain ⟨Pw, hPw⟩ : ∃ Pw : Nat → St → Hp → Prop, ∀ j σ H8, Pw j σ H8 ↔ (DpI H p g n pl tm R D a b y lq lr j σ H8) := ⟨_, fun _ _ _ => Iff.rfl⟩
    (first | refine hX _ _ ?_ | skip); refine forR Pw ((hPw _ _ _).mpr ⟨g7, R, _, Dr.Dw.start hv.rr, kD7, kR7, rfl⟩) ?_ ?_
    · intro j σ H8 hj z
      obtain ⟨g8, S, t9, hw, kD8, kS, rfl⟩ := (hPw _ _ _).mp z
      have hj2 : j ≤ n := by omega
      have lS := hw.len
      obtain ⟨c, ec, ec2, ec3, _⟩ := get_int (fs := S) (k := (pl : Int) + (0 + (j : Int))) (by omega) (by omega)
      have ejn : ((pl : Int) + (0 + (j : Int))).toNat = pl + j := by omega
      rw [ejn] at ec
      obtain ⟨bj, ebj⟩ : ∃ bj, g[j]? = some bj := ⟨_, List.getElem?_eq_getElem (show j < g.length by omega)⟩
      have rc := hw.rr c (List.mem_of_getElem? ec)
      have rb := hg bj (List.mem_of_getElem? ebj)
      have ab : atI (g.map V.int) (0 + (j : Int)) = some (.int bj) := by
        rw [Int.zero_add]
        exact atI_nat (by rw [List.getElem?_map, ebj]; rfl)
      (first | refine hX _ _ ?_ | skip); (try dsimp only); try walk_at "dr1"; (try simp only [sp_inverse_of, sp_degree_of, sp_rests_of]); try walk_at "dr1"
      refine ⟨_, SqL.of kS, _, ec2, _, g8.seq hS', _, ab, _, rfl, IntMulOk.of_left (intBits_le_64 (by omega) (by omega)), _, rfl, by omega, _, kS, _, ec3, ?_⟩
      rw [set_int, ejn]
      refine (hPw _ _ _).mpr ⟨g8.up nr0 _, _, _, Dr.Dw.step hp.1 hw ec ebj hj2 (fun e => ?_), by rw [upd_ne nqr]; exact kD8, upd_same, rfl⟩
      subst e
      rw [hc0] at ebj
      cases ebj
      have eR : R.getD (pl + j) 0 = w := by rw [List.getD_eq_getElem?_getD, ew]; rfl
      rw [eR, etm]
      have h1 := Dr.dvd_mul_l (-w) hy1
      have h2 := Dr.dvd_mul_l (-c0) (Dr.rest_sub p (w * y))
      have := Dr.dvd_add_of h1 h2
      refine Eq.trans (congrArg (· % p) ?_) this
      generalize w * y % p = T
      grind
    · intro σ H8 z
      obtain ⟨g8, S, t9, hw, kD8, kS, rfl⟩ := (hPw _ _ _).mp z
      rw [show ((n : Int) + 1).toNat = n + 1 by omega] at hw
      (first | refine hX _ _ ?_ | skip); (try dsimp only); try walk_at "dr1"; (try simp only [sp_inverse_of, sp_degree_of, sp_rests_of]); try walk_at "dr1"
      refine ⟨((pl : Int) - 1 + 1).toNat, by omega, (hW _ _ _).mpr ⟨g8, _, _, _, _, _, hv.step hpn (take_deg hab hn) mt hw, by omega, by omega, kD8, kS, rfl, rfl⟩⟩
  · (first | refine hX _ _ ?_ | skip); (try dsimp only); try walk_at "dr1"; (try simp only [sp_inverse_of, sp_degree_of, sp_rests_of]); try walk_at "dr1"
    have hd2 := hv.done (by omega)
    refine ⟨_, SqL.of kR, ?_⟩
    intro le n_le; generalize e_le : upd _ le _ = H7; obtain ⟨g7, k7⟩ := newH e_le n_le; clear e_le
    rw [cut_to V.int _ (by omega), Int.toNat_natCast] at k7
    refine ⟨by decide, ?_⟩
    intro lt n_lt; generalize e_lt : upd _ lt _ = H8; obtain ⟨g8, k8⟩ := newH e_lt n_lt; clear e_lt
    exact q lt lq le n D _ H8 hd hd2 nq (g6.free n_le) (g6.trans (g7.trans g8)) (g8 _ _ (g7 _ _ kD)) (g8 _ _ k7) k8
def sp_inverse_beside (K : PySem.W.Frag) : Sp := fun vs H Q _ => ∃ (p : Int) (a b : Addr) (h g : List Int), vs = [.int p, .ref a, .ref b] ∧ SqL K H a (h.map V.int) ∧ SqL K H b (g.map V.int) ∧ (2 ≤ g.length ∧ g.length ≤ 7 ∧ h.length ≤ 7) ∧ p ∈ Dr.primes ∧ (∀ x, x ∈ g → 0 ≤ x ∧ x < p) ∧ g.getLast? = some 1 ∧
  ∀ H', Same H H' → (¬ Dr.Bez p g h → Q .non H') ∧ ∀ (c : Addr) (t : List Int), Dr.Inv p g h t → (∀ x, x ∈ t → 0 ≤ x ∧ x < p) → (1 ≤ t.length ∧ t.length ≤ 43) → H c = none → H' c = some (.lst (t.map V.int)) → Q (.ref c) H'
theorem deg_of {p : Int} {g : List Int} {n : Nat} (hg : ∀ x, x ∈ g → 0 ≤ x ∧ x < p) (h : Dr.IsDeg g (n : Int)) : Dr.DegP p g n := by
  rcases h with ⟨z, _⟩ | ⟨k, c, e, hk, c0, hab⟩
  · omega
  · have : k = n := by omega
    subst this
    have r := hg c (List.mem_of_getElem? hk)
    refine ⟨?_, fun j hj => ?_⟩
    · rw [List.getD_eq_getElem?_getD, hk]
      show c % p ≠ 0
      rw [Int.emod_eq_of_lt r.1 r.2]
      exact c0
    · rw [List.getD_eq_getElem?_getD]
      cases w : g[j]? with
      | none => simp
      | some b => rw [hab j b hj w]; simp
theorem deg_last {p : Int} (hp : 2 ≤ p) {g : List Int} (h : g.getLast? = some 1) : Dr.DegP p g (g.length - 1) := by
  rw [List.getLast?_eq_getElem?] at h
  have := (List.getElem?_eq_some_iff.mp h).1
  refine ⟨?_, fun j hj => by rw [Dr.getD_len (by omega)]; simp⟩
  rw [List.getD_eq_getElem?_getD, h]
  show (1 : Int) % p ≠ 0
  rw [Int.emod_eq_of_lt (by omega) (by omega)]
  decide
inductive IbW (K : PySem.W.Frag) (H : Hp) (p : Int) (a b : Addr) (g h : List Int) (mm : Nat) (σ : St) (H6 : Hp) : Prop
  | mk (q0 : Same H H6) (A B a0 a1 b0 b1 : Addr) (r0 t0 r1 t1 : List Int) (d0 : Nat) (t5 t6 : Option V) (q1 : (H6 A = some (.tup [.ref a0, .ref a1]) ∧ H6 B = some (.tup [.ref b0, .ref b1]))) (q2 : (SqL K H6 a0 (r0.map V.int) ∧ H6 a1 = some (.lst (t0.map V.int)) ∧ H6 b0 = some (.lst (r1.map V.int)) ∧ H6 b1 = some (.lst (t1.map V.int)))) (q3 : (Dr.Row p g h r0 t0 ∧ Dr.Row p g h r1 t1 ∧ Dr.Eu p g h r0 r1)) (q4 : Dr.DegP p r0 d0) (q5 : (1 ≤ d0 ∧ r1.length ≤ d0 ∧ r0.length ≤ 7)) (q6 : (∀ x, x ∈ r0 → 0 ≤ x ∧ x < p)) (q7 : (∀ x, x ∈ r1 → 0 ≤ x ∧ x < p)) (q8 : (∀ x, x ∈ t0 → 0 ≤ x ∧ x < p)) (q9 : (∀ x, x ∈ t1 → 0 ≤ x ∧ x < p)) (q10 : (1 ≤ t0.length ∧ 1 ≤ t1.length ∧ t0.length + 7 * mm ≤ 43 ∧ t1.length + 7 * mm ≤ 43)) (q11 : mm = r1.length) (q12 : σ = [some (.int p), some (.ref a), some (.ref b), some (.ref A), some (.ref B), t5, t6])
theorem ok_inverse_beside (B : Bi mg K w) (d_inverse_of : Def P w K mg base "inverse_of" 2 ["p", "e", "x"] (sp_inverse_of K)) (d_degree_of : Def P w K mg base "degree_of" 1 ["f"] (sp_degree_of K)) (d_poly_product : Def P w K mg base "poly_product" 1 ["f", "g"] (sp_poly_product K)) (d_rests_of : Def P w K mg base "rests_of" 1 ["p", "f"] (sp_rests_of K)) (d_poly_difference : Def P w K mg base "poly_difference" 1 ["f", "g"] (sp_poly_difference K)) (d_divided_by_prime : Def P w K mg base "divided_by_prime" 3 ["p", "f", "g"] (sp_divided_by_prime K)) (F : Fun K "inverse_beside" "inverse_beside" s_inverse_beside f fd) : FnOk P w K mg base CX0 4 f fd ["p", "h", "g"] (sp_inverse_beside K) := by
  refine F.ok S_inverse_beside (fun vs H Q E h => ?_) (fun cdv A outer s H vs Q E hr h => ?_)
  · obtain ⟨p, a, b, h, g, rfl, _⟩ := h
    rfl
  obtain ⟨p, a, b, h, g, rfl, hS, hS', hl, hpp, hg, hg1, q⟩ := h
  have S := S_inverse_beside
  have p2 := Dr.primes_ge hpp
  have hp : 2 ≤ p ∧ p < 1000 := by omega
  refine ⟨_, ((pss_cons (ps_set (i := 3) S.nd rfl (Or.inl rfl) (pe_tup (pa_cons (pv 2) (pa_cons (pe_lst (pa_cons pe_int pa_nil)) pa_nil))))
    (pss_cons (ps_set (i := 4) S.nd rfl (Or.inl rfl) (pe_tup (pa_cons (pe_ix ix_tup (pe_def d_divided_by_prime hr rfl (pa_cons (pv 0) (pa_cons (pv 1) (pa_cons (pv 2) pa_nil)))) pe_int (fun _ _ => rfl)) (pa_cons (pe_lst (pa_cons pe_int pa_nil)) pa_nil))))
    (pss_cons (ps_while PassesOwn.never (pt_cmpR op_gt (pe_def d_degree_of hr rfl (pa_cons (pe_ix ix_tup (pv 4) pe_int (fun _ _ => rfl)) pa_nil)) pe_int (nomark _)) (pss_cons (ps_set (i := 5) S.nd rfl (Or.inl rfl) (pe_def d_divided_by_prime hr rfl (pa_cons (pv 0) (pa_cons (pe_ix ix_tup (pv 3) pe_int (fun _ _ => rfl)) (pa_cons (pe_ix ix_tup (pv 4) pe_int (fun _ _ => rfl)) pa_nil)))))
    (pss_cons (ps_set (i := 6) S.nd rfl (Or.inl rfl) (pe_tup (pa_cons (pe_ix ix_tup (pv 5) pe_int (fun _ _ => rfl)) (pa_cons (pe_def d_rests_of hr rfl (pa_cons (pv 0) (pa_cons (pe_def d_poly_difference hr rfl (pa_cons (pe_ix ix_tup (pv 3) pe_int (fun _ _ => rfl)) (pa_cons (pe_def d_poly_product hr rfl (pa_cons (pe_ix ix_tup (pv 5) pe_int (fun _ _ => rfl)) (pa_cons (pe_ix ix_tup (pv 4) pe_int (fun _ _ => rfl)) pa_nil))) pa_nil))) pa_nil))) pa_nil))))
    (pss_cons (ps_set (i := 3) S.nd rfl (Or.inl rfl) (pv 4))
    (pss_one (ps_set (i := 4) S.nd rfl (Or.inl rfl) (pv 6)))))))
    (pss_cons (ps_if (pt_cmpR op_eq (pe_def d_degree_of hr rfl (pa_cons (pe_ix ix_tup (pv 4) pe_int (fun _ _ => rfl)) pa_nil)) (pe_un un_neg pe_int) (nomark _)) (pss_one (ps_ret pe_non)) pss_nil)
    (pss_one (ps_ret (pe_def d_rests_of hr rfl (pa_cons (pv 0) (pa_cons (pe_def d_poly_product hr rfl (pa_cons (pe_ix ix_tup (pv 4) pe_int (fun _ _ => rfl)) (pa_cons (pe_lst (pa_cons (pe_def d_inverse_of hr rfl (pa_cons (pv 0) (pa_cons pe_int (pa_cons (pe_ix ix_list (pe_ix ix_tup (pv 4) pe_int (fun _ _ => rfl)) pe_int (fun _ _ => rfl)) pa_nil)))) pa_nil)) pa_nil))) pa_nil)))))))))), ?_⟩
  have nzg : ∃ x, x ∈ g ∧ x ≠ 0 := ⟨1, List.mem_of_getLast? hg1, by decide⟩
  (try dsimp only); (first | refine hX _ _ ?_ | skip); (try dsimp only); (first | refine seqX (fun X hX => ?_) | skip); try walk_at "dr2"; (try simp only [sp_inverse_of, sp_degree_of, sp_poly_product, sp_rests_of, sp_poly_difference, sp_divided_by_prime]); try walk_at "dr2"
  refine ⟨by decide, ?_⟩
  intro l1 n_l1; generalize e_l1 : upd _ l1 _ = H1; obtain ⟨g1, k1⟩ := newH e_l1 n_l1; clear e_l1
  refine ⟨by decide, ?_⟩
  intro lA n_lA; generalize e_lA : upd _ lA _ = H2; obtain ⟨g2, k2⟩ := newH e_lA n_lA; clear e_lA
  have G2 := g1.trans g2
  (try dsimp only); (first | refine hX _ _ ?_ | skip); (try dsimp only); (first | refine seqX (fun X hX => ?_) | skip); try walk_at "dr2"; (try simp only [sp_inverse_of, sp_degree_of, sp_poly_product, sp_rests_of, sp_poly_difference, sp_divided_by_prime]); try walk_at "dr2"
  refine ⟨h, G2.seq hS, g, G2.seq hS', by omega, by omega, hpp, hg, nzg, fun lt lc le n D R H3 hd hv nc ne g3 kc ke kt => ?_⟩
  have dn := deg_of hg hd
  have dl := deg_last hp.1 hg1
  have en : n = g.length - 1 := by
    have h1 : ¬ n < g.length - 1 := fun z => dl.1 (dn.2 _ z)
    have h2 := dn.lt
    omega
  have lr := hv.lr
  have row1 := Dr.Row.second hv.eq
  have eu : Dr.Eu p g h g R := (Dr.Eu.start p g h).swap.step hv.eq
  refine ⟨_, SqT.of kt, _, atI_nat (j := 1) rfl, by decide, ?_⟩
  intro l4 n_l4; generalize e_l4 : upd _ l4 _ = H4; obtain ⟨g4, k4⟩ := newH e_l4 n_l4; clear e_l4
  refine ⟨by decide, ?_⟩
  intro lR n_lR; generalize e_lR : upd _ lR _ = H5; obtain ⟨g5, k5⟩ := newH e_lR n_lR; clear e_lR
  have G3 := G2.trans g3
  have G5 := G3.trans (g4.trans g5)
  have one : ∀ x, x ∈ [(1 : Int)] → 0 ≤ x ∧ x < p := fun x hx => by rw [List.mem_singleton.mp hx]; omega
  have nought : ∀ x, x ∈ [(0 : Int)] → 0 ≤ x ∧ x < p := fun x hx => by rw [List.mem_singleton.mp hx]; omega
  (try dsimp only); (first | refine hX _ _ ?_ | skip); (try dsimp only); (first | refine seqX (fun X hX => ?_) | skip); try walk_at "dr2"; (try simp only [sp_inverse_of, sp_degree_of, sp_poly_product, sp_rests_of, sp_poly_difference, sp_divided_by_prime]); try walk_at "dr2"
  obtain ⟨W, hW⟩ : ∃ W : Nat → St → Hp → Prop, ∀ mm σ H6, W mm σ H6 ↔ (IbW K H p a b g h mm σ H6) := ⟨_, fun _ _ _ => Iff.rfl⟩
  (first | refine hX _ _ ?_ | skip); refine whB W R.length ((hW _ _ _).mpr ⟨G5, lA, lR, b, l1, le, l4, g, [0], R, [1], g.length - 1, none, none, ⟨g5 _ _ (g4 _ _ (g3 _ _ k2)), k5⟩, ⟨G5.seq hS', g5 _ _ (g4 _ _ (g3 _ _ (g2 _ _ k1))), g5 _ _ (g4 _ _ ke), g5 _ _ k4⟩, ⟨Dr.Row.first p g h, row1, eu⟩, dl, ⟨by omega, by omega, by omega⟩, hg, hv.rr, nought, one, ⟨by simp, by simp, by simp; omega, by simp; omega⟩, rfl, rfl⟩) ?_
  intro mm σ H6 z
  refine byX fun X hX => ?_; obtain ⟨g6, A, B', a0, a1, b0, b1, r0, t0, r1, t1, d0, t5, t6, ⟨kA, kB⟩, ⟨sa0, ka1, kb0, kb1⟩, ⟨w0, w1, eu1⟩, dg0, ⟨hd0, hr1, hr0⟩, rr0, rr1, rt0, rt1, ⟨lt0, lt1, lt2, lt3⟩, rfl, rfl⟩ := (hW _ _ _).mp z; refine hX ?_; clear hX X
  (first | refine hX _ _ ?_ | skip); (try dsimp only); try walk_at "dr1"; (try simp only [sp_inverse_of, sp_degree_of, sp_poly_product, sp_rests_of, sp_poly_difference, sp_divided_by_prime]); try walk_at "dr1"
  refine ⟨_, SqT.of kB, _, atI_nat (j := 0) rfl, _, rfl, r1, SqL.of kb0, fun d H7 hd7 g7 => ite2 (fun c1 => ?_) (fun c1 => ?_)⟩
  · have nz1 : ∃ x, x ∈ r1 ∧ x ≠ 0 := by
      rcases hd7 with ⟨z, _⟩ | ⟨k, c, _, hk, c0, _⟩
      · omega
      · exact ⟨c, List.mem_of_getElem? hk, c0⟩
    refine ⟨_, fun _ _ h => h, _, SqT.of (g7 _ _ kA), _, atI_nat (j := 0) rfl, _, SqT.of (g7 _ _ kB), _, atI_nat (j := 0) rfl, _, rfl, _, rfl, r0, g7.seq sa0, r1, SqL.of (g7 _ _ kb0), by omega, by omega, hpp, rr1, nz1, fun lt lc le n D R H8 hdn hv nc ne g8 kc ke kt => ?_⟩
    have en : (n : Int) = d := hdn.uniq hd7
    have dn1 := deg_of rr1 hdn
    have lD := hv.lq
    have lR := hv.lr
    have ln := dn1.lt
    have ld0 := dg0.lt
    have G8 := g7.trans g8
    have kA8 := G8 _ _ kA
    have kB8 := G8 _ _ kB
    have ka18 := G8 _ _ ka1
    have kb08 := G8 _ _ kb0
    have kb18 := G8 _ _ kb1
    clear kA kB ka1 kb0 kb1 hd7
    refine ⟨_, SqT.of kt, _, atI_nat (j := 1) rfl, _, SqT.of kA8, _, atI_nat (j := 1) rfl, _, SqT.of kt, _, atI_nat (j := 0) rfl, _, SqT.of kB8, _, atI_nat (j := 1) rfl, _, rfl, _, rfl, D, SqL.of kc, t1, SqL.of kb18, by omega, by omega, by omega, by omega, 10, range_b hp.2 hv.rq, 10, range_b hp.2 rt1, by decide, by decide, fun lp pr H9 hpr bpr np g9 kp => ?_⟩
    have lpr := hpr.len
    refine ⟨_, rfl, t0, SqL.of (g9 _ _ ka18), pr, SqL.of kp, by omega, by omega, 32, fun x hx => ((range_b hp.2 rt0) x hx).mono (by decide), bpr, fun ld df H10 ldf edf bdf nd g10 kd => ?_⟩
    refine ⟨df, SqL.of kd, by omega, hp.1, hp.2, fun lq H11 nq g11 kq => ⟨by decide, ?_⟩⟩
    intro lF n_lF; generalize e_lF : upd _ lF _ = H12; obtain ⟨g12, k12⟩ := newH e_lF n_lF; clear e_lF
    have G12 := g9.trans (g10.trans (g11.trans g12))
    refine ⟨R.length, by omega, (hW _ _ _).mpr ⟨g6.trans (G8.trans G12), B', lF, b0, b1, le, lq, r1, t1, R, df.map (· % p), n, _, _, ⟨G12 _ _ kB8, k12⟩, ⟨SqL.of (G12 _ _ kb08), G12 _ _ kb18, G12 _ _ ke, g12 _ _ kq⟩, ⟨w1, Dr.Row.next w0 w1 hv.eq ?_, eu1.step hv.eq⟩, dn1, ⟨by omega, by omega, by omega⟩, rr1, hv.rr, rt1, mods_r hp.1 _, ⟨by omega, by rw [List.length_map]; omega, by omega, by rw [List.length_map]; omega⟩, rfl, rfl⟩⟩
    exact (Dr.Cf.rests p df).cg.trans (Dr.Cg.of_eq fun x => by rw [edf, hpr.ev])
  · (first | refine hX _ _ ?_ | skip); (try dsimp only); try walk_at "dr1"; (try simp only [sp_inverse_of, sp_degree_of, sp_poly_product, sp_rests_of, sp_poly_difference, sp_divided_by_prime]); try walk_at "dr1"
    refine ⟨_, SqT.of (g7 _ _ kB), _, atI_nat (j := 0) rfl, _, rfl, r1, SqL.of (g7 _ _ kb0), fun d2 H8 hd8 g8 => ?_⟩
    obtain rfl : d = d2 := hd7.uniq hd8
    have G8 := g6.trans (g7.trans g8)
    refine ite2 (fun c2 => ?_) (fun c2 => ?_)
    · refine (q H8 G8).1 (Dr.Eu.no hpp eu1 ?_ dg0 hd0)
      intro i
      rcases hd7 with ⟨_, z⟩ | ⟨k, c, e, _⟩
      · rw [List.getD_eq_getElem?_getD]
        cases w : r1[i]? with
        | none => simp
        | some x => rw [z x (List.mem_of_getElem? w)]; simp
      · omega
    · have d0' : d = 0 := by
        rcases hd7 with ⟨z, _⟩ | ⟨k, c, e, _⟩ <;> omega
      subst d0'
      have dg1 := deg_of (n := 0) rr1 hd7
      have hl1 := dg1.lt
      obtain ⟨c, hc⟩ : ∃ c, r1[0]? = some c := ⟨_, List.getElem?_eq_getElem hl1⟩
      have ec : r1.getD 0 0 = c := by rw [List.getD_eq_getElem?_getD, hc]; rfl
      have rc := rr1 c (List.mem_of_getElem? hc)
      have cp : c % p ≠ 0 := by rw [← ec]; exact dg1.1
      have g78 := g7.trans g8
      refine ⟨_, SqT.of (g78 _ _ kB), _, atI_nat (j := 1) rfl, _, SqT.of (g78 _ _ kB), _, atI_nat (j := 0) rfl, _, rfl, _, SqL.of (g78 _ _ kb0), _, atI_nat (j := 0) (by rw [List.getElem?_map, hc]; rfl), _, rfl, hpp, Nat.le_trans (intBits_le_64 (by omega) (by omega)) (by decide), .inr cp, fun y H9 hy g9 => ⟨by decide, ?_⟩⟩
      have e1 : Int.toNat 1 = 1 := rfl
      rw [e1] at hy
      have hy1 : (c * y - 1) % p = 0 := by have := hy.one; rwa [Int.pow_one] at this
      have hylo := hy.lo
      have hyhi : y < p := by have := hy.hi; rwa [Int.pow_one] at this
      intro ly n_ly; generalize e_ly : upd _ ly _ = H10; obtain ⟨g10, k10⟩ := newH e_ly n_ly; clear e_ly
      have k10 : H10 ly = some (.lst ([y].map V.int)) := k10
      have G10 := g78.trans (g9.trans g10)
      refine ⟨_, rfl, t1, SqL.of (G10 _ _ kb1), [y], SqL.of k10, by omega, by omega, by simp, by simp, 10, range_b hp.2 rt1, 10, fun x hx => by rw [List.mem_singleton.mp hx]; exact sm_of 1000 (by omega) (by decide), by decide, by decide, fun lp pr H11 hpr bpr np g11 kp => ?_⟩
      have lpr := hpr.len
      simp only [List.length_cons, List.length_nil] at lpr
      refine ⟨pr, SqL.of kp, by omega, hp.1, hp.2, fun lz H12 nz g12 kz => ?_⟩
      refine (q H12 (g6.trans (G10.trans (g11.trans g12)))).2 lz _ (Dr.Row.inv (y := y) w1 ?_ (by rw [ec]; exact hy1) ?_) (mods_r hp.1 _) ⟨by rw [List.length_map]; omega, by rw [List.length_map]; omega⟩ (g6.free (G10.free (g11.free nz))) kz
      · intro i
        cases i with
        | zero => simp
        | succ i =>
          have := dg1.2 (i + 1) (by omega)
          simpa using this
      · refine (Dr.Cf.rests p pr).cg.trans (Dr.Cg.of_eq fun x => ?_)
        rw [hpr.ev]
        simp [Dr.pev]
def sp_may_part (K : PySem.W.Frag) : Sp := fun vs H Q _ => ∃ (p N : Int) (a b c : Addr) (f g h : List Int) (m : Nat), vs = [.int p, .int N, .ref a, .ref b, .ref c] ∧ SqL K H a (f.map V.int) ∧ SqL K H b (g.map V.int) ∧ SqL K H c (h.map V.int) ∧ (f.length ≤ 30 ∧ g.length ≤ 15 ∧ h.length ≤ 15) ∧ (2 ≤ p ∧ p < 1000) ∧ Dr.PolyB f m ∧ Dr.PolyB g m ∧ Dr.PolyB h m ∧ m ≤ 10000 ∧
  ∀ (v : Bool) (H' : Hp), (v = true ↔ Dr.May p N f g h) → Same H H' → Q (.bl v) H'
theorem atI_lastZ {f : List Int} {x : Int} (h : f.getLast? = some x) : atI (f.map V.int) (-1) = some (.int x) := by
  have h0 : 0 < f.length := by
    cases f with
    | nil => simp at h
    | cons a r => simp
  unfold atI ixN
  rw [if_neg (by decide), if_pos (by rw [List.length_map]; omega), List.length_map]
  rw [show (-1 + (f.length : Int)).toNat = f.length - 1 by omega]
  show (f.map V.int)[f.length - 1]? = _
  rw [List.getElem?_map, ← List.getLast?_eq_getElem?, h]
  rfl
theorem last_ex {f : List Int} (h : 0 < f.length) : ∃ x, f.getLast? = some x := by
  rw [List.getLast?_eq_getElem?, List.getElem?_eq_getElem (by omega)]
  exact ⟨_, rfl⟩
theorem ok_may_part (B : Bi mg K w) (d_degree_of : Def P w K mg base "degree_of" 1 ["f"] (sp_degree_of K)) (d_poly_product : Def P w K mg base "poly_product" 1 ["f", "g"] (sp_poly_product K)) (d_rests_of : Def P w K mg base "rests_of" 1 ["p", "f"] (sp_rests_of K)) (d_poly_difference : Def P w K mg base "poly_difference" 1 ["f", "g"] (sp_poly_difference K)) (F : Fun K "may_part" "may_part" s_may_part f fd) : FnOk P w K mg base CX0 2 f fd ["p", "N", "f", "g", "h"] (sp_may_part K) := by
  refine F.ok S_may_part (fun vs H Q E h => ?_) (fun cdv A outer s H vs Q E hr h => ?_)
  · obtain ⟨p, N, a, b, c, f, g, h, m, rfl, _⟩ := h
    rfl
  obtain ⟨p, N, a, b, c, f, g, h, m, rfl, hS, hS2, hS3, hl, hp, hf, hg, hh, hm, q⟩ := h
  have S := S_may_part
  refine ⟨_, ((pss_cons (ps_if (PW.pt (pw_or (pt_cmpR op_lt (pv 1) pe_int (nomark _)) (pw_or (pt_cmpR op_lt (pe_callB call_len_seq rfl B.b_len PySem.boot_len (pa_cons (pv 3) pa_nil)) pe_int (nomark _)) (pw_or (pt_cmpR op_lt (pe_callB call_len_seq rfl B.b_len PySem.boot_len (pa_cons (pv 4) pa_nil)) pe_int (nomark _)) (pw_or1 (pt_cmpR op_ne (pe_callB call_len_seq rfl B.b_len PySem.boot_len (pa_cons (pv 2) pa_nil)) (pe_op op_sub (pe_op op_add (pe_callB call_len_seq rfl B.b_len PySem.boot_len (pa_cons (pv 3) pa_nil)) (pe_callB call_len_seq rfl B.b_len PySem.boot_len (pa_cons (pv 4) pa_nil))) pe_int) (nomark _))))))) (pss_one (ps_ret pe_bl)) pss_nil)
    (pss_cons (ps_if (PW.pt (pw_or (pt_cmpR op_ne (pe_ix ix_list (pv 2) (pe_un un_neg pe_int) (fun _ _ => rfl)) pe_int (nomark _)) (pw_or (pt_cmpR op_ne (pe_ix ix_list (pv 3) (pe_un un_neg pe_int) (fun _ _ => rfl)) pe_int (nomark _)) (pw_or1 (pt_cmpR op_ne (pe_ix ix_list (pv 4) (pe_un un_neg pe_int) (fun _ _ => rfl)) pe_int (nomark _)))))) (pss_one (ps_ret pe_bl)) pss_nil)
    (pss_one (ps_ret (pe_cmpR op_eq (pe_def d_degree_of hr rfl (pa_cons (pe_def d_rests_of hr rfl (pa_cons (pv 0) (pa_cons (pe_def d_poly_difference hr rfl (pa_cons (pv 2) (pa_cons (pe_def d_poly_product hr rfl (pa_cons (pv 3) (pa_cons (pv 4) pa_nil))) pa_nil))) pa_nil))) pa_nil)) (pe_un un_neg pe_int) (nomark _))))))), ?_⟩
  have no : ∀ H', (Dr.May p N f g h → False) → Same H H' → Q (.bl false) H' := fun H' hn g => q false H' ⟨fun z => (by cases z), fun z => (hn z).elim⟩ g
  (try dsimp only); (first | refine hX _ _ ?_ | skip); (try dsimp only); (first | refine seqX (fun X hX => ?_) | skip); try walk_at "dr2"; (try simp only [sp_degree_of, sp_poly_product, sp_rests_of, sp_poly_difference]); try walk_at "dr2"
  refine ite2 (fun c1 => no H (fun z => by have := z.n; omega) (Same.refl _)) (fun c1 => ?_)
  refine ⟨_, .inl hS2, ?_⟩
  simp only [List.length_map]
  refine ite2 (fun c2 => no H (fun z => by have := z.lg; omega) (Same.refl _)) (fun c2 => ?_)
  refine ⟨_, .inl hS3, ?_⟩
  simp only [List.length_map]
  refine ite2 (fun c3 => no H (fun z => by have := z.lh; omega) (Same.refl _)) (fun c3 => ?_)
  refine ⟨_, .inl hS, _, .inl hS2, _, .inl hS3, ?_⟩
  simp only [List.length_map]
  refine ite2 (fun c4 => no H (fun z => by have := z.lf; omega) (Same.refl _)) (fun c4 => ?_)
  obtain ⟨x, hx⟩ := last_ex (f := f) (by omega)
  obtain ⟨y, hy⟩ := last_ex (f := g) (by omega)
  obtain ⟨z, hz⟩ := last_ex (f := h) (by omega)
  (try dsimp only); (first | refine hX _ _ ?_ | skip); (try dsimp only); (first | refine seqX (fun X hX => ?_) | skip); try walk_at "dr2"; (try simp only [sp_degree_of, sp_poly_product, sp_rests_of, sp_poly_difference]); try walk_at "dr2"
  refine ⟨_, hS, _, atI_lastZ hx, ?_⟩
  have vinj : ∀ {w : Int}, ¬ ¬ V.int w = V.int 1 → w = 1 := fun {w} c => V.int.inj (Classical.not_not.mp c)
  refine ⟨rfl, ite2 (fun c5 => no H (fun w => c5 (by have := w.tf; rw [hx] at this; cases this; rfl)) (Same.refl _)) (fun c5 => ?_)⟩
  refine ⟨_, hS2, _, atI_lastZ hy, rfl, ite2 (fun c6 => no H (fun w => c6 (by have := w.tg; rw [hy] at this; cases this; rfl)) (Same.refl _)) (fun c6 => ?_)⟩
  refine ⟨_, hS3, _, atI_lastZ hz, rfl, ite2 (fun c7 => no H (fun w => c7 (by have := w.th; rw [hz] at this; cases this; rfl)) (Same.refl _)) (fun c7 => ?_)⟩
  have ex := vinj c5
  have ey := vinj c6
  have ez := vinj c7
  subst ex ey ez
  (first | refine hX _ _ ?_ | skip); (try dsimp only); try walk_at "dr1"; (try simp only [sp_degree_of, sp_poly_product, sp_rests_of, sp_poly_difference]); try walk_at "dr1"
  refine ⟨g, hS2, h, hS3, by omega, by omega, by omega, by omega, m, hg, m, hh, by omega, by omega, fun l1 pr H1 hpr bpr n1 g1 k1 => ?_⟩
  have lpr := hpr.len
  refine ⟨f, g1.seq hS, pr, SqL.of k1, by omega, by omega, m + m + 12, fun x hx => (hf x hx).mono (by omega), bpr, fun l2 df H2 ldf edf bdf n2 g2 k2 => ?_⟩
  refine ⟨df, SqL.of k2, by omega, hp.1, hp.2, fun l3 H3 n3 g3 k3 => ?_⟩
  refine ⟨_, SqL.of k3, fun d H4 hd g4 => ?_⟩
  refine q _ H4 ?_ (g1.trans (g2.trans (g3.trans g4)))
  rw [decide_eq_true_eq]
  have key : d = -1 ↔ ∀ x, x ∈ df.map (· % p) → x = 0 := by
    constructor
    · intro e
      rcases hd with ⟨_, z⟩ | ⟨k, c, ek, _⟩
      · exact z
      · omega
    · intro z
      rcases hd with ⟨e, _⟩ | ⟨k, c, _, hk, c0, _⟩
      · exact e
      · exact absurd (z c (List.mem_of_getElem? hk)) c0
  have key2 : (∀ x, x ∈ df.map (· % p) → x = 0) ↔ Dr.Cf p df [] := by
    constructor
    · intro z i
      rw [List.getD_eq_getElem?_getD]
      cases w : df[i]? with
      | none => simp
      | some x =>
        have := z (x % p) (List.mem_map.mpr ⟨x, List.mem_of_getElem? w, rfl⟩)
        simpa using this
    · intro z x hx
      obtain ⟨y, hy, rfl⟩ := List.mem_map.mp hx
      obtain ⟨i, hi, rfl⟩ := List.getElem_of_mem hy
      have := z i
      rw [List.getD_eq_getElem?_getD, List.getElem?_eq_getElem hi] at this
      simpa using this
  have key3 : Dr.Cf p df [] ↔ Dr.Cg p (Dr.pev f) fun x => Dr.pev g x * Dr.pev h x := by
    constructor
    · intro z
      obtain ⟨K', hK, e⟩ := z.cg
      refine ⟨K', hK, fun x => ?_⟩
      have := e x
      rw [edf, hpr.ev] at this
      simpa [Dr.pev] using this
    · intro z
      refine Dr.Cg.cf ?_
      obtain ⟨K', hK, e⟩ := z
      refine ⟨K', hK, fun x => ?_⟩
      have := e x
      rw [edf, hpr.ev]
      simpa [Dr.pev] using this
  rw [key, key2, key3]
  exact ⟨fun z => ⟨by omega, by omega, by omega, by omega, hx, hy, hz, z⟩, fun z => z.prod⟩
def sp_parts_at (K : PySem.W.Frag) : Sp := fun vs H Q E => ∃ (p N : Int) (a b c : Addr) (f g h : List Int) (m : Nat), vs = [.int p, .int N, .ref a, .ref b, .ref c] ∧ SqL K H a (f.map V.int) ∧ SqL K H b (g.map V.int) ∧ SqL K H c (h.map V.int) ∧ (f.length ≤ 14 ∧ g.length ≤ 7 ∧ h.length ≤ 7) ∧ p ∈ Dr.primes ∧ N ≤ 60 ∧ Dr.PolyB f m ∧ Dr.PolyB g m ∧ Dr.PolyB h m ∧ m ≤ 10000 ∧
  (¬ (Dr.May p N f g h ∧ Dr.Bez p g h) → ∀ H', Same H H' → E (.ref (clK K "NoParts")) none H') ∧
  ∀ (t d e : Addr) (G J : List Int) (H' : Hp), Dr.May p N f g h → Dr.Bez p g h → Dr.Parts p N.toNat f g h G J → H d = none → H e = none → d ≠ e → Same H H' → H' d = some (.lst (G.map V.int)) → H' e = some (.lst (J.map V.int)) → H' t = some (.tup [.ref d, .ref e]) → Q (.ref t) H'
theorem comp_div {K : PySem.W.Frag} {H : Hp} {a : Addr} {l : List Int} {p : Int} {σ : St} {Q : VK} {i : Nat} (hS : SqL K H a (l.map V.int)) (hl : l.length ≤ 60) (hp : ∀ x, CDivW x p) (hi : σ[i]? = some (some (.int p))) (q : ∀ r, H r = none → Q (.ref r) (upd H r (.lst ((l.map (· / p)).map V.int)))) :
    CompIt (Itl K a) [i] (fun _ H Q => Q true H) (tOp (rI CDivW fun i j => V.int (i / j)) (tVar 0) (tVar 1)) σ H Q := by
  obtain ⟨Pc, hPc⟩ : ∃ Pc : Nat → List V → Hp → Prop, ∀ i ys H1, Pc i ys H1 ↔ (H1 = H ∧ ys = ((l.take i).map (· / p)).map V.int) := ⟨_, fun _ _ _ => Iff.rfl⟩
  (first | refine hX _ _ ?_ | skip); refine compI l Pc (by unfold sizeLine; omega) ((hPc _ _ _).mpr ⟨rfl, by simp⟩) (fun i ys H4 z => by obtain ⟨rfl, _⟩ := (hPc _ _ _).mp z; exact hS) ?_ ?_
  · intro j c ys H1 hc z
    obtain ⟨rfl, rfl⟩ := (hPc _ _ _).mp z
    simp only [capV, List.map_cons, List.map_nil, hi, Option.getD_some]
    (first | refine hX _ _ ?_ | skip); (try dsimp only); try walk_at "dr1"
    refine ⟨hp c, (hPc _ _ _).mpr ⟨rfl, ?_⟩⟩
    rw [List.take_add_one, hc, List.map_append, List.map_append]
    simp
  · intro ys H1 z
    obtain ⟨rfl, rfl⟩ := (hPc _ _ _).mp z
    intro r hr
    have := q r hr
    rw [List.take_length]
    exact this
theorem getD_last {f : List Int} {x : Int} (h : f.getLast? = some x) : f.getD (f.length - 1) 0 = x := by
  rw [List.getLast?_eq_getElem?] at h
  rw [List.getD_eq_getElem?_getD, h]
  rfl
theorem miss_ok {p : Int} {k : Nat} {f g h G J pr df : List Int} (hp : 2 ≤ p) (P : Dr.Parts p k f g h G J) (lf : f.length + 1 = g.length + h.length) (lg : 2 ≤ g.length) (lh : 2 ≤ h.length) (tf : f.getLast? = some 1) (hpr : Dr.IsProd G J pr) (hdf : ∀ x, Dr.pev df x = Dr.pev f x - Dr.pev pr x) (ldf : df.length = max f.length pr.length) :
    (∀ x, Dr.pev f x - Dr.pev G x * Dr.pev J x = p ^ k * Dr.pev (df.map (· / p ^ k)) x) ∧ (df.map (· / p ^ k)).length = f.length ∧ (df.map (· / p ^ k)).getD (f.length - 1) 0 = 0 := by
  have lpr := hpr.len
  rw [P.lg, P.lh] at lpr
  have all : ∀ x, x ∈ df → x % p ^ k = 0 := fun x hx => by
    have cf : Dr.Cf (p ^ k) df [] := Dr.Cg.cf (by
      have := P.prod.sub (Dr.Cg.refl (q := p ^ k) fun x => Dr.pev G x * Dr.pev J x)
      refine ((Dr.Cg.of_eq fun x => ?_).trans this).trans (Dr.Cg.of_eq fun x => by simp [Dr.pev])
      rw [hdf, hpr.ev])
    obtain ⟨i, hi, rfl⟩ := List.getElem_of_mem hx
    have := cf i
    rw [List.getD_eq_getElem?_getD, List.getElem?_eq_getElem hi] at this
    simpa using this
  refine ⟨fun x => ?_, by rw [List.length_map, ldf]; omega, ?_⟩
  · have := Dr.pdiv_ev all x
    unfold Dr.pdiv at this
    rw [← this, hdf, hpr.ev]
  · have e1 : df.getD (f.length - 1) 0 = 0 := by
      have h1 := Dr.pev_getD (f := df) (g := Dr.padd f (pr.map (-1 * ·))) (fun x => by rw [Dr.padd_ev, Dr.pev_map, hdf]; omega) (f.length - 1)
      rw [h1, Dr.padd_getD, Dr.map_getD, getD_last tf]
      have e2 : pr = Dr.pmul G J := hpr.uniq (Dr.pmul_prod (by rw [P.lg]; omega) (by rw [P.lh]; omega))
      have := Dr.pmul_top G J (g.length - 1) (h.length - 1) (by rw [P.lg]; omega) (by rw [P.lh]; omega)
      have t1 := getD_last P.tg
      have t2 := getD_last P.th
      rw [P.lg] at t1
      rw [P.lh] at t2
      rw [t1, t2, ← e2, show g.length - 1 + (h.length - 1) = f.length - 1 by omega] at this
      rw [this]
      decide
    rw [List.getD_eq_getElem?_getD, List.getElem?_map]
    rw [List.getD_eq_getElem?_getD] at e1
    cases w : df[f.length - 1]? with
    | none => rfl
    | some x =>
      rw [w] at e1
      have : x = 0 := e1
      rw [this]
      simp
inductive PaI (H H6 : Hp) (p N : Int) (a b c lg lh li : Addr) (f g h : List Int) (i : Nat) (σ : St) (H7 : Hp) : Prop
  | mk (q0 : Same H6 H7) (d e : Addr) (G J : List Int) (t11 t12 t13 t14 : Option V) (q1 : Dr.Parts p (i + 1) f g h G J) (q2 : H d = none) (q3 : H e = none) (q4 : d ≠ e) (q5 : H7 d = some (.lst (G.map V.int))) (q6 : H7 e = some (.lst (J.map V.int))) (q7 : σ = [some (.int p), some (.int N), some (.ref a), some (.ref b), some (.ref c), some (.ref lg), some (.ref lh), some (.ref li), some (.ref d), some (.ref e), some (.int (p ^ (i + 1))), t11, t12, t13, t14])
theorem ok_parts_at (B : Bi mg K w) (d_poly_product : Def P w K mg base "poly_product" 1 ["f", "g"] (sp_poly_product K)) (d_rests_of : Def P w K mg base "rests_of" 1 ["p", "f"] (sp_rests_of K)) (d_poly_difference : Def P w K mg base "poly_difference" 1 ["f", "g"] (sp_poly_difference K)) (d_divided_by_prime : Def P w K mg base "divided_by_prime" 3 ["p", "f", "g"] (sp_divided_by_prime K)) (d_inverse_beside : Def P w K mg base "inverse_beside" 4 ["p", "h", "g"] (sp_inverse_beside K)) (d_may_part : Def P w K mg base "may_part" 2 ["p", "N", "f", "g", "h"] (sp_may_part K)) (d_raised : Def P w K mg base "raised" 1 ["f", "power", "more"] (sp_raised K)) (F : Fun K "parts_at" "parts_at" s_parts_at f fd) : FnOk P w K mg base (CXE P w) 5 f fd ["p", "N", "f", "g", "h"] (sp_parts_at K) := by
  refine F.okE S_parts_at (fun vs H Q E h => ?_) (fun cdv A outer s H vs Q E hr h => ?_)
  · obtain ⟨p, N, a, b, c, f, g, h, m, rfl, _⟩ := h
    rfl
  obtain ⟨p, N, a, b, c, f, g, h, m, rfl, hS, hS2, hS3, hl, hpp, hN, hf, hg, hh, hm, qE, q⟩ := h
  have S := S_parts_at
  have p2 := Dr.primes_ge hpp
  have hp : 2 ≤ p ∧ p < 1000 := by omega
  refine ⟨_, ((pss_cons (ps_if (pt_not (pt_val (pe_def d_may_part hr rfl (pa_cons (pv 0) (pa_cons (pv 1) (pa_cons (pv 2) (pa_cons (pv 3) (pa_cons (pv 4) pa_nil)))))))) (pss_one (ps_raise thrE rfl rfl B.c_NoParts B.x_NoParts (pa_cons pe_str pa_nil))) pss_nil)
    (pss_cons (ps_set (i := 5) S.nd rfl (Or.inl rfl) (pe_def d_rests_of hr rfl (pa_cons (pv 0) (pa_cons (pv 3) pa_nil))))
    (pss_cons (ps_set (i := 6) S.nd rfl (Or.inl rfl) (pe_def d_rests_of hr rfl (pa_cons (pv 0) (pa_cons (pv 4) pa_nil))))
    (pss_cons (ps_set (i := 7) S.nd rfl (Or.inl rfl) (pe_def d_inverse_beside hr rfl (pa_cons (pv 0) (pa_cons (pv 6) (pa_cons (pv 5) pa_nil)))))
    (pss_cons (ps_if (pt_cmpR op_isN (pv 7) pe_non (nomark _)) (pss_one (ps_raise thrE rfl rfl B.c_NoParts B.x_NoParts (pa_cons pe_str pa_nil))) pss_nil)
    (pss_cons (ps_set (i := 8) S.nd rfl (Or.inl rfl) (pe_callTy call_list_of rfl B.b_list L2.bt_list (pa_cons (pv 5) pa_nil)))
    (pss_cons (ps_set (i := 9) S.nd rfl (Or.inl rfl) (pe_callTy call_list_of rfl B.b_list L2.bt_list (pa_cons (pv 6) pa_nil)))
    (pss_cons (ps_set (i := 10) S.nd rfl (Or.inr rfl) (pv 0))
    (pss_cons (ps_nox (ps_for PassesOwn.never rfl (pi_range2 rfl B.b_range (pa_cons pe_int (pa_cons (pv 1) pa_nil))) (pg_name (i := 11) S.nd rfl (Or.inl rfl)) (pss_cons (ps_set (i := 12) S.nd rfl (Or.inl rfl) (pe_def d_rests_of hr rfl (pa_cons (pv 0) (pa_cons (pe_comp [10] ["power"] rfl rfl ⟨rfl, trivial⟩ ⟨rfl, rfl, rfl, rfl, trivial⟩ rfl rfl (by decide) (by decide) rfl rfl (by decide) (pi_list (pe_def d_poly_difference hr rfl (pa_cons (pv 2) (pa_cons (pe_def d_poly_product hr rfl (pa_cons (pv 8) (pa_cons (pv 9) pa_nil))) pa_nil)))) (fun _ _ _ _ => pts_nil) (fun _ _ _ _ => (pe_op op_fdivW (pv 0) (pv 1)))) pa_nil))))
    (pss_cons (ps_set (i := 13) S.nd rfl (Or.inl rfl) (pe_ix ix_tup (pe_def d_divided_by_prime hr rfl (pa_cons (pv 0) (pa_cons (pe_def d_poly_product hr rfl (pa_cons (pv 12) (pa_cons (pv 7) pa_nil))) (pa_cons (pv 5) pa_nil)))) pe_int (fun _ _ => rfl)))
    (pss_cons (ps_set (i := 14) S.nd rfl (Or.inl rfl) (pe_ix ix_tup (pe_def d_divided_by_prime hr rfl (pa_cons (pv 0) (pa_cons (pe_def d_poly_difference hr rfl (pa_cons (pv 12) (pa_cons (pe_def d_poly_product hr rfl (pa_cons (pv 13) (pa_cons (pv 6) pa_nil))) pa_nil))) (pa_cons (pv 5) pa_nil)))) pe_int (fun _ _ => rfl)))
    (pss_cons (ps_set (i := 8) S.nd rfl (Or.inl rfl) (pe_def d_raised hr rfl (pa_cons (pv 8) (pa_cons (pv 10) (pa_cons (pe_op op_cat (pv 13) (pe_lst (pa_cons pe_int pa_nil))) pa_nil)))))
    (pss_cons (ps_set (i := 9) S.nd rfl (Or.inl rfl) (pe_def d_raised hr rfl (pa_cons (pv 9) (pa_cons (pv 10) (pa_cons (pv 14) pa_nil)))))
    (pss_one (ps_set (i := 10) S.nd rfl (Or.inr rfl) (pe_op op_mulW (pv 10) (pv 0)))))))))))
    (pss_one (ps_ret (pe_tup (pa_cons (pv 8) (pa_cons (pv 9) pa_nil))))))))))))))), ?_⟩
  (try dsimp only); (first | refine hX _ _ ?_ | skip); (try dsimp only); (first | refine seqX (fun X hX => ?_) | skip); try walk_at "dr2"; (try simp only [sp_poly_product, sp_rests_of, sp_poly_difference, sp_divided_by_prime, sp_inverse_beside, sp_may_part, sp_raised]); try walk_at "dr2"
  refine ⟨f, hS, g, hS2, h, hS3, by omega, by omega, by omega, hp.1, hp.2, m, hf, hg, hh, by omega, fun v H1 hv g1 => ?_⟩
  by_cases may : Dr.May p N f g h
  case neg =>
    have : v = false := by
      cases v
      · rfl
      · exact absurd (hv.mp rfl) may
    subst this
    rw [if_pos rfl]
    exact ⟨by decide, qE (fun z => may z.1) H1 g1⟩
  have : v = true := hv.mpr may
  subst this
  rw [if_neg (by decide)]
  clear hv
  have lg2 := may.lg
  have lh2 := may.lh
  have lf2 := may.lf
  (try dsimp only); (first | refine hX _ _ ?_ | skip); (try dsimp only); (first | refine seqX (fun X hX => ?_) | skip); try walk_at "dr2"; (try simp only [sp_poly_product, sp_rests_of, sp_poly_difference, sp_divided_by_prime, sp_inverse_beside, sp_may_part, sp_raised]); try walk_at "dr2"
  refine ⟨g, g1.seq hS2, by omega, hp.1, hp.2, fun lg H2 ng g2 kg => ?_⟩
  have G2 := g1.trans g2
  (try dsimp only); (first | refine hX _ _ ?_ | skip); (try dsimp only); (first | refine seqX (fun X hX => ?_) | skip); try walk_at "dr2"; (try simp only [sp_poly_product, sp_rests_of, sp_poly_difference, sp_divided_by_prime, sp_inverse_beside, sp_may_part, sp_raised]); try walk_at "dr2"
  refine ⟨h, G2.seq hS3, by omega, hp.1, hp.2, fun lh H3 nh g3 kh => ?_⟩
  have G3 := G2.trans g3
  have kg3 := g3 _ _ kg
  have one1 : (1 : Int) % p = 1 := Int.emod_eq_of_lt (by omega) (by omega)
  have tgr : (g.map (· % p)).getLast? = some 1 := by
    have := Dr.last_map (· % p) may.tg
    rwa [one1] at this
  have bzi : Dr.Bez p (g.map (· % p)) (h.map (· % p)) ↔ Dr.Bez p g h := ⟨fun b => b.cong (Dr.Cf.rests p g).symm (Dr.Cf.rests p h).symm, fun b => b.cong (Dr.Cf.rests p g) (Dr.Cf.rests p h)⟩
  (try dsimp only); (first | refine hX _ _ ?_ | skip); (try dsimp only); (first | refine seqX (fun X hX => ?_) | skip); try walk_at "dr2"; (try simp only [sp_poly_product, sp_rests_of, sp_poly_difference, sp_divided_by_prime, sp_inverse_beside, sp_may_part, sp_raised]); try walk_at "dr2"
  refine ⟨h.map (· % p), SqL.of kh, g.map (· % p), SqL.of kg3, by rw [List.length_map]; omega, by rw [List.length_map]; omega, by rw [List.length_map]; omega, hpp, mods_r hp.1 g, tgr, fun H4 g4 => ⟨fun nb => ?_, fun li ti hinv ri li2 ni ki => ?_⟩⟩
  · (try dsimp only); (first | refine hX _ _ ?_ | skip); (try dsimp only); (first | refine seqX (fun X hX => ?_) | skip); try walk_at "dr2"; (try simp only [sp_poly_product, sp_rests_of, sp_poly_difference, sp_divided_by_prime, sp_inverse_beside, sp_may_part, sp_raised]); try walk_at "dr2"
    exact ⟨by decide, qE (fun z => nb (bzi.mpr z.2)) H4 (G3.trans g4)⟩
  have bez : Dr.Bez p g h := bzi.mp hinv.bez
  have G4 := G3.trans g4
  have kg4 := g4 _ _ kg3
  have kh4 := g4 _ _ kh
  (try dsimp only); (first | refine hX _ _ ?_ | skip); (try dsimp only); (first | refine seqX (fun X hX => ?_) | skip); try walk_at "dr2"; (try simp only [sp_poly_product, sp_rests_of, sp_poly_difference, sp_divided_by_prime, sp_inverse_beside, sp_may_part, sp_raised]); try walk_at "dr2"
  (try dsimp only); (first | refine hX _ _ ?_ | skip); (try dsimp only); (first | refine seqX (fun X hX => ?_) | skip); try walk_at "dr2"; (try simp only [sp_poly_product, sp_rests_of, sp_poly_difference, sp_divided_by_prime, sp_inverse_beside, sp_may_part, sp_raised]); try walk_at "dr2"
  refine ⟨_, .inl (SqL.of kg4), ?_⟩
  intro lG n_lG; generalize e_lG : upd _ lG _ = H5; obtain ⟨g5, kG⟩ := newH e_lG n_lG; clear e_lG
  (try dsimp only); (first | refine hX _ _ ?_ | skip); (try dsimp only); (first | refine seqX (fun X hX => ?_) | skip); try walk_at "dr2"; (try simp only [sp_poly_product, sp_rests_of, sp_poly_difference, sp_divided_by_prime, sp_inverse_beside, sp_may_part, sp_raised]); try walk_at "dr2"
  refine ⟨_, .inl (SqL.of (g5 _ _ kh4)), ?_⟩
  intro lH n_lH; generalize e_lH : upd _ lH _ = H6; obtain ⟨g6, kH⟩ := newH e_lH n_lH; clear e_lH
  have G6 := G4.trans (g5.trans g6)
  have kg6 := g6 _ _ (g5 _ _ kg4)
  have kh6 := g6 _ _ (g5 _ _ kh4)
  have ki6 := g6 _ _ (g5 _ _ ki)
  have kG6 := g6 _ _ kG
  (try dsimp only); (first | refine hX _ _ ?_ | skip); (try dsimp only); (first | refine seqX (fun X hX => ?_) | skip); try walk_at "dr2"; (try simp only [sp_poly_product, sp_rests_of, sp_poly_difference, sp_divided_by_prime, sp_inverse_beside, sp_may_part, sp_raised]); try walk_at "dr2"
  (try dsimp only); (first | refine hX _ _ ?_ | skip); (try dsimp only); (first | refine seqX (fun X hX => ?_) | skip); try walk_at "dr2"; (try simp only [sp_poly_product, sp_rests_of, sp_poly_difference, sp_divided_by_prime, sp_inverse_beside, sp_may_part, sp_raised]); try walk_at "dr2"
  have N1 := may.n
  have kH6 := kH
  have nG : H lG = none := G4.free n_lG
  have nH : H lH = none := G4.free (g5.free n_lH)
  have nGH : lG ≠ lH := fun z => by rw [z, n_lH] at kG; cases kG
  have dg := deg_last hp.1 tgr
  rw [List.length_map] at dg
  have lgr : (g.map (· % p)).length = g.length := List.length_map ..
  have lhr : (h.map (· % p)).length = h.length := List.length_map ..
  refine ⟨by decide, by decide, by omega, by omega, ?_⟩
  obtain ⟨Pv, hPv⟩ : ∃ Pv : Nat → St → Hp → Prop, ∀ i σ H7, Pv i σ H7 ↔ (PaI H H6 p N a b c lg lh li f g h i σ H7) := ⟨_, fun _ _ _ => Iff.rfl⟩
  (first | refine hX _ _ ?_ | skip); refine forR Pv ((hPv _ _ _).mpr ⟨Same.refl _, lG, lH, _, _, none, none, none, none, Dr.Parts.start hp.1 may, nG, nH, nGH, kG6, kH6, by rw [Nat.zero_add, Int.pow_one]⟩) ?_ ?_
  case refine_2 =>
    intro σ H7 z
    obtain ⟨g7, d, e, G, J, t11, t12, t13, t14, P, nd, ne, de, kd, ke, rfl⟩ := (hPv _ _ _).mp z
    rw [show (N - 1).toNat + 1 = N.toNat by omega] at P
    (first | refine hX _ _ ?_ | skip); (try dsimp only); try walk_at "dr1"; (try simp only [sp_poly_product, sp_rests_of, sp_poly_difference, sp_divided_by_prime, sp_inverse_beside, sp_may_part, sp_raised]); try walk_at "dr1"
    refine ⟨by decide, ?_⟩
    intro lt n_lt; generalize e_lt : upd _ lt _ = H8; obtain ⟨g8, k8⟩ := newH e_lt n_lt; clear e_lt
    exact q lt d e G J H8 may bez P nd ne de (G6.trans (g7.trans g8)) (g8 _ _ kd) (g8 _ _ ke) k8
  intro i σ H7 hi z
  refine byX fun X hX => ?_; obtain ⟨g7, d, e, G, J, t11, t12, t13, t14, P, nd, ne, de, kd, ke, rfl⟩ := (hPv _ _ _).mp z; refine hX ?_; clear hX X
  clear z
  have hi60 : i < 60 := by omega
  obtain ⟨w, ew⟩ : ∃ w, w = p ^ (i + 1) := ⟨_, rfl⟩
  have w0 : 0 < w := by rw [ew]; exact Dr.pow_pos hp.1 _
  have bw : Dr.Sm w 611 := by rw [ew]; exact (show Dr.Sm _ (10 * (i + 1) + 1) from pow_bits hp _).mono (by omega)
  have bpart : ∀ {l : List Int}, (∀ x, x ∈ l → 0 ≤ x ∧ x < p ^ (i + 1)) → Dr.PolyB l 611 := fun {l} hl x hx => by
    have := hl x hx
    rw [← ew] at this
    unfold Dr.Sm at bw ⊢
    omega
  have lG2 := P.lg
  have lJ2 := P.lh
  have G7 := G6.trans g7
  rw [← ew]
  (try dsimp only); (first | refine hX _ _ ?_ | skip); (try dsimp only); (first | refine seqX (fun X hX => ?_) | skip); try walk_at "dr2"; (try simp only [sp_poly_product, sp_rests_of, sp_poly_difference, sp_divided_by_prime, sp_inverse_beside, sp_may_part, sp_raised]); try walk_at "dr2"
  have cdv : ∀ y, CDivW y w := fun y => ⟨w0, by
    have := (Nat.log2_lt (by omega)).mpr bw
    omega⟩
  refine ⟨G, SqL.of kd, J, SqL.of ke, by omega, by omega, by omega, by omega, 611, bpart P.rg, 611, bpart P.rh, by decide, by decide, fun l1 pr H8 hpr bpr n1 g8 k8 => ?_⟩
  have lpr := hpr.len
  refine ⟨f, (G7.trans g8).seq hS, pr, SqL.of k8, by omega, by omega, m + 1234, fun x hx => (hf x hx).mono (by omega), fun x hx => (bpr x hx).mono (by omega), fun l2 df H9 ldf edf bdf n2 g9 k9 => ⟨⟨_, SqL.of k9⟩, comp_div (SqL.of k9) (by omega) cdv rfl ?_⟩⟩
  intro l3 n_l3; generalize e_l3 : upd _ l3 _ = H10; obtain ⟨g10, k10⟩ := newH e_l3 n_l3; clear e_l3
  obtain ⟨mi1, mi2, mi3⟩ := miss_ok hp.1 P may.lf may.lg may.lh may.tf hpr edf ldf
  rw [← ew] at mi1 mi2 mi3
  generalize eM : df.map (· / w) = M at k10 mi1 mi2 mi3
  refine ⟨_, rfl, M, SqL.of k10, by omega, hp.1, hp.2, fun lm H11 nm g11 k11 => ?_⟩
  have G11 := g8.trans (g9.trans (g10.trans g11))
  have kg11 := G11 _ _ (g7 _ _ kg6)
  have kh11 := G11 _ _ (g7 _ _ kh6)
  have ki11 := G11 _ _ (g7 _ _ ki6)
  have kd11 := G11 _ _ kd
  have ke11 := G11 _ _ ke
  have lmi : (M.map (· % p)).length = f.length := by rw [List.length_map]; exact mi2
  obtain ⟨mi, emi⟩ : ∃ mi, mi = M.map (· % p) := ⟨_, rfl⟩
  have bmi : Dr.PolyB mi 10 := by rw [emi]; exact mods_b hp M
  have cmi : Dr.Cf p mi M := by rw [emi]; exact Dr.Cf.rests p M
  have tmi : mi.getD (f.length - 1) 0 % p = 0 := by
    have := cmi (f.length - 1)
    rw [mi3, Int.sub_zero] at this
    exact this
  rw [← emi] at k11 lmi
  clear kd ke k8 k9 k10 kg6 kh6 ki6 kg3 kg4 kh4
  (try dsimp only); (first | refine hX _ _ ?_ | skip); (try dsimp only); (first | refine seqX (fun X hX => ?_) | skip); try walk_at "dr2"; (try simp only [sp_poly_product, sp_rests_of, sp_poly_difference, sp_divided_by_prime, sp_inverse_beside, sp_may_part, sp_raised]); try walk_at "dr2"
  refine ⟨mi, SqL.of k11, ti, SqL.of ki11, by omega, by omega, by omega, by omega, 10, bmi, 10, range_b hp.2 ri, by decide, by decide, fun lA A H12 hA bA nA g12 kA => ?_⟩
  have lA2 := hA.len
  have nzg : ∃ x, x ∈ g.map (· % p) ∧ x ≠ 0 := ⟨1, List.mem_of_getLast? tgr, by decide⟩
  refine ⟨A, SqL.of kA, g.map (· % p), SqL.of (g12 _ _ kg11), by omega, by omega, hpp, mods_r hp.1 g, nzg, fun lt1 lq1 lu nn D1 u H13 hd1 hv1 _ nu g13 _ ku kt1 => ⟨_, SqT.of kt1, _, atI_nat (j := 1) rfl, ?_⟩⟩
  have dn := deg_of (mods_r hp.1 g) hd1
  have enn : nn = g.length - 1 := by
    have h1 : ¬ nn < g.length - 1 := fun z => dg.1 (dn.2 _ z)
    have h2 : ¬ g.length - 1 < nn := fun z => dn.1 (dg.2 _ z)
    omega
  have lu2 : u.length + 1 = g.length := by
    have := hv1.lr
    rw [Nat.min_eq_left (by omega)] at this
    omega
  have G13 := g12.trans g13
  (try dsimp only); (first | refine hX _ _ ?_ | skip); (try dsimp only); (first | refine seqX (fun X hX => ?_) | skip); try walk_at "dr2"; (try simp only [sp_poly_product, sp_rests_of, sp_poly_difference, sp_divided_by_prime, sp_inverse_beside, sp_may_part, sp_raised]); try walk_at "dr2"
  refine ⟨u, SqL.of ku, h.map (· % p), SqL.of (G13 _ _ kh11), by omega, by omega, by omega, by omega, 10, range_b hp.2 hv1.rr, 10, mods_b hp h, by decide, by decide, fun lB B' H14 hB bB nB g14 kB => ?_⟩
  have lB2 : B'.length + 1 = f.length := by
    have := hB.len
    omega
  refine ⟨mi, SqL.of (g14 _ _ (G13 _ _ k11)), B', SqL.of kB, by omega, by omega, 32, fun x hx => (bmi x hx).mono (by decide), bB, fun lC C' H15 lC0 eC bC nC g15 kC => ?_⟩
  have lC2 : C'.length = f.length := by rw [lC0, Nat.max_eq_left (by omega)]; exact lmi
  clear lC0
  refine ⟨C', SqL.of kC, g.map (· % p), SqL.of (g15 _ _ (g14 _ _ (G13 _ _ kg11))), by omega, by omega, hpp, mods_r hp.1 g, nzg, fun lt2 lv lr2 nn2 v r2 H16 hd2 hv2 nv _ g16 kv _ kt2 => ⟨_, SqT.of kt2, _, atI_nat (j := 0) rfl, ?_⟩⟩
  obtain rfl : nn = nn2 := by
    have := hd1.uniq hd2
    omega
  have lvh : v.length = h.length := by
    have := hv2.lq
    omega
  have G16 := G13.trans (g14.trans (g15.trans g16))
  have ku16 := g16 _ _ (g15 _ _ (g14 _ _ ku))
  (try dsimp only); (first | refine hX _ _ ?_ | skip); (try dsimp only); (first | refine seqX (fun X hX => ?_) | skip); try walk_at "dr2"; (try simp only [sp_poly_product, sp_rests_of, sp_poly_difference, sp_divided_by_prime, sp_inverse_beside, sp_may_part, sp_raised]); try walk_at "dr2"
  refine ⟨by decide, ?_⟩
  intro lz n_lz; generalize e_lz : upd _ lz _ = H17; obtain ⟨g17, k17⟩ := newH e_lz n_lz; clear e_lz
  refine ⟨_, g17 _ _ ku16, _, k17, by simp only [List.length_map, List.length_cons, List.length_nil]; unfold sizeLine; omega, ?_⟩
  intro lw n_lw; generalize e_lw : upd _ lw _ = H18; obtain ⟨g18, k18⟩ := newH e_lw n_lw; clear e_lw
  have k18 : H18 lw = some (.lst ((u ++ [0]).map V.int)) := by rw [k18, List.map_append]; rfl
  have G18 := G16.trans (g17.trans g18)
  have lu0 : (u ++ [0]).length = g.length := by
    rw [List.length_append, List.length_cons, List.length_nil]
    omega
  have ru0 : ∀ x, x ∈ u ++ [0] → 0 ≤ x ∧ x < p := fun x hx => by
    rcases List.mem_append.mp hx with z | z
    · exact hv1.rr x z
    · rw [List.mem_singleton.mp z]; omega
  refine ⟨G, SqL.of (G18 _ _ kd11), u ++ [0], SqL.of k18, by omega, by omega, ⟨611, bpart P.rg⟩, 10, range_b hp.2 ru0, 611, bw, by decide, by decide, fun d2 H19 nd2 g19 kd2 => ?_⟩
  (try dsimp only); (first | refine hX _ _ ?_ | skip); (try dsimp only); (first | refine seqX (fun X hX => ?_) | skip); try walk_at "dr2"; (try simp only [sp_poly_product, sp_rests_of, sp_poly_difference, sp_divided_by_prime, sp_inverse_beside, sp_may_part, sp_raised]); try walk_at "dr2"
  refine ⟨J, SqL.of (g19 _ _ (G18 _ _ ke11)), v, SqL.of (g19 _ _ (g18 _ _ (g17 _ _ kv))), by omega, by omega, ⟨611, bpart P.rh⟩, 10, range_b hp.2 hv2.rq, 611, bw, by decide, by decide, fun e2 H20 ne2 g20 ke2 => ?_⟩
  have bp10 : Dr.Sm p 10 := sm_of 1000 (by omega) (by decide)
  have tv : v.getLast? = some 0 := by
    refine Dr.Divd.top hpp hv2 dn (by omega) ?_
    have h1 := Dr.pev_getD (f := C') (g := Dr.padd mi (B'.map (-1 * ·))) (fun x => by rw [Dr.padd_ev, Dr.pev_map, eC]; omega) (C'.length - 1)
    rw [h1, Dr.padd_getD, Dr.map_getD, Dr.getD_len (f := B') (by omega), show C'.length - 1 = f.length - 1 by omega, Int.mul_zero, Int.add_zero]
    exact tmi
  have huv : Dr.Cg p (Dr.pev mi) fun x => Dr.pev (u ++ [0]) x * Dr.pev h x + Dr.pev v x * Dr.pev g x := by
    have h1 := Dr.missing hpp hinv dn hA.ev hv1.eq (fun x => by rw [eC, hB.ev]) hv2.eq (by rw [hv2.lr]; exact Nat.min_le_left ..)
    refine h1.trans (((Dr.Cg.mulL (Dr.PF.of u) (Dr.Cf.rests p h).cg).add (Dr.Cg.mulL (Dr.PF.of v) (Dr.Cf.rests p g).cg)).trans (Dr.Cg.of_eq fun x => ?_))
    rw [Dr.pev_append]
    simp [Dr.pev]
  subst ew
  have st := Dr.Parts.step hp.1 (by omega) P mi1 cmi lu0 lvh ru0 hv2.rq (by simp) tv huv
  (first | refine hX _ _ ?_ | skip); (try dsimp only); try walk_at "dr1"; (try simp only [sp_poly_product, sp_rests_of, sp_poly_difference, sp_divided_by_prime, sp_inverse_beside, sp_may_part, sp_raised]); try walk_at "dr1"
  refine ⟨mulSm bw bp10 (by decide), (hPv _ _ _).mpr ⟨g7.trans (G11.trans (G18.trans (g19.trans g20))), d2, e2, _, _, _, _, _, _, st, G7.free (G11.free (G18.free nd2)), G7.free (G11.free (G18.free (g19.free ne2))), (fun z => by rw [z, ne2] at kd2; cases kd2), g20 _ _ kd2, ke2, by rw [Int.pow_succ p (i + 1)]⟩⟩
def sp_told_parts (K : PySem.W.Frag) : Sp := fun vs H Q E => ∃ (p N : Int) (t a b c : Addr) (f g h : List Int) (m : Nat), vs = [.int p, .ref t] ∧ SqL K H t [.ref a, .ref b, .ref c, .int N] ∧ SqL K H a (f.map V.int) ∧ SqL K H b (g.map V.int) ∧ SqL K H c (h.map V.int) ∧ (f.length ≤ 14 ∧ g.length ≤ 7 ∧ h.length ≤ 7) ∧ p ∈ Dr.primes ∧ N ≤ 60 ∧ Dr.PolyB f m ∧ Dr.PolyB g m ∧ Dr.PolyB h m ∧ m ≤ 10000 ∧
  (¬ (Dr.May p N f g h ∧ Dr.Bez p g h) → ∀ H', Same H H' → E (.ref (clK K "NoParts")) none H') ∧
  ∀ (G J : List Int) (H' : Hp), Dr.May p N f g h → Dr.Bez p g h → Dr.Parts p N.toNat f g h G J → Same H H' → Q (.str (Str.join (Str.ofString " ") [Tx.shown G, Tx.shown J])) H'
theorem ok_told_parts (B : Bi mg K w) (d_parts_at : DefE P w K mg base "parts_at" 5 ["p", "N", "f", "g", "h"] (sp_parts_at K)) (d_show_poly : Def P w K mg base "show_poly" 1 ["f"] (sp_show_poly K)) (F : Fun K "told_parts" "told_parts" s_told_parts f fd) : FnOk P w K mg base (CXE P w) 6 f fd ["p", "things"] (sp_told_parts K) := by
  refine F.okE S_told_parts (fun vs H Q E h => ?_) (fun cdv A outer s H vs Q E hr h => ?_)
  · obtain ⟨p, N, t, a, b, c, f, g, h, m, rfl, _⟩ := h
    rfl
  obtain ⟨p, N, t, a, b, c, f, g, h, m, rfl, hT, hS, hS2, hS3, hl, hpp, hN, hf, hg, hh, hm, qE, q⟩ := h
  have S := S_told_parts
  refine ⟨_, ((pss_cons (ps_set (i := 2) S.nd rfl (Or.inl rfl) (pe_defE passE d_parts_at hr rfl (pa_cons (pv 0) (pa_cons (pe_ix ix_list (pv 1) pe_int (fun _ _ => rfl)) (pa_cons (pe_ix ix_list (pv 1) pe_int (fun _ _ => rfl)) (pa_cons (pe_ix ix_list (pv 1) pe_int (fun _ _ => rfl)) (pa_cons (pe_ix ix_list (pv 1) pe_int (fun _ _ => rfl)) pa_nil)))))))
    (pss_one (ps_ret (pe_bm PySem.F.plainAttrs_str PySem.F.slot_str_join PySem.F.type_str_join mt_join pe_str (pa_cons (pe_comp [] [] rfl rfl trivial trivial rfl rfl (by decide) (by decide) rfl rfl (by decide) (pi_tup (pv 2)) (fun _ _ _ _ => pts_nil) (fun _ _ _ _ => (pe_def d_show_poly hr rfl (pa_cons (pv 0) pa_nil)))) pa_nil)))))), ?_⟩
  (try dsimp only); (first | refine hX _ _ ?_ | skip); (try dsimp only); (first | refine seqX (fun X hX => ?_) | skip); try walk_at "dr2"; (try simp only [sp_parts_at, sp_show_poly]); try walk_at "dr2"
  refine ⟨_, hT, _, atI_nat (j := 3) rfl, _, hT, _, atI_nat (j := 0) rfl, _, hT, _, atI_nat (j := 1) rfl, _, hT, _, atI_nat (j := 2) rfl, N, rfl, a, rfl, b, rfl, c, rfl, f, hS, g, hS2, h, hS3, hl.1, hl.2.1, hl.2.2, hpp, hN, m, hf, hg, hh, hm, qE, fun t2 d e G J H1 may bez P nd ne de g1 kd ke kt => ?_⟩
  have bG : ∀ {l : List Int}, (∀ x, x ∈ l → 0 ≤ x ∧ x < p ^ N.toNat) → ∀ x, x ∈ l → x.natAbs < 10 ^ 190 := fun {l} hx x hm => by
    have h1 := hx x hm
    have h2 := pow_bits (p := p) (by have := Dr.primes_ge hpp; omega) N.toNat
    have h3 : (2 : Nat) ^ (10 * N.toNat + 1) ≤ 2 ^ 601 := Nat.pow_le_pow_right (by decide) (by omega)
    have h4 : (2 : Nat) ^ 601 ≤ 10 ^ 190 := by decide +kernel
    generalize (10 : Nat) ^ 190 = M1 at h4 ⊢
    generalize (2 : Nat) ^ 601 = M2 at h3 h4
    generalize (2 : Nat) ^ (10 * N.toNat + 1) = M3 at h2 h3
    omega
  have lG := P.lg
  have lJ := P.lh
  have b1 := bG P.rg
  have b2 := bG P.rh
  have n1 := shown_len (ms := G) (by omega) b1
  have n2 := shown_len (ms := J) (by omega) b2
  (first | refine hX _ _ ?_ | skip); (try dsimp only); try walk_at "dr1"; (try simp only [sp_parts_at, sp_show_poly]); try walk_at "dr1"
  refine ⟨rfl, ⟨_, SqT.of kt⟩, ?_⟩
  obtain ⟨Pv, hPv⟩ : ∃ Pv : Nat → List V → Hp → Prop, ∀ i ys H2, Pv i ys H2 ↔ (Same H1 H2 ∧ ys = ([Tx.shown G, Tx.shown J].take i).map V.str) := ⟨_, fun _ _ _ => Iff.rfl⟩
  refine compT [.ref d, .ref e] Pv (by show 2 ≤ sizeLine; decide) ((hPv _ _ _).mpr ⟨Same.refl _, rfl⟩) (fun i ys H2 p => SqT.of (((hPv _ _ _).mp p).1 _ _ kt)) (fun i x ys H2 hx p => ?_) (fun ys H2 p l n_l => ?_)
  · obtain ⟨g2, rfl⟩ := (hPv _ _ _).mp p
    match i, hx with
    | 0, hx =>
      cases hx
      (first | refine hX _ _ ?_ | skip); (try dsimp only); try walk_at "dr1"; (try simp only [sp_parts_at, sp_show_poly]); try walk_at "dr1"
      exact ⟨G, SqL.of (g2 _ _ kd), by omega, b1, fun H3 g3 => (hPv _ _ _).mpr ⟨g2.trans g3, rfl⟩⟩
    | 1, hx =>
      cases hx
      (first | refine hX _ _ ?_ | skip); (try dsimp only); try walk_at "dr1"; (try simp only [sp_parts_at, sp_show_poly]); try walk_at "dr1"
      exact ⟨J, SqL.of (g2 _ _ ke), by omega, b2, fun H3 g3 => (hPv _ _ _).mpr ⟨g2.trans g3, rfl⟩⟩
    | i + 2, hx => simp at hx
  · obtain ⟨g2, rfl⟩ := (hPv _ _ _).mp p
    refine ⟨_, l, [Tx.shown G, Tx.shown J], rfl, rfl, SqL.of upd_same, PyProof.Rows.joinOk_of ?_, ?_⟩
    · simp only [List.map_cons, List.map_nil, List.sum_cons, List.sum_nil, List.length_cons, List.length_nil]
      rw [show (Str.ofString " ").length = 1 by decide +kernel]
      omega
    · rw [Tx.join_eq]
      exact q G J _ may bez P (g1.trans (g2.trans (newS n_l)))
def Tab_MADE (K : PySem.W.Frag) : Addr → Sp → Prop := fun g sp => g = 469 ∧ sp = sp_made_poly K
def Tab_TOLD (K : PySem.W.Frag) : Addr → Sp → Prop := fun g sp => g = 545 ∧ sp = sp_told_parts K
structure DeskAt (K : PySem.W.Frag) (H : Hp) (d dx kd : Addr) (p : Int) (kvs : List (Key × V)) : Prop where
  ins : H d = some (.ins (clK K "Desk") dx [("prime", .int p), ("kept", .ref kd)])
  kept : H kd = some (.dK kvs)
theorem DeskAt.same {K : PySem.W.Frag} {H H' : Hp} {d dx kd : Addr} {p : Int} {kvs : List (Key × V)} (h : DeskAt K H d dx kd p kvs) (g : Same H H') : DeskAt K H' d dx kd p kvs := ⟨g _ _ h.ins, g _ _ h.kept⟩
inductive RowP (K : PySem.W.Frag) (H : Hp) (kd : Addr) (p : Int) (kvs : List (Key × V)) (Q : VK) (E : XK) : Str → Prop
  | poly {z : Str} {f : List Int} : Nm z → f ≠ [] → f.length ≤ 13 → (∀ x, x ∈ f → x.natAbs < 10 ^ 60) → (∀ l H1, Same H H1 → H l = none → H1 l = some (.lst (f.map V.int)) → Q (.str "ok") (upd H1 kd (.dK (putK kvs (Sum.inr z) (.ref l))))) → RowP K H kd p kvs Q E (Str.join (Str.ofString " ") [("poly" : Str), z, Tx.shown f])
  | parts {x y z : Str} {N : Int} {a b c : Addr} {f g h : List Int} {m : Nat} : Nm x → Nm y → Nm z → (0 ≤ N ∧ N ≤ 60) → valV kvs (Sum.inr x) = some (.ref a) → valV kvs (Sum.inr y) = some (.ref b) → valV kvs (Sum.inr z) = some (.ref c) → SqL K H a (f.map V.int) → SqL K H b (g.map V.int) → SqL K H c (h.map V.int) → (f.length ≤ 14 ∧ g.length ≤ 7 ∧ h.length ≤ 7) → Dr.PolyB f m → Dr.PolyB g m → Dr.PolyB h m → m ≤ 10000 →
      (¬ (Dr.May p N f g h ∧ Dr.Bez p g h) → ∀ H', Same H H' → E (.ref (clK K "NoParts")) none H') →
      (∀ (G J : List Int) (H' : Hp), Dr.May p N f g h → Dr.Bez p g h → Dr.Parts p N.toNat f g h G J → Same H H' → Q (.str (Str.join (Str.ofString " ") [Tx.shown G, Tx.shown J])) H') → RowP K H kd p kvs Q E (Str.join (Str.ofString " ") [("parts" : Str), x, y, z, Tx.tx N])
def sp_say (K : PySem.W.Frag) : Sp := fun vs H Q E => ∃ (d dx kd : Addr) (p : Int) (kvs : List (Key × V)) (row : Str), vs = [.ref d, .str row] ∧ DeskAt K H d dx kd p kvs ∧ p ∈ Dr.primes ∧ kvs.length < 900 ∧ row.length ≤ 2000 ∧ RowP K H kd p kvs Q E row
theorem nm_free {z : Str} (h : Nm z) : 32 ∉ z.cps.toList := fun q => by
  have := h.all 32 q
  revert this
  decide +kernel
theorem look_no {x : Str} {a b : V} (h1 : (x == ("prime" : Str)) = false) (h2 : (x == ("kept" : Str)) = false) : List.lookup x [(("prime" : Str), a), (("kept" : Str), b)] = none := by
  simp only [List.lookup, h1, h2]
theorem look_kept {a b : V} : List.lookup ("kept" : Str) [(("prime" : Str), a), (("kept" : Str), b)] = some b := by
  have h1 : (("kept" : Str) == ("prime" : Str)) = false := by decide +kernel
  simp only [List.lookup, h1, BEq.rfl]
theorem look_prime {a b : V} : List.lookup ("prime" : Str) [(("prime" : Str), a), (("kept" : Str), b)] = some a := by
  simp only [List.lookup, BEq.rfl]
theorem ok_say (B : Bi mg K w) (t_TOLD : TabOk P w K mg base (CXE P w) 6 (Tab_TOLD K)) (t_MADE : TabOk P w K mg base CX0 1 (Tab_MADE K)) (d_words_of : Def P w K mg base "words_of" 1 ["row"] (sp_words_of K)) (d_thing_of : Met P w K mg base CX0 (clK K "Desk") "thing_of" 5 ["self", "wanted", "word"] (sp_thing_of K)) (d_keep : Met P w K mg base CX0 (clK K "Desk") "keep" 3 ["self", "name", "polynomial"] (sp_keep K)) (F : Fun K "say" "Desk.say" s_say f fd) : FnOk P w K mg base (CXE P w) 7 f fd ["self", "row"] (sp_say K) := by
  refine F.okE S_say (fun vs H Q E h => ?_) (fun cdv A outer s H vs Q E hr h => ?_)
  · obtain ⟨d, dx, kd, p, kvs, row, rfl, _⟩ := h
    rfl
  obtain ⟨d, dx, kd, p, kvs, row, rfl, hd, hp, hk, hl, r⟩ := h
  have S := S_say
  refine ⟨_, ((pss_cons (ps_set (i := 2) S.nd rfl (Or.inl rfl) (pe_def d_words_of hr rfl (pa_cons (pv 1) pa_nil)))
    (pss_cons (ps_set (i := 3) S.nd rfl (Or.inl rfl) (pe_ix ix_list (pv 2) pe_int (fun _ _ => rfl)))
    (pss_cons (ps_comp2 [0] ["self"] rfl S.nd (k := 4) rfl rfl rfl rfl ⟨rfl, trivial⟩ ⟨rfl, rfl, rfl, rfl, trivial⟩ rfl rfl (by decide) (by decide) rfl rfl rfl (by decide) (pi_zipT rfl B.b_zip (pe_kget B.kd_WANTED rfl B.gd_WANTED (pv 3) (fun _ _ => rfl)) (pe_slice sl_list (pv 2) (po_some pe_int) po_none)) (fun _ _ _ _ => pts_nil) (fun _ _ _ _ => (pe_met pass0 B.cl_Desk d_thing_of hr (pv 2) (pa_cons (pv 0) (pa_cons (pv 1) pa_nil)))))
    (pss_cons (ps_if (pt_cmp (pc_kin B.kd_MADE rfl B.gd_MADE (pv 3))) (pss_one (ps_ret (pe_met pass0 B.cl_Desk d_keep hr (pv 0) (pa_cons (pe_ix ix_list (pv 2) pe_int (fun _ _ => rfl)) (pa_cons (pe_callV t_MADE (pe_kget B.kd_MADE rfl B.gd_MADE (pv 3) (fun _ _ => rfl)) hr pass0 (pa_cons (pe_fld (pv 0) rfl) (pa_cons (pv 4) pa_nil))) pa_nil))))) pss_nil)
    (pss_cons (ps_if (pt_cmp (pc_kin B.kd_TOLD rfl B.gd_TOLD (pv 3))) (pss_one (ps_ret (pe_callV t_TOLD (pe_kget B.kd_TOLD rfl B.gd_TOLD (pv 3) (fun _ _ => rfl)) hr passE (pa_cons (pe_fld (pv 0) rfl) (pa_cons (pv 4) pa_nil))))) pss_nil)
    (pss_cons ps_never
    (pss_one ps_never)))))))), ?_⟩
  cases r with
  | poly hn hf0 hf hb q =>
    rename_i z f
    have hsp : Txt.split (Str.join (Str.ofString " ") [("poly" : Str), z, Tx.shown f]) (Str.ofString " ") = [("poly" : Str), z, Tx.shown f] := by
      rw [Tx.space_is]
      refine Tx.split_of (by simp) fun w hw => ?_
      simp only [List.mem_cons, List.not_mem_nil, or_false] at hw
      rcases hw with rfl | rfl | rfl
      · decide +kernel
      · exact nm_free hn
      · exact Tx.shown_free f
    (try dsimp only); (first | refine hX _ _ ?_ | skip); (try dsimp only); (first | refine seqX (fun X hX => ?_) | skip); try walk_at "dr2"; (try simp only [sp_words_of, sp_thing_of, sp_keep]); try walk_at "dr2"
    refine ⟨hl, _, _, hsp, _, w_WANTED_poly, _, B.tu_420, rfl, fun l1 H1 g1 n1 k1 => ?_⟩
    (try dsimp only); (first | refine hX _ _ ?_ | skip); (try dsimp only); (first | refine seqX (fun X hX => ?_) | skip); try walk_at "dr2"; (try simp only [sp_words_of, sp_thing_of, sp_keep]); try walk_at "dr2"
    refine ⟨_, SqL.of k1, _, atI_nat (j := 0) rfl, ?_⟩
    (try dsimp only); (first | refine hX _ _ ?_ | skip); (try dsimp only); (first | refine seqX (fun X hX => ?_) | skip); try walk_at "dr2"; (try simp only [sp_words_of, sp_thing_of, sp_keep]); try walk_at "dr2"
    refine ⟨_, w_WANTED_poly, _, SqL.of k1, ?_⟩
    intro l2 n_l2; generalize e_l2 : upd _ l2 _ = H2; obtain ⟨g2, k2⟩ := newH e_l2 n_l2; clear e_l2
    have k2 : H2 l2 = some (.lst [.str z, .str (Tx.shown f)]) := k2
    refine ⟨⟨_, B.tu_420.sq _⟩, ⟨_, SqL.of k2⟩, ?_⟩
    have hd2 := (hd.same g1).same g2
    obtain ⟨Pc, hPc⟩ : ∃ Pc : Nat → List V → Hp → Prop, ∀ i ys H3, Pc i ys H3 ↔ (Same H2 H3 ∧ ((i = 0 ∧ ys = []) ∨ (i = 1 ∧ ys = [.str z]) ∨ (i = 2 ∧ ∃ c, ys = [.str z, .ref c] ∧ H2 c = none ∧ H3 c = some (.lst (f.map V.int))))) := ⟨_, fun _ _ _ => Iff.rfl⟩
    refine comp2ZT [.str "new", .str "poly"] [.str z, .str (Tx.shown f)] Pc (by show 2 ≤ sizeLine; decide) rfl ((hPc _ _ _).mpr ⟨Same.refl _, .inl ⟨rfl, rfl⟩⟩) (fun i ys H3 pc => ⟨B.tu_420.sq _, SqL.of (((hPc _ _ _).mp pc).1 _ _ k2)⟩) (fun i x y ys H3 H4 hx hy pc g4 => ?_) (fun ys H3 pc l n_l => ?_)
    · obtain ⟨g3, hys⟩ := (hPc _ _ _).mp pc
      have hd4 := (hd2.same g3).same g4
      match i, hx, hy with
      | 0, hx, hy =>
        cases hx
        cases hy
        rcases hys with ⟨_, rfl⟩ | ⟨z0, _⟩ | ⟨z0, _⟩
        rotate_left
        · cases z0
        · cases z0
        (first | refine hX _ _ ?_ | skip); (try dsimp only); try walk_at "dr1"; (try simp only [sp_words_of, sp_thing_of, sp_keep]); try walk_at "dr1"
        exact ⟨_, _, hd4.ins, look_no (by decide +kernel) (by decide +kernel), _, _, hd4.ins, look_no (by decide +kernel) (by decide +kernel), .new hn fun H' g5 => (hPc _ _ _).mpr ⟨g3.trans (g4.trans g5), .inr (.inl ⟨rfl, rfl⟩)⟩⟩
      | 1, hx, hy =>
        cases hx
        cases hy
        rcases hys with ⟨z0, _⟩ | ⟨_, rfl⟩ | ⟨z0, _⟩
        · cases z0
        rotate_left
        · cases z0
        (first | refine hX _ _ ?_ | skip); (try dsimp only); try walk_at "dr1"; (try simp only [sp_words_of, sp_thing_of, sp_keep]); try walk_at "dr1"
        refine ⟨_, _, hd4.ins, look_no (by decide +kernel) (by decide +kernel), _, _, hd4.ins, look_no (by decide +kernel) (by decide +kernel), .poly ?_ (Tx.shown_poly hf0 hf hb) fun c H' g5 nc kc => (hPc _ _ _).mpr ⟨g3.trans (g4.trans g5), .inr (.inr ⟨rfl, c, rfl, none_of (g3.trans g4) nc, kc⟩)⟩⟩
        have := Tx.join_len (ms := f) (by omega) hb
        exact Nat.le_trans this (by decide)
      | i + 2, hx, hy => simp at hx
    · obtain ⟨g3, hys⟩ := (hPc _ _ _).mp pc
      rcases hys with ⟨z0, _⟩ | ⟨z0, _⟩ | ⟨_, c, rfl, nc, kc⟩
      · cases z0
      · cases z0
      have g5 := newS n_l (o := HO.lst [.str z, .ref c])
      have k5 : upd H3 l (HO.lst [.str z, .ref c]) l = some (HO.lst [.str z, .ref c]) := upd_same
      generalize upd H3 l (HO.lst [.str z, .ref c]) = H5 at g5 k5 ⊢
      have hd5 := ((hd2.same g3).same g5)
      have k15 := g5 _ _ (g3 _ _ (g2 _ _ k1))
      (try dsimp only); (first | refine hX _ _ ?_ | skip); (try dsimp only); (first | refine seqX (fun X hX => ?_) | skip); try walk_at "dr2"; (try simp only [sp_words_of, sp_thing_of, sp_keep]); try walk_at "dr2"
      rw [w_MADE_poly, if_pos (by rfl)]
      refine ⟨_, _, hd5.ins, look_no (by decide +kernel) (by decide +kernel), _, SqL.of k15, _, atI_nat (j := 1) rfl, _, rfl, _, ⟨rfl, rfl⟩, _, _, _, hd5.ins, B.cl_Desk, B.na_prime, _, look_prime, ?_⟩
      unfold sp_made_poly
      refine ⟨p, l, _, _, _, rfl, SqL.of k5, ?_⟩
      refine ⟨dx, kd, c, _, kvs, z, rfl, rfl, hd5.ins, look_kept, hd5.kept, by omega, f, SqL.of (g5 _ _ kc), by omega, hb, fun H6 g6 => ?_⟩
      exact q c H6 (g1.trans (g2.trans (g3.trans (g5.trans g6)))) (none_of (g1.trans g2) nc) (g6 _ _ (g5 _ _ kc))
  | parts hx hy hz hN vx vy vz sx sy sz hlen bf bg bh hm qE q =>
    rename_i x y z N a b c f g h m
    obtain ⟨wN, eN⟩ := Tx.tx_wr (x := N) (by
      have : N.natAbs ≤ 60 := by omega
      exact Nat.lt_of_le_of_lt this (by decide +kernel))
    have hsp : Txt.split (Str.join (Str.ofString " ") [("parts" : Str), x, y, z, Tx.tx N]) (Str.ofString " ") = [("parts" : Str), x, y, z, Tx.tx N] := by
      rw [Tx.space_is]
      refine Tx.split_of (by simp) fun w hw => ?_
      simp only [List.mem_cons, List.not_mem_nil, or_false] at hw
      rcases hw with rfl | rfl | rfl | rfl | rfl
      · decide +kernel
      · exact nm_free hx
      · exact nm_free hy
      · exact nm_free hz
      · exact Tx.tx_free N
    (try dsimp only); (first | refine hX _ _ ?_ | skip); (try dsimp only); (first | refine seqX (fun X hX => ?_) | skip); try walk_at "dr2"; (try simp only [sp_words_of, sp_thing_of, sp_keep]); try walk_at "dr2"
    refine ⟨hl, _, _, hsp, _, w_WANTED_parts, _, B.tu_434, rfl, fun l1 H1 g1 n1 k1 => ?_⟩
    (try dsimp only); (first | refine hX _ _ ?_ | skip); (try dsimp only); (first | refine seqX (fun X hX => ?_) | skip); try walk_at "dr2"; (try simp only [sp_words_of, sp_thing_of, sp_keep]); try walk_at "dr2"
    refine ⟨_, SqL.of k1, _, atI_nat (j := 0) rfl, ?_⟩
    (try dsimp only); (first | refine hX _ _ ?_ | skip); (try dsimp only); (first | refine seqX (fun X hX => ?_) | skip); try walk_at "dr2"; (try simp only [sp_words_of, sp_thing_of, sp_keep]); try walk_at "dr2"
    refine ⟨_, w_WANTED_parts, _, SqL.of k1, ?_⟩
    intro l2 n_l2; generalize e_l2 : upd _ l2 _ = H2; obtain ⟨g2, k2⟩ := newH e_l2 n_l2; clear e_l2
    have k2 : H2 l2 = some (.lst [.str x, .str y, .str z, .str (Tx.tx N)]) := k2
    refine ⟨⟨_, B.tu_434.sq _⟩, ⟨_, SqL.of k2⟩, ?_⟩
    have hd2 := (hd.same g1).same g2
    obtain ⟨Pc, hPc⟩ : ∃ Pc : Nat → List V → Hp → Prop, ∀ i ys H3, Pc i ys H3 ↔ (Same H2 H3 ∧ ys = [V.ref a, V.ref b, V.ref c, V.int N].take i) := ⟨_, fun _ _ _ => Iff.rfl⟩
    refine comp2ZT [.str "name", .str "name", .str "name", .str "depth"] [.str x, .str y, .str z, .str (Tx.tx N)] Pc (by show 4 ≤ sizeLine; decide) rfl ((hPc _ _ _).mpr ⟨Same.refl _, rfl⟩) (fun i ys H3 pc => ⟨B.tu_434.sq _, SqL.of (((hPc _ _ _).mp pc).1 _ _ k2)⟩) (fun i x y ys H3 H4 hx' hy' pc g4 => ?_) (fun ys H3 pc l n_l => ?_)
    · obtain ⟨g3, rfl⟩ := (hPc _ _ _).mp pc
      have hd4 := (hd2.same g3).same g4
      match i, hx', hy' with
      | 0, hx', hy' =>
        cases hx'
        cases hy'
        (first | refine hX _ _ ?_ | skip); (try dsimp only); try walk_at "dr1"; (try simp only [sp_words_of, sp_thing_of, sp_keep]); try walk_at "dr1"
        exact ⟨_, _, hd4.ins, look_no (by decide +kernel) (by decide +kernel), _, _, hd4.ins, look_no (by decide +kernel) (by decide +kernel), .name hx hd4.ins look_kept hd4.kept vx fun H' g5 => (hPc _ _ _).mpr ⟨g3.trans (g4.trans g5), rfl⟩⟩
      | 1, hx', hy' =>
        cases hx'
        cases hy'
        (first | refine hX _ _ ?_ | skip); (try dsimp only); try walk_at "dr1"; (try simp only [sp_words_of, sp_thing_of, sp_keep]); try walk_at "dr1"
        exact ⟨_, _, hd4.ins, look_no (by decide +kernel) (by decide +kernel), _, _, hd4.ins, look_no (by decide +kernel) (by decide +kernel), .name hy hd4.ins look_kept hd4.kept vy fun H' g5 => (hPc _ _ _).mpr ⟨g3.trans (g4.trans g5), rfl⟩⟩
      | 2, hx', hy' =>
        cases hx'
        cases hy'
        (first | refine hX _ _ ?_ | skip); (try dsimp only); try walk_at "dr1"; (try simp only [sp_words_of, sp_thing_of, sp_keep]); try walk_at "dr1"
        exact ⟨_, _, hd4.ins, look_no (by decide +kernel) (by decide +kernel), _, _, hd4.ins, look_no (by decide +kernel) (by decide +kernel), .name hz hd4.ins look_kept hd4.kept vz fun H' g5 => (hPc _ _ _).mpr ⟨g3.trans (g4.trans g5), rfl⟩⟩
      | 3, hx', hy' =>
        cases hx'
        cases hy'
        (first | refine hX _ _ ?_ | skip); (try dsimp only); try walk_at "dr1"; (try simp only [sp_words_of, sp_thing_of, sp_keep]); try walk_at "dr1"
        exact ⟨_, _, hd4.ins, look_no (by decide +kernel) (by decide +kernel), _, _, hd4.ins, look_no (by decide +kernel) (by decide +kernel), .depth wN (by rw [eN]; exact hN) fun H' g5 => (hPc _ _ _).mpr ⟨g3.trans (g4.trans g5), by rw [eN]; rfl⟩⟩
      | i + 4, hx', hy' => simp at hx'
    · obtain ⟨g3, rfl⟩ := (hPc _ _ _).mp pc
      have e4 : [V.ref a, V.ref b, V.ref c, V.int N].take [V.str (Str.ofString "name"), .str "name", .str "name", .str "depth"].length = [V.ref a, V.ref b, V.ref c, V.int N] := rfl
      rw [e4]
      have g5 := newS n_l (o := HO.lst [V.ref a, V.ref b, V.ref c, V.int N])
      have k5 : upd H3 l (HO.lst [V.ref a, V.ref b, V.ref c, V.int N]) l = some (HO.lst [V.ref a, V.ref b, V.ref c, V.int N]) := upd_same
      generalize upd H3 l (HO.lst [V.ref a, V.ref b, V.ref c, V.int N]) = H5 at g5 k5 ⊢
      have hd5 := ((hd2.same g3).same g5)
      have G5 := g1.trans (g2.trans (g3.trans g5))
      (try dsimp only); (first | refine hX _ _ ?_ | skip); (try dsimp only); (first | refine seqX (fun X hX => ?_) | skip); try walk_at "dr2"; (try simp only [sp_words_of, sp_thing_of, sp_keep]); try walk_at "dr2"
      rw [w_MADE_parts, if_neg (by intro z; cases z)]
      (try dsimp only); (first | refine hX _ _ ?_ | skip); (try dsimp only); (first | refine seqX (fun X hX => ?_) | skip); try walk_at "dr2"; (try simp only [sp_words_of, sp_thing_of, sp_keep]); try walk_at "dr2"
      rw [w_TOLD_parts, if_pos (by rfl)]
      refine ⟨_, rfl, _, ⟨rfl, rfl⟩, _, _, _, hd5.ins, B.cl_Desk, B.na_prime, _, look_prime, ?_⟩
      unfold sp_told_parts
      exact ⟨p, N, l, a, b, c, f, g, h, m, rfl, SqL.of k5, G5.seq sx, G5.seq sy, G5.seq sz, hlen, hp, hN.2, bf, bg, bh, hm, fun n H' g6 => qE n H' (G5.trans g6), fun G J H' may bez P g6 => q G J H' may bez P (G5.trans g6)⟩
def sp__law_shown (K : PySem.W.Frag) : Sp := fun vs H Q _ => ∃ (a : Addr) (ms : List Int), vs = [.ref a] ∧ SqL K H a (ms.map V.int) ∧ ms.length ≤ 14 ∧ (∀ x, x ∈ ms → x.natAbs < 10 ^ 190) ∧ ∀ H', Same H H' → Q (.str (Tx.shown ms)) H'
theorem ok__law_shown (B : Bi mg K w) (F : Fun K "_law_shown" "_law_shown" s__law_shown f fd) : FnOk P w K mg base CX0 1 f fd ["f"] (sp__law_shown K) := by
  refine F.ok S__law_shown (fun vs H Q E h => ?_) (fun cdv A outer s H vs Q E hr h => ?_)
  · obtain ⟨a, ms, rfl, _⟩ := h
    rfl
  obtain ⟨a, ms, rfl, hS, hl, hb, q⟩ := h
  have S := S__law_shown
  refine ⟨_, ((pss_one (ps_ret (pe_bm PySem.F.plainAttrs_str PySem.F.slot_str_join PySem.F.type_str_join mt_join pe_str (pa_cons (pe_comp [] [] rfl rfl trivial trivial rfl rfl (by decide) (by decide) rfl rfl (by decide) (pi_list (pv 0)) (fun _ _ _ _ => pts_nil) (fun _ _ _ _ => (pe_callTy call_str_int rfl B.b_str L2.bt_str (pa_cons (pv 0) pa_nil)))) pa_nil))))), ?_⟩
  (first | refine hX _ _ ?_ | skip); (try dsimp only); try walk_at "dr1"
  refine ⟨rfl, ⟨_, hS⟩, ?_⟩
  obtain ⟨Pv, hPv⟩ : ∃ Pv : Nat → List V → Hp → Prop, ∀ i ys H', Pv i ys H' ↔ (H' = H ∧ ys = (((ms.take i).map fun x => Str.ofString (toString x)).map V.str)) := ⟨_, fun _ _ _ => Iff.rfl⟩
  (first | refine hX _ _ ?_ | skip); refine compI ms Pv (Nat.le_trans hl (by decide)) ((hPv _ _ _).mpr ⟨rfl, rfl⟩) (fun i ys H2 p => ?_) (fun i x ys H2 hx p => ?_) (fun ys H2 p l n_l => ?_)
  · obtain ⟨rfl, _⟩ := (hPv _ _ _).mp p
    exact hS
  · obtain ⟨rfl, rfl⟩ := (hPv _ _ _).mp p
    (first | refine hX _ _ ?_ | skip); (try dsimp only); try walk_at "dr1"
    refine ⟨log_big (hb x (List.mem_of_getElem? hx)), (hPv _ _ _).mpr ⟨rfl, ?_⟩⟩
    rw [take_next hx, List.map_append, List.map_append]
    rfl
  · obtain ⟨rfl, rfl⟩ := (hPv _ _ _).mp p
    rw [List.take_length]
    exact ⟨_, l, _, rfl, rfl, SqL.of upd_same, join_big hl hb, q _ (newS n_l)⟩
def sp__law_times (K : PySem.W.Frag) : Sp := fun vs H Q _ => ∃ (a b : Addr) (f g : List Int) (m n : Nat), vs = [.ref a, .ref b] ∧ SqL K H a (f.map V.int) ∧ SqL K H b (g.map V.int) ∧ (0 < f.length ∧ f.length ≤ 60 ∧ 0 < g.length ∧ g.length ≤ 60) ∧ Dr.PolyB f m ∧ Dr.PolyB g n ∧ (m ≤ 1000000 ∧ n ≤ 1000000) ∧
  ∀ (c : Addr) (r : List Int) (H' : Hp), Dr.IsProd f g r → Dr.PolyB r (m + n + 12) → H c = none → Same H H' → H' c = some (.lst (r.map V.int)) → Q (.ref c) H'
theorem ok__law_times (B : Bi mg K w) (F : Fun K "_law_times" "_law_times" s__law_times f fd) : FnOk P w K mg base CX0 1 f fd ["f", "g"] (sp__law_times K) := by
  refine F.ok S__law_times (fun vs H Q E h => ?_) (fun cdv A outer s H vs Q E hr h => ?_)
  · obtain ⟨a, b, f, g, m, n, rfl, _⟩ := h
    rfl
  obtain ⟨a, b, f, g, m, n, rfl, hS, hS', hl, hf, hg, hmn, q⟩ := h
  have S := S__law_times
  refine ⟨_, ((pss_cons (ps_set (i := 2) S.nd rfl (Or.inl rfl) (pe_op op_rep (pe_lst (pa_cons pe_int pa_nil)) (pe_op op_sub (pe_op op_add (pe_callB call_len_seq rfl B.b_len PySem.boot_len (pa_cons (pv 0) pa_nil)) (pe_callB call_len_seq rfl B.b_len PySem.boot_len (pa_cons (pv 1) pa_nil))) pe_int)))
    (pss_cons (ps_for PassesOwn.never rfl (pi_range1 rfl B.b_range (pa_cons (pe_callB call_len_seq rfl B.b_len PySem.boot_len (pa_cons (pv 0) pa_nil)) pa_nil)) (pg_name (i := 3) S.nd rfl (Or.inl rfl)) (pss_one (ps_for PassesOwn.never rfl (pi_range1 rfl B.b_range (pa_cons (pe_callB call_len_seq rfl B.b_len PySem.boot_len (pa_cons (pv 1) pa_nil)) pa_nil)) (pg_name (i := 4) S.nd rfl (Or.inl rfl)) (pss_one (ps_asg (pe_op op_add (pe_ix ix_list (pv 2) (pe_op op_add (pv 3) (pv 4)) (fun _ _ => rfl)) (pe_op op_mulW (pe_ix ix_list (pv 0) (pv 3) (fun _ _ => rfl)) (pe_ix ix_list (pv 1) (pv 4) (fun _ _ => rfl)))) (pg_sub (pv 2) (pe_op op_add (pv 3) (pv 4)) set_list))))))
    (pss_one (ps_ret (pv 2)))))), ?_⟩
  (first | refine hX _ _ ?_ | skip); (try dsimp only); try walk_at "dr1"
  refine ⟨by decide, ?_⟩
  intro l0 n_l0; generalize e_l0 : upd _ l0 _ = H1; obtain ⟨g1, k1⟩ := newH e_l0 n_l0; clear e_l0
  refine ⟨_, .inl (g1.seq hS), _, .inl (g1.seq hS'), ?_⟩
  simp only [List.length_map]
  refine ⟨_, k1, by omega, by omega, by simp only [List.length_cons, List.length_nil]; unfold sizeLine; omega, ?_⟩
  intro l n_l; generalize e_l : upd _ l _ = H2; obtain ⟨g2, k2⟩ := newH e_l n_l; clear e_l
  rw [rep_zero] at k2
  have g12 := g1.trans g2
  have nl : H l = none := g1.free n_l
  refine ⟨_, .inl (g12.seq hS), by simp only [List.length_map]; omega, by simp only [List.length_map]; omega, ?_⟩
  obtain ⟨M, hM⟩ : ∃ M : Nat, M = 2 ^ (m + n) := ⟨_, rfl⟩
  obtain ⟨Pv, hPv⟩ : ∃ Pv : Nat → St → Hp → Prop, ∀ i σ H3, Pv i σ H3 ↔ (Same H H3 ∧ ∃ (r : List Int) (t3 t4 : Option V), r.length + 1 = f.length + g.length ∧ (∀ c, c ∈ r → c.natAbs ≤ i * g.length * M) ∧ (∀ x, Dr.pev r x = Dr.pev (f.take i) x * Dr.pev g x) ∧ H3 l = some (.lst (r.map V.int)) ∧ σ = [some (.ref a), some (.ref b), some (.ref l), t3, t4]) := ⟨_, fun _ _ _ => Iff.rfl⟩
  (first | refine hX _ _ ?_ | skip); refine forR Pv ((hPv _ _ _).mpr ⟨g12, _, none, none, by rw [List.length_replicate]; omega, fun c hc => by rw [(List.mem_replicate.mp hc).2]; simp, fun x => by rw [Dr.pev_zeros]; simp [Dr.pev], k2, rfl⟩) ?_ ?_
  · intro i σ H3 hi z
    obtain ⟨g3, r, t3, t4, hrl, hrb, hre, k3, rfl⟩ := (hPv _ _ _).mp z
    simp only [List.length_map, Int.toNat_natCast] at hi
    obtain ⟨c, hc⟩ : ∃ c, f[i]? = some c := ⟨_, List.getElem?_eq_getElem hi⟩
    have ac : atI (f.map V.int) (0 + (i : Int)) = some (.int c) := by
      rw [Int.zero_add]
      exact atI_nat (by rw [List.getElem?_map, hc]; rfl)
    (first | refine hX _ _ ?_ | skip); (try dsimp only); try walk_at "dr1"
    refine ⟨_, .inl (g3.seq hS'), by simp only [List.length_map]; omega, by simp only [List.length_map]; omega, ?_⟩
    obtain ⟨Pw, hPw⟩ : ∃ Pw : Nat → St → Hp → Prop, ∀ j σ H5, Pw j σ H5 ↔ (Same H H5 ∧ ∃ (r : List Int) (t4 : Option V), r.length + 1 = f.length + g.length ∧ (∀ c, c ∈ r → c.natAbs ≤ (i * g.length + j) * M) ∧ (∀ x, Dr.pev r x = Dr.pev (f.take i) x * Dr.pev g x + c * x ^ i * Dr.pev (g.take j) x) ∧ H5 l = some (.lst (r.map V.int)) ∧ σ = [some (.ref a), some (.ref b), some (.ref l), some (.int (0 + (i : Int))), t4]) := ⟨_, fun _ _ _ => Iff.rfl⟩
    (first | refine hX _ _ ?_ | skip); refine forR Pw ((hPw _ _ _).mpr ⟨g3, r, t4, hrl, hrb, fun x => by rw [hre]; simp [Dr.pev], k3, rfl⟩) ?_ ?_
    · intro j σ H5 hj z
      obtain ⟨g5, r, t4, hrl, hrb, hre, k5, rfl⟩ := (hPw _ _ _).mp z
      simp only [List.length_map, Int.toNat_natCast] at hj
      obtain ⟨d, hd⟩ : ∃ d, g[j]? = some d := ⟨_, List.getElem?_eq_getElem hj⟩
      have ad : atI (g.map V.int) (0 + (j : Int)) = some (.int d) := by
        rw [Int.zero_add]
        exact atI_nat (by rw [List.getElem?_map, hd]; rfl)
      obtain ⟨v, e1, e2, e3, _⟩ := get_int (fs := r) (k := 0 + (i : Int) + (0 + (j : Int))) (by omega) (by omega)
      have hcd : (c * d).natAbs ≤ M := by
        rw [hM]
        exact Nat.le_of_lt ((hf c (List.mem_of_getElem? hc)).mul (hg d (List.mem_of_getElem? hd)))
      (first | refine hX _ _ ?_ | skip); (try dsimp only); try walk_at "dr1"
      refine ⟨_, SqL.of k5, _, e2, _, g5.seq hS, _, ac, _, g5.seq hS', _, ad, c, rfl, d, rfl, mulSm (hf c (List.mem_of_getElem? hc)) (hg d (List.mem_of_getElem? hd)) (by omega), v, rfl, _, k5, _, e3, ?_⟩
      rw [set_int]
      have eij : (0 + (i : Int) + (0 + (j : Int))).toNat = i + j := by omega
      rw [eij] at e1 ⊢
      refine (hPw _ _ _).mpr ⟨g5.up nl _, _, _, by rw [List.length_set]; exact hrl, fun e he => ?_, fun x => ?_, upd_same, rfl⟩
      · rcases mem_set he with w | w
        · exact Nat.le_trans (hrb e w) (Nat.mul_le_mul_right _ (Nat.le_succ _))
        · rw [w]
          exact steps (hrb v (List.mem_of_getElem? e1)) hcd
      · rw [Dr.pev_set x (c * d) r (i + j) v e1, hre, Dr.pev_take_succ hd, Dr.pow_add']
        generalize x ^ i = X
        generalize x ^ j = Y
        grind
    · intro σ H5 z
      obtain ⟨g5, r, t4, hrl, hrb, hre, k5, rfl⟩ := (hPw _ _ _).mp z
      simp only [List.length_map, Int.toNat_natCast] at hrb hre
      refine (hPv _ _ _).mpr ⟨g5, r, _, _, hrl, fun c hc => ?_, fun x => ?_, k5, rfl⟩
      · rw [Nat.succ_mul]
        exact hrb c hc
      · rw [hre, List.take_length, Dr.pev_take_succ hc]
        grind
  · intro σ H3 z
    obtain ⟨g3, r, t3, t4, hrl, hrb, hre, k3, rfl⟩ := (hPv _ _ _).mp z
    simp only [List.length_map, Int.toNat_natCast] at hrb hre
    (first | refine hX _ _ ?_ | skip); (try dsimp only); try walk_at "dr1"
    rw [List.take_length] at hre
    refine q l r H3 ⟨hrl, hre⟩ (fun c hc => ?_) nl g3 k3
    have h1 := hrb c hc
    have h2 : f.length * g.length * M ≤ 3600 * M := Nat.mul_le_mul_right _ (Nat.mul_le_mul (show f.length ≤ 60 by omega) (show g.length ≤ 60 by omega))
    show c.natAbs < 2 ^ (m + n + 12)
    rw [Nat.pow_add, ← hM]
    have : (2 : Nat) ^ 12 = 4096 := by decide
    have : 0 < M := by rw [hM]; exact Nat.pow_pos (by decide)
    omega
def sp__law_built (K : PySem.W.Frag) : Sp := fun vs H Q _ => ∃ (a : Addr) (ns : List Int), vs = [.ref a] ∧ SqL K H a (ns.map V.int) ∧ ns.length ≤ 6 ∧ (∀ x, x ∈ ns → Dr.Sm x 13) ∧ ∀ (c : Addr) (f : List Int) (H' : Hp), Dr.Blt ns f → Dr.PolyB f (2 + 25 * ns.length) → H c = none → Same H H' → H' c = some (.lst (f.map V.int)) → Q (.ref c) H'
theorem ok__law_built (B : Bi mg K w) (d__law_times : Def P w K mg base "_law_times" 1 ["f", "g"] (sp__law_times K)) (F : Fun K "_law_built" "_law_built" s__law_built f fd) : FnOk P w K mg base CX0 2 f fd ["some"] (sp__law_built K) := by
  refine F.ok S__law_built (fun vs H Q E h => ?_) (fun cdv A outer s H vs Q E hr h => ?_)
  · obtain ⟨a, ns, rfl, _⟩ := h
    rfl
  obtain ⟨a, ns, rfl, hS, hl, hb, q⟩ := h
  have S := S__law_built
  refine ⟨_, ((pss_cons (ps_set (i := 1) S.nd rfl (Or.inl rfl) (pe_lst (pa_cons pe_int pa_nil)))
    (pss_cons (ps_for PassesOwn.never rfl (pi_list (pv 0)) (pg_name (i := 2) S.nd rfl (Or.inl rfl)) (pss_one (ps_set (i := 1) S.nd rfl (Or.inl rfl) (pe_def d__law_times hr rfl (pa_cons (pv 1) (pa_cons (pe_lst (pa_cons (pe_un un_neg (pv 2)) (pa_cons pe_int pa_nil))) pa_nil))))))
    (pss_one (ps_ret (pv 1)))))), ?_⟩
  (try dsimp only); (first | refine hX _ _ ?_ | skip); (try dsimp only); (first | refine seqX (fun X hX => ?_) | skip); try walk_at "dr2"; (try simp only [sp__law_times]); try walk_at "dr2"
  refine ⟨by decide, ?_⟩
  intro l1 n_l1; generalize e_l1 : upd _ l1 _ = H1; obtain ⟨g1, k1⟩ := newH e_l1 n_l1; clear e_l1
  (try dsimp only); (first | refine hX _ _ ?_ | skip); (try dsimp only); (first | refine seqX (fun X hX => ?_) | skip); try walk_at "dr2"; (try simp only [sp__law_times]); try walk_at "dr2"
  refine ⟨⟨_, g1.seq hS⟩, ?_⟩
  obtain ⟨Pv, hPv⟩ : ∃ Pv : Nat → St → Hp → Prop, ∀ i σ H2, Pv i σ H2 ↔ (Same H H2 ∧ ∃ (l : Addr) (f : List Int) (t2 : Option V), H2 l = some (.lst (f.map V.int)) ∧ H l = none ∧ Dr.Blt (ns.take i) f ∧ Dr.PolyB f (2 + 25 * i) ∧ σ = [some (.ref a), some (.ref l), t2]) := ⟨_, fun _ _ _ => Iff.rfl⟩
  (first | refine hX _ _ ?_ | skip); refine forI ns Pv ((hPv _ _ _).mpr ⟨g1, l1, [1], none, k1, n_l1, Dr.Blt.nil, fun x hx => by rw [List.mem_singleton.mp hx]; exact (sm_of (k := 2) 1 (by decide) (by decide)), rfl⟩) (fun i σ H2 z => ((hPv _ _ _).mp z).1.seq hS) ?_ ?_
  · intro i x σ H2 hx z
    obtain ⟨g2, l, f, t2, kl, nl, hbl, hpb, rfl⟩ := (hPv _ _ _).mp z
    have hi := (List.getElem?_eq_some_iff.mp hx).1
    have ll := hbl.len
    rw [List.length_take] at ll
    have bx : Dr.PolyB [0 - x, 1] 13 := fun y hy => by
      simp only [List.mem_cons, List.not_mem_nil, or_false] at hy
      have := hb x (List.mem_of_getElem? hx)
      rcases hy with e | e <;> rw [e]
      · unfold Dr.Sm at this ⊢
        omega
      · exact (sm_of (k := 13) 1 (by decide) (by decide))
    (first | refine hX _ _ ?_ | skip); (try dsimp only); try walk_at "dr1"; (try simp only [sp__law_times]); try walk_at "dr1"
    refine ⟨by decide, ?_⟩
    intro l3 n_l3; generalize e_l3 : upd _ l3 _ = H3; obtain ⟨g3, k3⟩ := newH e_l3 n_l3; clear e_l3
    have k3 : H3 l3 = some (.lst ([0 - x, 1].map V.int)) := by rw [k3, show 0 - x = -x by omega]; rfl
    refine ⟨f, SqL.of (g3 _ _ kl), [0 - x, 1], SqL.of k3, by omega, by omega, by simp, by simp, _, hpb, 13, bx, by omega, by decide, fun c r H4 hr br nc g4 kc => ?_⟩
    refine (hPv _ _ _).mpr ⟨g2.trans (g3.trans g4), c, r, _, kc, none_of (g2.trans g3) nc, ?_, fun y hy => (br y hy).mono (by omega), rfl⟩
    rw [take_next hx]
    exact hbl.snoc hr
  · intro σ H2 z
    obtain ⟨g2, l, f, t2, kl, nl, hbl, hpb, rfl⟩ := (hPv _ _ _).mp z
    rw [List.take_length] at hbl
    (first | refine hX _ _ ?_ | skip); (try dsimp only); try walk_at "dr1"; (try simp only [sp__law_times]); try walk_at "dr1"
    exact q l f H2 hbl hpb nl g2 kl
structure Off (q : Int) (f r : List Int) : Prop where
  len : r.length = f.length
  top : r.getLast? = some 1
  cf : Dr.Cf q r f
  le : ∀ x, x ∈ r → ∃ y, y ∈ f ∧ x.natAbs ≤ y.natAbs + 3 * q.natAbs
def sp__law_put_off (K : PySem.W.Frag) : Sp := fun vs H Q _ => ∃ (a : Addr) (f : List Int) (cell q : Int), vs = [.ref a, .int cell, .int q] ∧ SqL K H a (f.map V.int) ∧ (2 ≤ f.length ∧ f.length ≤ 13) ∧ f.getLast? = some 1 ∧ Dr.Sm q 700 ∧ Dr.PolyB f 700 ∧ ∀ (c : Addr) (r : List Int) (H' : Hp), Off q f r → H c = none → Same H H' → H' c = some (.lst (r.map V.int)) → Q (.ref c) H'
theorem getD_left {r s : List Int} {k : Nat} (h : k < r.length) : (r ++ s).getD k 0 = r.getD k 0 := by
  rw [List.getD_eq_getElem?_getD, List.getElem?_append_left h, ← List.getD_eq_getElem?_getD]
theorem getD_mid {r : List Int} {k : Nat} {v : Int} (h : k = r.length) : (r ++ [v]).getD k 0 = v := by
  rw [List.getD_eq_getElem?_getD, List.getElem?_append_right (by omega), h, Nat.sub_self]
  rfl
theorem cdv_small {x y : Int} (h : 0 < y ∧ y < 1000) : CDivW x y := ⟨h.1, by
  have h1 : y.natAbs < 1000 := by omega
  have h2 : y.natAbs.log2 < 10 := (Nat.log2_lt (by omega)).mpr (Nat.lt_trans h1 (by decide))
  omega⟩
theorem ok__law_put_off (B : Bi mg K w) (F : Fun K "_law_put_off" "_law_put_off" s__law_put_off f fd) : FnOk P w K mg base CX0 1 f fd ["f", "cell", "whole"] (sp__law_put_off K) := by
  refine F.ok S__law_put_off (fun vs H Q E h => ?_) (fun cdv A outer s H vs Q E hr h => ?_)
  · obtain ⟨a, f, cell, q, rfl, _⟩ := h
    rfl
  obtain ⟨a, f, cell, w0, rfl, hS, hl, ht, hq, hf, q⟩ := h
  have S := S__law_put_off
  refine ⟨_, ((pss_one (ps_ret (pe_op op_cat (pe_comp [1, 0, 2] ["cell", "f", "whole"] rfl rfl ⟨rfl, rfl, rfl, trivial⟩ ⟨rfl, rfl, rfl, rfl, rfl, rfl, rfl, rfl, rfl, rfl, rfl, rfl, trivial⟩ rfl rfl (by decide) (by decide) rfl rfl (by decide) (pi_range1 rfl B.b_range (pa_cons (pe_op op_sub (pe_callB call_len_seq rfl B.b_len PySem.boot_len (pa_cons (pv 0) pa_nil)) pe_int) pa_nil)) (fun _ _ _ _ => pts_nil) (fun _ _ _ _ => (pe_op op_add (pe_ix (ix_listK (K := K) rfl) (pv 2) (pv 0) (fun _ _ => rfl)) (pe_op op_mulW (pv 3) (pe_op op_sub (pe_op op_mod (pe_op op_fdivW (pv 1) (pe_op op_add (pv 0) pe_int)) pe_int) pe_int))))) (pe_lst (pa_cons pe_int pa_nil)))))), ?_⟩
  (first | refine hX _ _ ?_ | skip); (try dsimp only); try walk_at "dr1"
  refine ⟨_, .inl hS, by rw [List.length_map]; omega, by rw [List.length_map]; omega, ?_⟩
  rw [List.length_map]
  obtain ⟨Pc, hPc⟩ : ∃ Pc : Nat → List V → Hp → Prop, ∀ i ys H', Pc i ys H' ↔ (H' = H ∧ ∃ r : List Int, ys = r.map V.int ∧ r.length = i ∧ (∀ k, k < i → (r.getD k 0 - f.getD k 0) % w0 = 0) ∧ ∀ x, x ∈ r → ∃ y, y ∈ f ∧ x.natAbs ≤ y.natAbs + 3 * w0.natAbs) := ⟨_, fun _ _ _ => Iff.rfl⟩
  (first | refine hX _ _ ?_ | skip); refine compR Pc ?_ ((hPc _ _ _).mpr ⟨rfl, [], rfl, rfl, fun k hk => by omega, fun x hx => by cases hx⟩) ?_ ?_
  · have : ((f.length : Int) - 1).toNat ≤ 13 := by omega
    exact Nat.le_trans this (by decide)
  · intro i ys H2 hi z
    obtain ⟨rfl, r, rfl, rl, rc, rb⟩ := (hPc _ _ _).mp z
    have hi2 : i + 1 < f.length := by omega
    have m7 := mod_in (cell / (0 + (i : Int) + 1)) (show (0 : Int) < 7 by decide)
    (first | refine hX _ _ ?_ | skip); (try dsimp only); try walk_at "dr1"
    generalize cell / (0 + (i : Int) + 1) % 7 = m at m7 ⊢
    have bm : Dr.Sm (m - 3) 3 := sm_of 3 (by omega) (by decide)
    refine ⟨_, hS, _, atI_ints (by omega) (by omega), cdv_small ⟨by omega, by omega⟩, mulSm hq bm (by decide), _, rfl, ?_⟩
    rw [show (0 + (i : Int)).toNat = i by omega]
    have hv : f.getD i 0 ∈ f := getD_in (ns := f) (i := (i : Int)) (by omega) (by omega)
    refine (hPc _ _ _).mpr ⟨rfl, r ++ [f.getD i 0 + w0 * (m - 3)], by rw [List.map_append]; rfl, by rw [List.length_append, rl]; rfl, fun k hk => ?_, fun x hx => ?_⟩
    · by_cases c : k < i
      · rw [getD_left (by omega)]
        exact rc k c
      · have e : k = i := by omega
        subst e
        rw [getD_mid (by omega)]
        rw [show f.getD k 0 + w0 * (m - 3) - f.getD k 0 = w0 * (m - 3) by omega]
        exact Int.mul_emod_right ..
    · rcases List.mem_append.mp hx with u | u
      · exact rb x u
      · refine ⟨_, hv, ?_⟩
        rw [List.mem_singleton.mp u]
        have h1 : (w0 * (m - 3)).natAbs ≤ 3 * w0.natAbs := by
          rw [Int.natAbs_mul, Nat.mul_comm]
          exact Nat.mul_le_mul_right _ (by omega)
        omega
  · intro ys H2 z l2 n2
    obtain ⟨rfl, r, rfl, rl, rc, rb⟩ := (hPc _ _ _).mp z
    have rl : r.length + 1 = f.length := by omega
    refine ⟨by decide, fun p np => ?_⟩
    have ne : l2 ≠ p := fun z => by rw [← z, upd_same] at np; cases np
    refine ⟨l2, rfl, _, by rw [upd_ne ne]; exact upd_same, [.int 1], upd_same, ?_, fun p2 np2 => ?_⟩
    · rw [List.length_map]
      exact Nat.le_trans (show r.length + 1 ≤ 13 by omega) (by decide)
    have g1 := newS n2 (o := HO.lst (r.map V.int))
    have g2 := newS np (o := HO.lst [V.int 1])
    have g3 := newS np2 (o := HO.lst (r.map V.int ++ [V.int 1]))
    refine q p2 (r ++ [1]) _ ⟨by rw [List.length_append, List.length_singleton]; exact rl, by simp, fun k => ?_, fun x hx => ?_⟩ (none_of (g1.trans g2) np2) (g1.trans (g2.trans g3)) (by rw [upd_same, List.map_append]; rfl)
    · by_cases c : k < r.length
      · rw [getD_left c]
        exact rc k (by omega)
      · by_cases c2 : k = r.length
        · rw [getD_mid c2, c2]
          have : f.getD r.length 0 = 1 := by
            rw [List.getLast?_eq_getElem?] at ht
            rw [List.getD_eq_getElem?_getD, show r.length = f.length - 1 by omega, ht]
            rfl
          rw [this]
          simp
        · rw [List.getD_eq_getElem?_getD, List.getElem?_eq_none (by rw [List.length_append, List.length_singleton]; omega), List.getD_eq_getElem?_getD, List.getElem?_eq_none (by omega)]
          simp
    · rcases List.mem_append.mp hx with u | u
      · exact rb x u
      · rw [List.mem_singleton.mp u]
        exact ⟨1, List.mem_of_getLast? ht, by omega⟩
def refusedB : List Bool := [true, false, false, false, false, false]
def sp__law_told (K : PySem.W.Frag) : Sp := fun vs H Q _ => ∃ (d dx kd : Addr) (p : Int) (kvs : List (Key × V)) (row : Str), vs = [.ref d, .str row] ∧ DeskAt K H d dx kd p kvs ∧ p ∈ Dr.primes ∧ kvs.length < 900 ∧ row.length ≤ 2000 ∧
  RowP K H kd p kvs Q (fun c _ H1 => c = .ref (clK K "NoParts") ∧ ∀ l H', Same H1 H' → H1 l = none → H' l = some (.lst (refusedB.map V.bl)) → Q (.ref l) H') row
theorem RowP.mono {K : PySem.W.Frag} {H : Hp} {kd : Addr} {p : Int} {kvs : List (Key × V)} {Q Q' : VK} {E E' : XK} {row : Str} (r : RowP K H kd p kvs Q E row) (hQ : ∀ v H1, Q v H1 → Q' v H1) (hE : ∀ c x H1, E c x H1 → E' c x H1) : RowP K H kd p kvs Q' E' row := by
  cases r with
  | poly a1 a2 a3 a4 q => exact .poly a1 a2 a3 a4 fun l H1 h1 h2 h3 => hQ _ _ (q l H1 h1 h2 h3)
  | parts a1 a2 a3 a4 a5 a6 a7 a8 a9 b1 b2 b3 b4 b5 b6 qE q => exact .parts a1 a2 a3 a4 a5 a6 a7 a8 a9 b1 b2 b3 b4 b5 b6 (fun n H' g => hE _ _ _ (qE n H' g)) fun G J H' h1 h2 h3 h4 => hQ _ _ (q G J H' h1 h2 h3 h4)
theorem ok__law_told (B : Bi mg K w) (d_say : Met P w K mg base (CXE P w) (clK K "Desk") "say" 7 ["self", "row"] (sp_say K)) (F : Fun K "_law_told" "_law_told" s__law_told f fd) : FnOk P w K mg base CX0 8 f fd ["desk", "row"] (sp__law_told K) := by
  refine F.ok S__law_told (fun vs H Q E h => ?_) (fun cdv A outer s H vs Q E hr h => ?_)
  · obtain ⟨d, dx, kd, p, kvs, row, rfl, _⟩ := h
    rfl
  obtain ⟨d, dx, kd, p, kvs, row, rfl, hd, hp, hk, hl, r⟩ := h
  have S := S__law_told
  refine ⟨_, ((pss_cons (ps_set (i := 2) S.nd rfl (Or.inl rfl) pe_non)
    (pss_cons (ps_join (ps_tryAs rfl rfl rfl B.c_RestError S.nd (i := 3) rfl rfl (fun _ _ _ hx => (pss_one (ps_set (i := 2) S.nd rfl (Or.inl rfl) (pe_metX hx B.cl_Desk d_say hr (pv 0) (pa_cons (pv 1) pa_nil))))) (fun _ => (pss_cons (ps_set (i := 2) S.nd rfl (Or.inl rfl) (pe_lst (pa_cons (pe_callB (call_isiX (K := K) rfl) rfl B.b_isinstance L2.bt_isinstance (pa_cons (pv 3) (pa_cons (pe_glob (v := .ref _) rfl B.c_NoParts rfl) pa_nil))) (pa_cons (pe_callB (call_isiX (K := K) rfl) rfl B.b_isinstance L2.bt_isinstance (pa_cons (pv 3) (pa_cons (pe_glob (v := .ref _) rfl B.c_NoDepth rfl) pa_nil))) (pa_cons (pe_callB (call_isiX (K := K) rfl) rfl B.b_isinstance L2.bt_isinstance (pa_cons (pv 3) (pa_cons (pe_glob (v := .ref _) rfl B.c_NoName rfl) pa_nil))) (pa_cons (pe_callB (call_isiX (K := K) rfl) rfl B.b_isinstance L2.bt_isinstance (pa_cons (pv 3) (pa_cons (pe_glob (v := .ref _) rfl B.c_NoRow rfl) pa_nil))) pa_nil))))))
    (pss_one (ps_set (i := 2) S.nd rfl (Or.inl rfl) (pe_op op_cat (pv 2) (pe_lst (pa_cons (pe_callB (call_isiX (K := K) rfl) rfl B.b_isinstance L2.bt_isinstance (pa_cons (pv 3) (pa_cons (pe_glob (v := .ref _) rfl B.c_NoText rfl) pa_nil))) (pa_cons (pe_callB (call_isiX (K := K) rfl) rfl B.b_isinstance L2.bt_isinstance (pa_cons (pv 3) (pa_cons (pe_glob (v := .ref _) rfl B.c_TooDeep rfl) pa_nil))) pa_nil))))))))))
    (pss_one (ps_ret (pv 2)))))), ?_⟩
  (try dsimp only); (first | refine hX _ _ ?_ | skip); (try dsimp only); (first | refine seqX (fun X hX => ?_) | skip); try walk_at "dr2"; (try simp only [sp_say]); try walk_at "dr2"
  (first | refine hX _ _ ?_ | skip); refine seqI ?_
  obtain ⟨R, hR⟩ : ∃ R : St → Hp → Prop, ∀ σ' H2, R σ' H2 ↔ (∃ (v : V) (t3 : Option V), σ' = [some (.ref d), some (.str row), some v, t3] ∧ Q v H2) := ⟨_, fun _ _ => Iff.rfl⟩
  (first | refine hX _ _ ?_ | skip); refine joinB R ?_ ?_
  · (try dsimp only); (first | refine hX _ _ ?_ | skip); (try dsimp only); (first | refine seqX (fun X hX => ?_) | skip); try walk_at "dr2"; (try simp only [sp_say]); try walk_at "dr2"
    refine ⟨_, _, hd.ins, look_no (by decide +kernel) (by decide +kernel), dx, kd, p, kvs, hd, hp, hk, hl, r.mono (fun v H1 qv => (hR _ _).mpr ⟨v, none, rfl, qv⟩) (fun c x H1 ⟨ec, qe⟩ => ?_)⟩
    subst ec
    refine ⟨B.m_NoParts_RestError, _, rfl, fun ea n_ea => ?_⟩
    generalize e_ea : upd _ ea _ = H3
    obtain ⟨g3, k3⟩ := newH e_ea n_ea
    clear e_ea
    (try dsimp only); (first | refine hX _ _ ?_ | skip); (try dsimp only); (first | refine seqX (fun X hX => ?_) | skip); try walk_at "dr2"; (try simp only [sp_say]); try walk_at "dr2"
    refine ⟨_, k3, B.f_NoParts, _, B.i_NoParts_NoParts, _, k3, B.f_NoParts, _, B.i_NoParts_NoDepth, _, k3, B.f_NoParts, _, B.i_NoParts_NoName, _, k3, B.f_NoParts, _, B.i_NoParts_NoRow, by decide, ?_⟩
    intro b1 n_b1; generalize e_b1 : upd _ b1 _ = H4; obtain ⟨g4, k4⟩ := newH e_b1 n_b1; clear e_b1
    (try dsimp only); (first | refine hX _ _ ?_ | skip); (try dsimp only); (first | refine seqX (fun X hX => ?_) | skip); try walk_at "dr2"; (try simp only [sp_say]); try walk_at "dr2"
    refine ⟨_, g4 _ _ k3, B.f_NoParts, _, B.i_NoParts_NoText, _, g4 _ _ k3, B.f_NoParts, _, B.i_NoParts_TooDeep, by decide, ?_⟩
    intro b2 n_b2; generalize e_b2 : upd _ b2 _ = H5; obtain ⟨g5, k5⟩ := newH e_b2 n_b2; clear e_b2
    refine ⟨_, g5 _ _ k4, _, k5, by decide, ?_⟩
    intro b3 n_b3; generalize e_b3 : upd _ b3 _ = H6; obtain ⟨g6, k6⟩ := newH e_b3 n_b3; clear e_b3
    try dsimp only [Ends.gone]
    exact (hR _ _).mpr ⟨_, _, rfl, qe b3 H6 (g3.trans (g4.trans (g5.trans g6))) (none_of (g3.trans (g4.trans g5)) n_b3) k6⟩
  intro σ' H2 z
  obtain ⟨v, t3, rfl, qv⟩ := (hR _ _).mp z
  (first | refine hX _ _ ?_ | skip); (try dsimp only); try walk_at "dr1"; (try simp only [sp_say]); try walk_at "dr1"
  exact qv
def cellv (ns : List Int) (k : Int) : Int := if k < ns.length then ns.getD k.toNat 0 else 3 * k * k + 17 * k + 4
def sp__law_cell (K : PySem.W.Frag) : Sp := fun vs H Q _ => ∃ (a : Addr) (ns : List Int) (k : Int), vs = [.ref a, .int k] ∧ SqL K H a (ns.map V.int) ∧ ns.length ≤ 63 ∧ (0 ≤ k ∧ k < 1000) ∧ Q (.int (cellv ns k)) H
theorem ok__law_cell (B : Bi mg K w) (F : Fun K "_law_cell" "_law_cell" s__law_cell f fd) : FnOk P w K mg base CX0 1 f fd ["script", "k"] (sp__law_cell K) := by
  refine F.ok S__law_cell (fun vs H Q E h => ?_) (fun cdv A outer s H vs Q E hr h => ?_)
  · obtain ⟨a, ns, k, rfl, _⟩ := h
    rfl
  obtain ⟨a, ns, k, rfl, hS, hl, hk, q⟩ := h
  have S := S__law_cell
  refine ⟨_, ((pss_cons (ps_if (pt_cmpR op_lt (pv 1) (pe_callB call_len_seq rfl B.b_len PySem.boot_len (pa_cons (pv 0) pa_nil)) (nomark _)) (pss_one (ps_ret (pe_ix ix_list (pv 0) (pv 1) (fun _ _ => rfl)))) pss_nil)
    (pss_one (ps_ret (pe_op op_add (pe_op op_add (pe_op op_mulW (pe_op op_mulW pe_int (pv 1)) (pv 1)) (pe_op op_mulW pe_int (pv 1))) pe_int))))), ?_⟩
  refine ⟨_, rfl, _, rfl, a, _, rfl, .inl hS, _, _, rfl, rfl, _, rfl, ?_⟩
  have hm : (((ns.map V.int).length : Nat) : Int) = (ns.length : Int) := by rw [List.length_map]
  refine ite2 (fun c => ?_) (fun c => ?_)
  · have c' : k < (ns.length : Int) := by rw [← hm]; exact of_decide_eq_true c
    have hk' : k.toNat < ns.length := by omega
    have ek : k = ((k.toNat : Nat) : Int) := by omega
    have g : atI (ns.map V.int) ((k.toNat : Nat) : Int) = some (.int (ns.getD k.toNat 0)) := atI_nat (by rw [List.getElem?_map, List.getElem?_eq_getElem hk', List.getD_eq_getElem?_getD, List.getElem?_eq_getElem hk']; rfl)
    rw [← ek] at g
    refine ⟨_, rfl, _, rfl, a, _, _, _, rfl, rfl, hS, g, ?_⟩
    unfold cellv at q
    rw [if_pos c'] at q
    exact q
  · have c' : ¬ k < (ns.length : Int) := fun z => c (decide_eq_true (by rw [hm]; exact z))
    unfold cellv at q
    rw [if_neg c'] at q
    have b1 : IntMulOk 3 k := IntMulOk.of_left (by decide)
    have b2 : IntMulOk (3 * k) k := IntMulOk.of_right (intBits_le_64 (by omega) (by omega))
    have b3 : IntMulOk 17 k := IntMulOk.of_left (by decide)
    exact ⟨_, rfl, _, _, rfl, rfl, b1, _, rfl, _, _, rfl, rfl, b2, _, rfl, _, _, rfl, rfl, b3, _, _, rfl, rfl, _, _, rfl, rfl, q⟩
theorem cell_bits {ns : List Int} (h : ∀ n, n ∈ ns → Builtin.Int.intBits n ≤ 2 ^ 20) {k : Int} (hk : 0 ≤ k ∧ k < 1000) : Builtin.Int.intBits (cellv ns k) ≤ 2 ^ 20 := by
  unfold cellv
  split
  · have h1 : ns.getD k.toNat 0 ∈ ns := by
      rw [List.getD_eq_getElem?_getD, List.getElem?_eq_getElem (by omega)]
      exact List.getElem_mem _
    exact h _ h1
  · have h1 : 0 ≤ k * k := Int.mul_nonneg hk.1 hk.1
    have h2 : k * k ≤ 1000 * 1000 := Int.mul_le_mul (by omega) (by omega) hk.1 (by omega)
    have h3 : Builtin.Int.intBits (3 * k * k + 17 * k + 4) ≤ 64 := intBits_le_64 (by rw [Int.mul_assoc]; omega) (by rw [Int.mul_assoc]; omega)
    omega
theorem cell_sh {ns : List Int} (h : ∀ n, n ∈ ns → Builtin.Int.intBits n ≤ 2 ^ 20) {k : Int} (hk : 0 ≤ k ∧ k < 1000) : Sh (cellv ns k) := Nat.le_trans (cell_bits h hk) (by decide)
def sp__law_prime (_ : PySem.W.Frag) : Sp := fun vs H Q _ => ∃ (c : Int), vs = [.int c] ∧ ∀ (p : Int) (H' : Hp), p ∈ Dr.primes → Same H H' → Q (.int p) H'
theorem body__law_prime : ∃ (s1 s2 s3 : Stmt) (e1 : List Expr) (p1 p2 p3 p4 p5 p6 p7 p8 p9 p10 p11 p12 p13 p14 p15 p16 p17 p18 p19 p20 p21 p22 p23 p24 p25 : Pos), defBody s__law_prime = [s1, s2, s3] ∧
    s1 = .Assign [.Name "some" p1] (.List e1 p2) p3 ∧ cInts e1 = some Dr.primes ∧
    s2 = .If (.Compare (.BinOp (.Name "cell" p4) .Mod (.Constant (.int 2) 0 p5) p6) [.Eq] [.Constant (.int 0) 0 p7] p8) [.Return (some (.Subscript (.Name "some" p9) (.BinOp (.BinOp (.Name "cell" p10) .FloorDiv (.Constant (.int 2) 0 p11) p12) .Mod (.Constant (.int 4) 0 p13) p14) p15)) p16] [] p17 ∧
    s3 = .Return (some (.Subscript (.Name "some" p18) (.BinOp (.BinOp (.Name "cell" p19) .FloorDiv (.Constant (.int 2) 0 p20) p21) .Mod (.Constant (.int 25) 0 p22) p23) p24)) p25 :=
  ⟨_, _, _, _, _, _, _, _, _, _, _, _, _, _, _, _, _, _, _, _, _, _, _, _, _, _, _, _, _, rfl, rfl, rfl, rfl, rfl⟩
theorem ok__law_prime (B : Bi mg K w) (F : Fun K "_law_prime" "_law_prime" s__law_prime f fd) : FnOk P w K mg base CX0 1 f fd ["cell"] (sp__law_prime K) := by
  refine F.ok S__law_prime (fun vs H Q E h => ?_) (fun cdv A outer s H vs Q E hr h => ?_)
  · obtain ⟨c, rfl, _⟩ := h
    rfl
  obtain ⟨c, rfl, q⟩ := h
  have S := S__law_prime
  obtain ⟨s1, s2, s3, e1, p1, p2, p3, p4, p5, p6, p7, p8, p9, p10, p11, p12, p13, p14, p15, p16, p17, p18, p19, p20, p21, p22, p23, p24, p25, hb, h1, c1, h2, h3⟩ := body__law_prime
  rw [hb]
  refine ⟨_, (pss_cons (ps_setInts (i := 1) h1 c1 S.nd rfl (Or.inl rfl) (Or.inr rfl))
    (pss_cons (ps_eq h2 (ps_if (pt_cmpR op_eq (pe_op op_mod (pv 0) pe_int) pe_int (nomark _)) (pss_one (ps_ret (pe_ix ix_list (pv 1) (pe_op op_mod (pe_op op_fdivW (pv 0) pe_int) pe_int) (fun _ _ => rfl)))) pss_nil))
    (pss_one (ps_eq h3 (ps_ret (pe_ix ix_list (pv 1) (pe_op op_mod (pe_op op_fdivW (pv 0) pe_int) pe_int) (fun _ _ => rfl))))))), ?_⟩
  refine ⟨(by show 25 ≤ sizeLine; decide), fun l hl => ?_⟩
  refine ⟨_, rfl, _, _, rfl, rfl, (show (0 : Int) < 2 by decide), rfl, _, rfl, ?_⟩
  refine ite2 (fun _ => ?_) (fun _ => ?_)
  · have m := mod_in (c / 2) (show (0 : Int) < 4 by decide)
    refine ⟨_, rfl, _, rfl, _, _, rfl, rfl, ⟨by decide, by decide⟩, _, _, rfl, rfl, (show (0 : Int) < 4 by decide), l, _, _, _, rfl, rfl, SqL.of upd_same, atI_ints (ns := Dr.primes) m.1 (by have := m.2; show _ < (25 : Int); omega), ?_⟩
    exact q _ _ (getD_in (ns := Dr.primes) m.1 (by have := m.2; show _ < (25 : Int); omega)) (same_new hl _)
  · have m := mod_in (c / 2) (show (0 : Int) < 25 by decide)
    refine ⟨_, rfl, _, rfl, _, _, rfl, rfl, ⟨by decide, by decide⟩, _, _, rfl, rfl, (show (0 : Int) < 25 by decide), l, _, _, _, rfl, rfl, SqL.of upd_same, atI_ints (ns := Dr.primes) m.1 m.2, ?_⟩
    exact q _ _ (getD_in (ns := Dr.primes) m.1 m.2) (same_new hl _)
def sp__law_power (_ : PySem.W.Frag) : Sp := fun vs H Q _ => ∃ (p e : Int), vs = [.int p, .int e] ∧ (2 ≤ p ∧ p < 1000) ∧ (0 ≤ e ∧ e < 100000) ∧ Q (.int (p ^ e.toNat)) H
theorem ok__law_power (B : Bi mg K w) (F : Fun K "_law_power" "_law_power" s__law_power f fd) : FnOk P w K mg base CX0 1 f fd ["p", "e"] (sp__law_power K) := by
  refine F.ok S__law_power (fun vs H Q E h => ?_) (fun cdv A outer s H vs Q E hr h => ?_)
  · obtain ⟨p, e, rfl, _⟩ := h
    rfl
  obtain ⟨p, e, rfl, hp, he, q⟩ := h
  have S := S__law_power
  refine ⟨_, ((pss_cons (ps_set (i := 2) S.nd rfl (Or.inl rfl) pe_int)
    (pss_cons (ps_for PassesOwn.never rfl (pi_range1 rfl B.b_range (pa_cons (pv 1) pa_nil)) (pg_name (i := 3) S.nd rfl (Or.inl rfl)) (pss_one (ps_set (i := 2) S.nd rfl (Or.inl rfl) (pe_op op_mulW (pv 2) (pv 0)))))
    (pss_one (ps_ret (pv 2)))))), ?_⟩
  refine ⟨_, rfl, e, rfl, by omega, by omega, ?_⟩
  refine for_range (n := e.toNat) (fun i σ H' => H' = H ∧ ∃ t, σ = [some (.int p), some (.int e), some (.int (p ^ i)), t]) ⟨rfl, none, by rw [Int.pow_zero]; rfl⟩ ?_ ?_
  · rintro i σ H' hi ⟨rfl, t, rfl⟩
    refine ⟨_, rfl, _, rfl, _, _, rfl, rfl, IntMulOk.of_right (intBits_le_64 (by omega) (by omega)), rfl, some (.int (0 + (i : Int))), ?_⟩
    rw [Int.pow_succ]
    rfl
  · rintro σ H' ⟨rfl, t, rfl⟩
    exact ⟨_, rfl, q⟩
theorem hits {p r0 : Int} : ∀ (l : List Int) (T : List Nat), T.Nodup → (∀ t, t ∈ T → (t : Int) < p ∧ ∃ x, x ∈ l ∧ (x - (r0 + t)) % p = 0) → T.length ≤ l.length
  | [], T, _, h => by
    cases T with
    | nil => exact Nat.le_refl _
    | cons t T =>
      obtain ⟨_, x, hx, _⟩ := h t (.head _)
      cases hx
  | x :: l, T, nd, h => by
    by_cases ex : ∃ t, t ∈ T ∧ (x - (r0 + t)) % p = 0
    · obtain ⟨t0, m0, e0⟩ := ex
      have := hits l (T.erase t0) (nd.erase t0) fun t ht => ⟨(h t (List.mem_of_mem_erase ht)).1, by
        obtain ⟨lt, y, hy, ey⟩ := h t (List.mem_of_mem_erase ht)
        have lt0 := (h t0 m0).1
        rcases List.mem_cons.mp hy with e | hy
        · subst e
          exfalso
          obtain ⟨a, ea⟩ := Int.dvd_of_emod_eq_zero e0
          obtain ⟨b, eb⟩ := Int.dvd_of_emod_eq_zero ey
          have e3 : (t : Int) - t0 = p * (a - b) := by rw [Int.mul_sub]; omega
          generalize a - b = d at e3
          have hd : d = 0 := by
            rcases (show d ≤ -1 ∨ d = 0 ∨ 1 ≤ d by omega) with q | q | q
            · have := Int.mul_le_mul_of_nonneg_left q (show 0 ≤ p by omega)
              omega
            · exact q
            · have := Int.mul_le_mul_of_nonneg_left q (show 0 ≤ p by omega)
              omega
          rw [hd, Int.mul_zero] at e3
          have : t = t0 := by omega
          exact ((List.Nodup.mem_erase_iff nd).mp ht).1 this
        · exact ⟨y, hy, ey⟩⟩
      rw [List.length_erase_of_mem m0] at this
      have l1 := List.length_pos_of_mem m0
      rw [List.length_cons]
      omega
    · have := hits l T nd fun t ht => ⟨(h t ht).1, by
        obtain ⟨_, y, hy, ey⟩ := h t ht
        rcases List.mem_cons.mp hy with e | hy
        · subst e
          exact absurd ⟨t, ht, ey⟩ ex
        · exact ⟨y, hy, ey⟩⟩
      rw [List.length_cons]
      omega
def sp__law_rests (K : PySem.W.Frag) : Sp := fun vs H Q _ => ∃ (p : Int) (a : Addr) (ns : List Int), vs = [.int p, .ref a] ∧ p ∈ Dr.primes ∧ SqL K H a (ns.map V.int) ∧ ns.length ≤ 63 ∧
  ∀ (c : Addr) (rs : List Int) (H' : Hp), (2 ≤ rs.length ∧ rs.length ≤ 6) → rs.Pairwise (fun x y => (x - y) % p ≠ 0) → (∀ x, x ∈ rs → Dr.Sm x 13) → H c = none → Same H H' → H' c = some (.lst (rs.map V.int)) → Q (.ref c) H'
theorem ok__law_rests (B : Bi mg K w) (d__law_cell : Def P w K mg base "_law_cell" 1 ["script", "k"] (sp__law_cell K)) (F : Fun K "_law_rests" "_law_rests" s__law_rests f fd) : FnOk P w K mg base CX0 2 f fd ["p", "script"] (sp__law_rests K) := by
  refine F.ok S__law_rests (fun vs H Q E h => ?_) (fun cdv A outer s H vs Q E hr h => ?_)
  · obtain ⟨p, a, ns, rfl, _⟩ := h
    rfl
  obtain ⟨p, a, ns, rfl, hpp, hS, hl, q⟩ := h
  have S := S__law_rests
  have p2 := Dr.primes_ge hpp
  refine ⟨_, ((pss_cons (ps_set (i := 2) S.nd rfl (Or.inl rfl) (pe_callB (call_min2 rfl) rfl B.b_min L2.bt_min (pa_cons (pv 0) (pa_cons (pe_op op_add pe_int (pe_op op_mod (pe_op op_fdivW (pe_def d__law_cell hr rfl (pa_cons (pv 1) (pa_cons pe_int pa_nil))) pe_int) pe_int)) pa_nil))))
    (pss_cons (ps_set (i := 3) S.nd rfl (Or.inl rfl) (pe_lst pa_nil))
    (pss_cons (ps_for PassesOwn.never rfl (pi_range1 rfl B.b_range (pa_cons (pv 2) pa_nil)) (pg_name (i := 4) S.nd rfl (Or.inl rfl)) (pss_cons (ps_set (i := 5) S.nd rfl (Or.inl rfl) (pe_def d__law_cell hr rfl (pa_cons (pv 1) (pa_cons (pe_op op_add pe_int (pv 4)) pa_nil))))
    (pss_cons (ps_set (i := 6) S.nd rfl (Or.inr rfl) (pe_op op_mod (pv 5) (pv 0)))
    (pss_cons (ps_while PassesOwn.never (pt_cmpR (op_neD hr.units) (pe_comp [0, 6] ["p", "root"] rfl rfl ⟨rfl, rfl, trivial⟩ ⟨rfl, rfl, rfl, rfl, rfl, rfl, rfl, rfl, trivial⟩ rfl rfl (by decide) (by decide) rfl rfl (by decide) (pi_list (pv 3)) (fun _ _ _ _ => (pts_one (pt_cmpR op_eq (pe_op op_mod (pe_op op_sub (pv 0) (pv 2)) (pv 1)) pe_int (nomark _)))) (fun _ _ _ _ => (pv 0))) (pe_lst pa_nil) (nomark _)) (pss_one (ps_set (i := 6) S.nd rfl (Or.inr rfl) (pe_op op_add (pv 6) pe_int))))
    (pss_one (ps_expr (pe_bm PySem.F.plainAttrs_list PySem.F.slot_list_append PySem.F.type_list_append mt_append (pv 3) (pa_cons (pe_op op_add (pv 6) (pe_op op_mulW (pe_op op_mulW (pv 0) (pe_op op_sub (pe_op op_mod (pe_op op_fdivW (pv 5) (pv 0)) pe_int) pe_int)) (pe_op op_mod (pe_op op_fdivW (pv 5) pe_int) pe_int))) pa_nil))))))))
    (pss_one (ps_ret (pv 3))))))), ?_⟩
  (try dsimp only); (first | refine hX _ _ ?_ | skip); (try dsimp only); (first | refine seqX (fun X hX => ?_) | skip); try walk_at "dr2"; (try simp only [sp__law_cell]); try walk_at "dr2"
  refine ⟨ns, hS, hl, ⟨by decide, by decide⟩, ?_⟩
  have m5 := mod_in (cellv ns 0 / 50) (show (0 : Int) < 5 by decide)
  generalize en : (if 2 + cellv ns 0 / 50 % 5 < p then 2 + cellv ns 0 / 50 % 5 else p) = n
  have hn : 2 ≤ n ∧ n ≤ 6 ∧ n ≤ p := by
    rw [← en]
    split <;> omega
  clear en m5
  (try dsimp only); (first | refine hX _ _ ?_ | skip); (try dsimp only); (first | refine seqX (fun X hX => ?_) | skip); try walk_at "dr2"; (try simp only [sp__law_cell]); try walk_at "dr2"
  refine ⟨by decide, ?_⟩
  intro l1 n_l1; generalize e_l1 : upd _ l1 _ = H1; obtain ⟨g1, k1⟩ := newH e_l1 n_l1; clear e_l1
  (try dsimp only); (first | refine hX _ _ ?_ | skip); (try dsimp only); (first | refine seqX (fun X hX => ?_) | skip); try walk_at "dr2"; (try simp only [sp__law_cell]); try walk_at "dr2"
  refine ⟨by omega, by omega, ?_⟩
  obtain ⟨Pv, hPv⟩ : ∃ Pv : Nat → St → Hp → Prop, ∀ i σ H2, Pv i σ H2 ↔ (Same H H2 ∧ ∃ (l : Addr) (rs : List Int) (t4 t5 t6 : Option V), H2 l = some (.lst (rs.map V.int)) ∧ H l = none ∧ rs.length = i ∧ rs.Pairwise (fun x y => (x - y) % p ≠ 0) ∧ (∀ x, x ∈ rs → Dr.Sm x 13) ∧ σ = [some (.int p), some (.ref a), some (.int n), some (.ref l), t4, t5, t6]) := ⟨_, fun _ _ _ => Iff.rfl⟩
  (first | refine hX _ _ ?_ | skip); refine forR Pv ((hPv _ _ _).mpr ⟨g1, l1, [], none, none, none, k1, n_l1, rfl, .nil, (fun x hx => by cases hx), rfl⟩) ?_ ?_
  · intro i σ H2 hi z
    refine byX fun X hX => ?_; obtain ⟨g2, l, rs, t4, t5, t6, kl, nl, rl, pw, bs, rfl⟩ := (hPv _ _ _).mp z; refine hX ?_; clear hX X
    (try dsimp only); (first | refine hX _ _ ?_ | skip); (try dsimp only); (first | refine seqX (fun X hX => ?_) | skip); try walk_at "dr2"; (try simp only [sp__law_cell]); try walk_at "dr2"
    refine ⟨ns, g2.seq hS, hl, by omega, by omega, ?_⟩
    generalize cellv ns (4 + (0 + (i : Int))) = cell
    (try dsimp only); (first | refine hX _ _ ?_ | skip); (try dsimp only); (first | refine seqX (fun X hX => ?_) | skip); try walk_at "dr2"; (try simp only [sp__law_cell]); try walk_at "dr2"
    refine ⟨by omega, ?_⟩
    have mr := mod_in cell (show 0 < p by omega)
    generalize cell % p = r0 at mr ⊢
    (try dsimp only); (first | refine hX _ _ ?_ | skip); (try dsimp only); (first | refine seqX (fun X hX => ?_) | skip); try walk_at "dr2"; (try simp only [sp__law_cell]); try walk_at "dr2"
    obtain ⟨W, hW⟩ : ∃ W : Nat → St → Hp → Prop, ∀ mm σ H3, W mm σ H3 ↔ (Same H2 H3 ∧ ∃ j : Nat, j ≤ i ∧ (∀ t : Nat, t < j → ∃ x, x ∈ rs ∧ (x - (r0 + t)) % p = 0) ∧ mm = i - j ∧ σ = [some (.int p), some (.ref a), some (.int n), some (.ref l), some (.int (0 + (i : Int))), some (.int cell), some (.int (r0 + j))]) := ⟨_, fun _ _ _ => Iff.rfl⟩
    (first | refine hX _ _ ?_ | skip); refine whB W i ((hW _ _ _).mpr ⟨Same.refl _, 0, Nat.zero_le _, fun t ht => absurd ht (Nat.not_lt_zero t), rfl, by rw [show r0 + ((0 : Nat) : Int) = r0 by omega]⟩) ?_
    intro mm σ H3 z
    obtain ⟨g3, j, hj, hh, rfl, rfl⟩ := (hW _ _ _).mp z
    have kl3 := g3 _ _ kl
    (first | refine hX _ _ ?_ | skip); (try dsimp only); try walk_at "dr1"; (try simp only [sp__law_cell]); try walk_at "dr1"
    refine ⟨⟨_, SqL.of kl3⟩, ?_⟩
    obtain ⟨Pc, hPc⟩ : ∃ Pc : Nat → List V → Hp → Prop, ∀ k ys H4, Pc k ys H4 ↔ (H4 = H3 ∧ ∃ hs : List Int, ys = hs.map V.int ∧ ∀ x, x ∈ hs ↔ x ∈ rs.take k ∧ (x - (r0 + j)) % p = 0) := ⟨_, fun _ _ _ => Iff.rfl⟩
    (first | refine hX _ _ ?_ | skip); refine compI rs Pc (Nat.le_trans (show rs.length ≤ 6 by omega) (by decide)) ((hPc _ _ _).mpr ⟨rfl, [], rfl, fun x => by simp⟩) (fun k ys H4 z => by obtain ⟨rfl, _⟩ := (hPc _ _ _).mp z; exact SqL.of kl3) (fun k x ys H4 hx z => ?_) (fun ys H4 z l5 n5 => ?_)
    · obtain ⟨rfl, hs, rfl, hm⟩ := (hPc _ _ _).mp z
      (first | refine hX _ _ ?_ | skip); (try dsimp only); try walk_at "dr1"; (try simp only [sp__law_cell]); try walk_at "dr1"
      refine ⟨by omega, ite2 (fun c => (hPc _ _ _).mpr ⟨rfl, hs ++ [x], by rw [List.map_append]; rfl, fun y => ?_⟩) (fun c => (hPc _ _ _).mpr ⟨rfl, hs, rfl, fun y => ?_⟩)⟩
      · rw [take_next hx, List.mem_append, List.mem_append, hm, List.mem_singleton]
        constructor
        · rintro (⟨u, v⟩ | rfl)
          · exact ⟨.inl u, v⟩
          · exact ⟨.inr rfl, c⟩
        · rintro ⟨u | u, v⟩
          · exact .inl ⟨u, v⟩
          · exact .inr u
      · rw [take_next hx, List.mem_append, hm, List.mem_singleton]
        constructor
        · rintro ⟨u, v⟩
          exact ⟨.inl u, v⟩
        · rintro ⟨u | u, v⟩
          · exact ⟨u, v⟩
          · subst u
            exact absurd v c
    obtain ⟨rfl, hs, rfl, hm⟩ := (hPc _ _ _).mp z
    rw [List.take_length] at hm
    refine ⟨by decide, fun l6 n6 => ?_⟩
    have g5 := newS n5 (o := HO.lst (hs.map V.int))
    have k5 : upd H4 l5 (HO.lst (hs.map V.int)) l5 = some (HO.lst (hs.map V.int)) := upd_same
    generalize upd H4 l5 (HO.lst (hs.map V.int)) = H5 at g5 k5 n6 ⊢
    have g6 := newS n6 (o := HO.lst ([] : List V))
    have k6 : upd H5 l6 (HO.lst []) l6 = some (HO.lst (([] : List Int).map V.int)) := upd_same
    generalize upd H5 l6 (HO.lst []) = H6 at g6 k6 ⊢
    have g36 := g3.trans (g5.trans g6)
    refine neL (ns := hs) (ms := []) (SqL.of (g6 _ _ k5)) (SqL.of k6) ⟨_, rfl, ?_⟩
    by_cases c : hs = []
    · rw [if_neg (by simp [c])]
      have free : ∀ x, x ∈ rs → (x - (r0 + j)) % p ≠ 0 := fun x hx e => by
        have := (hm x).mpr ⟨hx, e⟩
        rw [c] at this
        cases this
      (try dsimp only); (first | refine hX _ _ ?_ | skip); (try dsimp only); (first | refine seqX (fun X hX => ?_) | skip); try walk_at "dr2"; (try simp only [sp__law_cell]); try walk_at "dr2"
      have kl6 := g36 _ _ kl
      have m41 := mod_in (cell / p) (show (0 : Int) < 41 by decide)
      have m2 := mod_in (cell / 7) (show (0 : Int) < 2 by decide)
      generalize cell / p % 41 = u at m41 ⊢
      generalize cell / 7 % 2 = v at m2 ⊢
      have bp : Dr.Sm p 7 := sm_of 97 (by omega) (by decide)
      have bu : Dr.Sm (u - 20) 5 := sm_of 20 (by omega) (by decide)
      have bv : Dr.Sm v 1 := sm_of 1 (by omega) (by decide)
      have bw : Dr.Sm (p * (u - 20) * v) 12 := by
        rcases (show v = 0 ∨ v = 1 by omega) with e | e <;> rw [e]
        · rw [Int.mul_zero]
          exact Dr.Sm.zero 12
        · rw [Int.mul_one]
          exact (bp.mul bu).mono (by decide)
      refine ⟨⟨_, SqL.of kl6⟩, cdv_small ⟨by omega, by omega⟩, mulSm bp bu (by decide), ⟨by decide, by decide⟩, mulSm (bp.mul bu) bv (by decide), _, kl6, ?_, ?_⟩
      · rw [List.length_map]
        exact Nat.lt_of_le_of_lt (show rs.length ≤ 6 by omega) (by decide)
      have new : ∀ x, x ∈ rs → (x - (r0 + j + p * (u - 20) * v)) % p ≠ 0 := fun x hx z => free x hx (by
        rw [show x - (r0 + (j : Int)) = (x - (r0 + j + p * (u - 20) * v)) + p * ((u - 20) * v) by rw [← Int.mul_assoc]; omega, Int.add_mul_emod_self_left]
        exact z)
      have bn : Dr.Sm (r0 + j + p * (u - 20) * v) 13 := by
        unfold Dr.Sm at bw ⊢
        generalize p * (u - 20) * v = y at bw ⊢
        omega
      generalize r0 + (j : Int) + p * (u - 20) * v = y at new bn ⊢
      refine (hPv _ _ _).mpr ⟨(g2.trans g36).up nl _, l, rs ++ [y], _, _, _, by rw [upd_same, List.map_append]; rfl, nl, by rw [List.length_append, rl]; rfl, List.pairwise_append.mpr ⟨pw, List.pairwise_singleton .., fun x hx z hz => by rw [List.mem_singleton.mp hz]; exact new x hx⟩, fun x hx => ?_, rfl⟩
      rcases List.mem_append.mp hx with e | e
      · exact bs x e
      · rw [List.mem_singleton.mp e]
        exact bn
    · rw [if_pos (by simp [c])]
      have more : j + 1 ≤ i := by
        obtain ⟨x, hx⟩ := List.exists_mem_of_ne_nil hs c
        have hx := (hm x).mp hx
        have := hits (p := p) (r0 := r0) rs (List.range (j + 1)) List.nodup_range fun t ht => by
          rw [List.mem_range] at ht
          refine ⟨by omega, ?_⟩
          by_cases e : t = j
          · subst e
            exact ⟨x, hx.1, hx.2⟩
          · exact hh t (by omega)
        rw [List.length_range] at this
        omega
      refine ⟨W (i - (j + 1)), fun σ' H' z => ⟨_, by omega, z⟩, (hW _ _ _).mpr ⟨g36, j + 1, more, fun t ht => ?_, rfl, ?_⟩⟩
      · by_cases e : t = j
        · subst e
          obtain ⟨x, hx⟩ := List.exists_mem_of_ne_nil hs c
          exact ⟨x, (hm x).mp hx⟩
        · exact hh t (by omega)
      · rw [show r0 + (j : Int) + 1 = r0 + ((j + 1 : Nat) : Int) by omega]
  · intro σ H2 z
    obtain ⟨g2, l, rs, t4, t5, t6, kl, nl, rl, pw, bs, rfl⟩ := (hPv _ _ _).mp z
    (first | refine hX _ _ ?_ | skip); (try dsimp only); try walk_at "dr1"; (try simp only [sp__law_cell]); try walk_at "dr1"
    exact q l rs H2 (by omega) pw bs nl g2 kl
def Sk (kd : Addr) (H H' : Hp) : Prop := ∀ b o, b ≠ kd → H b = some o → H' b = some o
theorem Sk.refl (kd : Addr) (H : Hp) : Sk kd H H := fun _ _ _ h => h
theorem Sk.trans {kd : Addr} {H H1 H2 : Hp} (h : Sk kd H H1) (g : Sk kd H1 H2) : Sk kd H H2 := fun b o n e => g b o n (h b o n e)
theorem Sk.of {kd : Addr} {H H' : Hp} (g : Same H H') : Sk kd H H' := fun b o _ e => g b o e
theorem Sk.upd {kd : Addr} {H : Hp} {o : HO} : Sk kd H (L2.upd H kd o) := fun b o n e => by rw [upd_ne n]; exact e
theorem not_kd {H : Hp} {a kd : Addr} {xs : List V} {kvs : List (Key × V)} (h : H a = some (.lst xs)) (hk : H kd = some (.dK kvs)) : a ≠ kd := fun z => by
  rw [z, hk] at h
  cases h
theorem Sk.seq {K : PySem.W.Frag} {kd a : Addr} {H H' : Hp} {xs : List V} {kvs : List (Key × V)} (g : Sk kd H H') (hk : H kd = some (.dK kvs)) (h : SqL K H a xs) : SqL K H' a xs := by
  rcases h with (z | ⟨o, z⟩) | z
  · exact .inl (.inl (g _ _ (not_kd z hk) z))
  · refine .inl (.inr ⟨o, g _ _ (fun e => ?_) z⟩)
    rw [e, hk] at z
    cases z
  · exact .inr z
structure Fi (K : PySem.W.Frag) (H : Hp) (d dx kd la lo lt lf : Addr) (p : Int) (ns one other f : List Int) (kvs : List (Key × V)) : Prop where
  desk : DeskAt K H d dx kd p kvs
  sq : SqL K H la (ns.map V.int)
  o : H lo = some (.lst (one.map V.int))
  t : H lt = some (.lst (other.map V.int))
  ff : H lf = some (.lst (f.map V.int))
theorem Fi.sk {K : PySem.W.Frag} {H H' : Hp} {d dx kd la lo lt lf : Addr} {p : Int} {ns one other f : List Int} {kvs kvs' : List (Key × V)} (h : Fi K H d dx kd la lo lt lf p ns one other f kvs) (g : Sk kd H H') (hk' : H' kd = some (.dK kvs')) : Fi K H' d dx kd la lo lt lf p ns one other f kvs' := by
  have hk := h.desk.kept
  have nd : d ≠ kd := fun z => by
    have := h.desk.ins
    rw [z, hk] at this
    cases this
  exact ⟨⟨g _ _ nd h.desk.ins, hk'⟩, g.seq hk h.sq, g _ _ (not_kd h.o hk) h.o, g _ _ (not_kd h.t hk) h.t, g _ _ (not_kd h.ff hk) h.ff⟩
theorem Fi.same {K : PySem.W.Frag} {H H' : Hp} {d dx kd la lo lt lf : Addr} {p : Int} {ns one other f : List Int} {kvs : List (Key × V)} (h : Fi K H d dx kd la lo lt lf p ns one other f kvs) (g : Same H H') : Fi K H' d dx kd la lo lt lf p ns one other f kvs := h.sk (.of g) (g _ _ h.desk.kept)
def Pn (lf : Addr) (H : Hp) (kvs : List (Key × V)) (z : Str) (f : List Int) : Prop := ∃ a, a ≠ lf ∧ valV kvs (Sum.inr z) = some (.ref a) ∧ H a = some (.lst (f.map V.int))
theorem Pn.same {lf : Addr} {H H' : Hp} {kvs : List (Key × V)} {z : Str} {f : List Int} (h : Pn lf H kvs z f) (g : Same H H') : Pn lf H' kvs z f := by
  obtain ⟨a, n, h1, h2⟩ := h
  exact ⟨a, n, h1, g _ _ h2⟩
theorem Pn.old {lf : Addr} {H H' : Hp} {kd l : Addr} {kvs kvs0 : List (Key × V)} {z y : Str} {f : List Int} (h : Pn lf H kvs z f) (hk : H kd = some (.dK kvs0)) (g : Sk kd H H') (ne : z ≠ y) : Pn lf H' (putK kvs (Sum.inr y) (.ref l)) z f := by
  obtain ⟨a, n, h1, h2⟩ := h
  refine ⟨a, n, ?_, g _ _ (not_kd h2 hk) h2⟩
  rw [valV_put, if_neg (fun e => ne (Sum.inr.inj e))]
  exact h1
theorem Pn.new {lf : Addr} {H : Hp} {kd l : Addr} {kvs kvs0 : List (Key × V)} {z : Str} {f : List Int} (nl : l ≠ lf) (h : H l = some (.lst (f.map V.int))) (hk : H kd = some (.dK kvs0)) : Pn lf (upd H kd (.dK (putK kvs (Sum.inr z) (.ref l)))) (putK kvs (Sum.inr z) (.ref l)) z f :=
  ⟨l, nl, by rw [valV_put, if_pos rfl], by rw [upd_ne (not_kd h hk)]; exact h⟩
theorem Pn.set {lf : Addr} {H : Hp} {kvs : List (Key × V)} {z : Str} {f : List Int} {o : HO} (h : Pn lf H kvs z f) : Pn lf (upd H lf o) kvs z f := by
  obtain ⟨a, n, h1, h2⟩ := h
  exact ⟨a, n, h1, by rw [upd_ne n]; exact h2⟩
theorem DeskAt.set {K : PySem.W.Frag} {H : Hp} {d dx kd lf : Addr} {p : Int} {kvs : List (Key × V)} {xs : List V} {o : HO} (h : DeskAt K H d dx kd p kvs) (hf : H lf = some (.lst xs)) : DeskAt K (upd H lf o) d dx kd p kvs := by
  refine ⟨?_, ?_⟩
  · rw [upd_ne fun z => ?_]
    · exact h.ins
    · have := h.ins
      rw [z, hf] at this
      cases this
  · rw [upd_ne fun z => ?_]
    · exact h.kept
    · have := h.kept
      rw [z, hf] at this
      cases this
theorem DeskAt.put {K : PySem.W.Frag} {H : Hp} {d dx kd : Addr} {p : Int} {kvs kvs' : List (Key × V)} (h : DeskAt K H d dx kd p kvs) : DeskAt K (upd H kd (.dK kvs')) d dx kd p kvs' := by
  refine ⟨?_, upd_same⟩
  rw [upd_ne fun z => ?_]
  · exact h.ins
  · have := h.ins
    rw [z, h.kept] at this
    cases this
theorem putK_len (kvs : List (Key × V)) (k : Key) (v : V) : (putK kvs k v).length ≤ kvs.length + 1 := by
  unfold putK
  split
  · rw [List.length_map]; omega
  · rw [List.length_append]; exact Nat.le_refl _
theorem app_assoc (a b c : Str) : a ++ b ++ c = a ++ (b ++ c) := congrArg Str.mk Array.append_assoc
theorem row_poly (z s : Str) : Str.ofString "poly " ++ z ++ Str.ofString " " ++ s = Str.join (Str.ofString " ") [("poly" : Str), z, s] := by
  show _ = ("poly" : Str) ++ Str.ofString " " ++ (z ++ Str.ofString " " ++ s)
  rw [show Str.ofString "poly " = ("poly" : Str) ++ Str.ofString " " by decide +kernel]
  simp only [app_assoc]
theorem row_parts {t : Str} {a b c : Str} (s : Str) (h : t = ("parts" : Str) ++ Str.ofString " " ++ (a ++ Str.ofString " " ++ (b ++ Str.ofString " " ++ (c ++ Str.ofString " ")))) : t ++ s = Str.join (Str.ofString " ") [("parts" : Str), a, b, c, s] := by
  show _ = ("parts" : Str) ++ Str.ofString " " ++ (a ++ Str.ofString " " ++ (b ++ Str.ofString " " ++ (c ++ Str.ofString " " ++ s)))
  rw [h]
  simp only [app_assoc]
theorem app_len (a b : Str) : (a ++ b).length = a.length + b.length := Array.size_append
theorem tx_small : ∀ n : Fin 61, (Tx.tx ((n : Nat) : Int)).length ≤ 2 := by decide +kernel
theorem tx_len {N : Int} (h : 0 ≤ N ∧ N ≤ 60) : (Tx.tx N).length ≤ 2 := by
  have := tx_small ⟨N.toNat, by omega⟩
  rwa [show ((N.toNat : Nat) : Int) = N by omega] at this
theorem le_line {n : Nat} (h : n ≤ 4000) : n ≤ sizeLine := Nat.le_trans h (by decide)
theorem poly_sp : (Str.ofString "poly ").length = 5 := by decide +kernel
theorem one_sp : (Str.ofString " ").length = 1 := by decide +kernel
theorem nm_f : Nm "f" := ⟨by decide +kernel, by decide +kernel, fun c hc => by revert c; decide +kernel⟩
theorem nm_g : Nm "g" := ⟨by decide +kernel, by decide +kernel, fun c hc => by revert c; decide +kernel⟩
theorem nm_h : Nm "h" := ⟨by decide +kernel, by decide +kernel, fun c hc => by revert c; decide +kernel⟩
def nm3 (f g h : List Int) : List (Str × List Int) := [("f", f), ("g", g), ("h", h)]
theorem nm3_ne {f g h u v : List Int} {i j : Nat} {y z : Str} (hi : (nm3 f g h)[i]? = some (y, u)) (hj : (nm3 f g h)[j]? = some (z, v)) (ne : j < i) : z ≠ y := by
  have a1 : (Str.ofString "f") ≠ (Str.ofString "g") := by decide +kernel
  have a2 : (Str.ofString "f") ≠ (Str.ofString "h") := by decide +kernel
  have a3 : (Str.ofString "g") ≠ (Str.ofString "h") := by decide +kernel
  match i, j, hi, hj with
  | 0, _, _, _ => omega
  | 1, 0, hi, hj => cases hi; cases hj; exact a1
  | 2, 0, hi, hj => cases hi; cases hj; exact a2
  | 2, 1, hi, hj => cases hi; cases hj; exact a3
  | 1, j + 1, _, _ => omega
  | 2, j + 2, _, _ => omega
  | i + 3, _, hi, _ => cases hi
structure Set93 (p deep : Int) (f g h one other : List Int) : Prop where
  may : ∀ N : Int, 1 ≤ N → Dr.May p N f g h
  bez : Dr.Bez p g h
  due : ∀ N : Nat, 1 ≤ N → N ≤ deep.toNat → ∀ G J : List Int, Dr.Parts p N f g h G J → G = one.map (· % p ^ N) ∧ J = other.map (· % p ^ N)
theorem pow_split {p : Int} {N M : Nat} (h : N ≤ M) : p ^ M % p ^ N = 0 := by
  obtain ⟨k, rfl⟩ : ∃ k, M = N + k := ⟨M - N, by omega⟩
  rw [Int.pow_add]
  exact Int.mul_emod_right ..
theorem Set93.of {p deep : Int} (hp : p ∈ Dr.primes) (hd : 1 ≤ deep) {rs one other f f0 g h : List Int} {k : Nat} (pw : rs.Pairwise fun x y => (x - y) % p ≠ 0) (b1 : Dr.Blt (rs.take k) one) (b2 : Dr.Blt (rs.drop k) other) (l1 : 2 ≤ one.length) (l2 : 2 ≤ other.length) (hf0 : Dr.IsProd one other f0) (lf : f.length = f0.length)
    (tf : f.getLast? = some 1) (cf : Dr.Cf (p ^ deep.toNat) f f0) (og : Off p one g) (oh : Off p other h) : Set93 p deep f g h one other := by
  have un : ∀ x, x ∈ rs.take k → ∀ y, y ∈ rs.drop k → (x - y) % p ≠ 0 := by
    rw [← List.take_append_drop k rs] at pw
    exact (List.pairwise_append.mp pw).2.2
  have bz : Dr.Bez p g h := (b1.bez hp b2 un).cong og.cf oh.cf
  refine ⟨fun N hN => Dr.may_of hN l1 l2 hf0 lf tf (cf.down (Dr.pow_mod (by omega))) og.cf og.len og.top oh.cf oh.len oh.top, bz, fun N hN hN2 G J P => ?_⟩
  exact Dr.due_parts hp hN b1.top b2.top l1 hf0 (cf.down (pow_split hN2)) og.cf og.len og.top oh.cf oh.len bz P
theorem polyB_of {f : List Int} (h : ∀ y, y ∈ f → y.natAbs < 10 ^ 56) : Dr.PolyB f 200 := fun y hy => Nat.lt_of_lt_of_le (h y hy) (by decide +kernel)
theorem ask {K : PySem.W.Frag} {H : Hp} {kd : Addr} {p N : Int} {kvs : List (Key × V)} {Q : VK} {E : XK} {t x y z : Str} {f g h : List Int} (e : t = ("parts" : Str) ++ Str.ofString " " ++ (x ++ Str.ofString " " ++ (y ++ Str.ofString " " ++ (z ++ Str.ofString " ")))) (nx : Nm x) (ny : Nm y) (nz : Nm z) (hN : 0 ≤ N ∧ N ≤ 60)
    {lf : Addr} (pf : Pn lf H kvs x f) (pg : Pn lf H kvs y g) (ph : Pn lf H kvs z h) (hl : f.length ≤ 14 ∧ g.length ≤ 7 ∧ h.length ≤ 7) (bf : ∀ y, y ∈ f → y.natAbs < 10 ^ 56) (bg : ∀ y, y ∈ g → y.natAbs < 10 ^ 56) (bh : ∀ y, y ∈ h → y.natAbs < 10 ^ 56)
    (qE : ¬ (Dr.May p N f g h ∧ Dr.Bez p g h) → ∀ H', Same H H' → E (.ref (clK K "NoParts")) none H') (q : ∀ (G J : List Int) (H' : Hp), Dr.May p N f g h → Dr.Bez p g h → Dr.Parts p N.toNat f g h G J → Same H H' → Q (.str (Str.join (Str.ofString " ") [Tx.shown G, Tx.shown J])) H') : RowP K H kd p kvs Q E (t ++ Str.ofString (toString N)) := by
  obtain ⟨a, _, v1, s1⟩ := pf
  obtain ⟨b, _, v2, s2⟩ := pg
  obtain ⟨c, _, v3, s3⟩ := ph
  have r := row_parts (Tx.tx N) e
  unfold Tx.tx at r
  rw [r]
  exact .parts nx ny nz hN v1 v2 v3 (SqL.of s1) (SqL.of s2) (SqL.of s3) hl (polyB_of bf) (polyB_of bg) (polyB_of bh) (by decide) qE q
theorem two_is (a b : Str) : Str.join (Str.ofString " ") [a, b] = a ++ Str.ofString " " ++ b := rfl
theorem num_len {N : Int} (h : 0 ≤ N ∧ N ≤ 60) : (Str.ofString (toString N)).length ≤ 2 := tx_len h
theorem log_sixty {N : Int} (h : 0 ≤ N ∧ N ≤ 60) : N.natAbs.log2 < 1920 := by
  by_cases c : N.natAbs = 0
  · rw [c]; decide
  · exact (Nat.log2_lt c).mpr (Nat.lt_of_le_of_lt (show N.natAbs ≤ 60 by omega) (Nat.lt_of_lt_of_le (show 60 < 2 ^ 6 by decide) (Nat.pow_le_pow_right (by decide) (by decide))))
theorem fgh : Str.ofString "parts f g h " = ("parts" : Str) ++ Str.ofString " " ++ (("f" : Str) ++ Str.ofString " " ++ (("g" : Str) ++ Str.ofString " " ++ (("h" : Str) ++ Str.ofString " "))) := by decide +kernel
theorem fhg : Str.ofString "parts f h g " = ("parts" : Str) ++ Str.ofString " " ++ (("f" : Str) ++ Str.ofString " " ++ (("h" : Str) ++ Str.ofString " " ++ (("g" : Str) ++ Str.ofString " "))) := by decide +kernel
theorem fgg : Str.ofString "parts f g g " = ("parts" : Str) ++ Str.ofString " " ++ (("f" : Str) ++ Str.ofString " " ++ (("g" : Str) ++ Str.ofString " " ++ (("g" : Str) ++ Str.ofString " "))) := by decide +kernel
theorem fgh_len : (Str.ofString "parts f g h ").length = 12 := by decide +kernel
theorem fhg_len : (Str.ofString "parts f h g ").length = 12 := by decide +kernel
theorem fgg_len : (Str.ofString "parts f g g ").length = 12 := by decide +kernel
theorem neLB {K : PySem.W.Frag} {H : Hp} {a b : Addr} {Q : VK} (bs : List Bool) (h : SqL K H a (bs.map V.bl)) (h' : SqL K H b (bs.map V.bl)) (q : Q (.bl false) H) : rEqD K true (.ref a) (.ref b) H Q := by
  have sh : SeqAt.shaped (.list (bs.map PyData.bool)) = true := by
    unfold SeqAt.shaped
    simp [PyData.canLay0, PyData.depth, canLay_bls, depth_bls]
  refine ⟨_, _, .lst h (DatVs.bls bs), .lst h' (DatVs.bls bs), sh, sh, ?_⟩
  rw [if_pos rfl]
  have e : PyData.eqv (.list (bs.map PyData.bool)) (.list (bs.map PyData.bool)) = true := by
    simp only [PyData.eqv]
    exact eqvAll_bls bs
  rw [e]
  exact q
theorem Set93.alike {p : Int} (hp : p ∈ Dr.primes) {rs one g : List Int} (b1 : Dr.Blt rs one) (l1 : 1 ≤ rs.length) (og : Off p one g) : ¬ Dr.Bez p g g := by
  have hw : rs[0]'(by omega) ∈ rs := List.getElem_mem _
  generalize rs[0]'(by omega) = w at hw
  have r := b1.root hw
  obtain ⟨k, _, e⟩ := og.cf.cg
  have h : Dr.pev g w % p = 0 := by
    have := e w
    rw [r, Int.sub_zero] at this
    rw [this]
    exact Int.mul_emod_right ..
  exact Dr.not_bez_at hp h h
theorem row_pf (s : Str) : Str.ofString "poly f " ++ s = Str.join (Str.ofString " ") [("poly" : Str), ("f" : Str), s] := by
  rw [← row_poly, show Str.ofString "poly f " = Str.ofString "poly " ++ ("f" : Str) ++ Str.ofString " " by decide +kernel]
theorem pf_len : (Str.ofString "poly f ").length = 7 := by decide +kernel
theorem row_zero : Str.ofString "parts f g h 0" = Str.ofString "parts f g h " ++ Str.ofString (toString (0 : Int)) := by decide +kernel
theorem ok_law (B : Bi mg K w) (d___init__ : MkD P w K mg base (clK K "Desk") 2 ["self", "p"] (sp___init__ K)) (d_say : Met P w K mg base (CXE P w) (clK K "Desk") "say" 7 ["self", "row"] (sp_say K)) (d__law_cell : Def P w K mg base "_law_cell" 1 ["script", "k"] (sp__law_cell K)) (d__law_prime : Def P w K mg base "_law_prime" 1 ["cell"] (sp__law_prime K)) (d__law_times : Def P w K mg base "_law_times" 1 ["f", "g"] (sp__law_times K)) (d__law_power : Def P w K mg base "_law_power" 1 ["p", "e"] (sp__law_power K)) (d__law_rests : Def P w K mg base "_law_rests" 2 ["p", "script"] (sp__law_rests K)) (d__law_built : Def P w K mg base "_law_built" 2 ["some"] (sp__law_built K)) (d__law_put_off : Def P w K mg base "_law_put_off" 1 ["f", "cell", "whole"] (sp__law_put_off K)) (d__law_shown : Def P w K mg base "_law_shown" 1 ["f"] (sp__law_shown K)) (d__law_told : Def P w K mg base "_law_told" 8 ["desk", "row"] (sp__law_told K)) (F : Fun K "law" "law" s_law f fd) : FnOk P w K mg base CX0 9 f fd ["script"] (spLaw K) := by
  refine F.ok S_law (fun vs H Q E h => ?_) (fun cdv A outer s H vs Q E hr h => ?_)
  · obtain ⟨a, ns, rfl, _⟩ := h
    rfl
  obtain ⟨la, ns, rfl, hS, hl, hbits, q⟩ := h
  have S := S_law
  refine ⟨_, ((pss_cons (ps_set (i := 1) S.nd rfl (Or.inl rfl) (pe_def d__law_prime hr rfl (pa_cons (pe_def d__law_cell hr rfl (pa_cons (pv 0) (pa_cons pe_int pa_nil))) pa_nil)))
    (pss_cons (ps_set (i := 2) S.nd rfl (Or.inl rfl) (pe_def d__law_rests hr rfl (pa_cons (pv 1) (pa_cons (pv 0) pa_nil))))
    (pss_cons (ps_set (i := 3) S.nd rfl (Or.inl rfl) (pe_op op_add pe_int (pe_op op_mod (pe_def d__law_cell hr rfl (pa_cons (pv 0) (pa_cons pe_int pa_nil))) (pe_op op_sub (pe_callB call_len_seq rfl B.b_len PySem.boot_len (pa_cons (pv 2) pa_nil)) pe_int))))
    (pss_cons (ps_set (i := 4) S.nd rfl (Or.inl rfl) (pe_op op_add pe_int (pe_op op_mod (pe_op op_fdivW (pe_def d__law_cell hr rfl (pa_cons (pv 0) (pa_cons pe_int pa_nil))) pe_int) pe_int)))
    (pss_cons (ps_join (ps_if (pt_cmpR op_eq (pe_op op_mod (pe_op op_fdivW (pe_def d__law_cell hr rfl (pa_cons (pv 0) (pa_cons pe_int pa_nil))) pe_int) pe_int) pe_int (nomark _)) (pss_one (ps_set (i := 4) S.nd rfl (Or.inl rfl) (pe_op op_add pe_int (pe_op op_mod (pe_op op_fdivW (pe_def d__law_cell hr rfl (pa_cons (pv 0) (pa_cons pe_int pa_nil))) pe_int) pe_int)))) pss_nil))
    (pss_cons (ps_set (i := 5) S.nd rfl (Or.inl rfl) (pe_def d__law_built hr rfl (pa_cons (pe_slice sl_list (pv 2) po_none (po_some (pv 3))) pa_nil)))
    (pss_cons (ps_set (i := 6) S.nd rfl (Or.inl rfl) (pe_def d__law_built hr rfl (pa_cons (pe_slice sl_list (pv 2) (po_some (pv 3)) po_none) pa_nil)))
    (pss_cons (ps_set (i := 7) S.nd rfl (Or.inl rfl) (pe_def d__law_power hr rfl (pa_cons (pv 1) (pa_cons (pv 4) pa_nil))))
    (pss_cons (ps_set (i := 8) S.nd rfl (Or.inl rfl) (pe_def d__law_times hr rfl (pa_cons (pv 5) (pa_cons (pv 6) pa_nil))))
    (pss_cons (ps_join (ps_if (pt_cmpR op_lt (pv 7) (pe_op op_pow pe_int pe_int) (nomark _)) (pss_one (ps_set (i := 8) S.nd rfl (Or.inl rfl) (pe_def d__law_put_off hr rfl (pa_cons (pv 8) (pa_cons (pe_def d__law_cell hr rfl (pa_cons (pv 0) (pa_cons pe_int pa_nil))) (pa_cons (pv 7) pa_nil)))))) pss_nil))
    (pss_cons (ps_set (i := 9) S.nd rfl (Or.inl rfl) (pe_def d__law_put_off hr rfl (pa_cons (pv 5) (pa_cons (pe_def d__law_cell hr rfl (pa_cons (pv 0) (pa_cons pe_int pa_nil))) (pa_cons (pv 1) pa_nil)))))
    (pss_cons (ps_set (i := 10) S.nd rfl (Or.inl rfl) (pe_def d__law_put_off hr rfl (pa_cons (pv 6) (pa_cons (pe_op op_fdivW (pe_def d__law_cell hr rfl (pa_cons (pv 0) (pa_cons pe_int pa_nil))) pe_int) (pa_cons (pv 1) pa_nil)))))
    (pss_cons (ps_set (i := 11) S.nd rfl (Or.inl rfl) (pe_mk d___init__ hr rfl B.c_Desk (pa_cons (pv 1) pa_nil)))
    (pss_cons (ps_for PassesOwn.never rfl (pi_list (pe_lst (pa_cons (pe_tup (pa_cons pe_str (pa_cons (pv 8) pa_nil))) (pa_cons (pe_tup (pa_cons pe_str (pa_cons (pv 9) pa_nil))) (pa_cons (pe_tup (pa_cons pe_str (pa_cons (pv 10) pa_nil))) pa_nil))))) (pg_tup rfl (pgs_cons (pg_name (i := 12) S.nd rfl (Or.inl rfl)) (pgs_cons (pg_name (i := 13) S.nd rfl (Or.inl rfl)) pgs_nil))) (pss_one (ps_if (pt_cmpR op_ne (pe_met pass00 B.cl_Desk d_say hr (pv 11) (pa_cons (pe_op op_add_str (pe_op op_add_str (pe_op op_add_str pe_str (pv 12)) pe_str) (pe_def d__law_shown hr rfl (pa_cons (pv 13) pa_nil))) pa_nil)) pe_str (nomark _)) (pss_one (ps_ret pe_bl)) pss_nil)))
    (pss_cons (ps_for PassesOwn.never rfl (pi_list (pe_lst (pa_cons (pv 4) (pa_cons (pe_op op_add pe_int (pe_op op_mod (pe_op op_fdivW (pe_def d__law_cell hr rfl (pa_cons (pv 0) (pa_cons pe_int pa_nil))) pe_int) (pv 4))) pa_nil)))) (pg_name (i := 14) S.nd rfl (Or.inl rfl)) (pss_cons (ps_set (i := 15) S.nd rfl (Or.inr rfl) (pe_def d__law_power hr rfl (pa_cons (pv 1) (pa_cons (pv 14) pa_nil))))
    (pss_cons (ps_comp [15] ["power"] rfl S.nd (k := 16) rfl rfl rfl rfl ⟨rfl, trivial⟩ ⟨rfl, rfl, rfl, rfl, trivial⟩ rfl rfl (by decide) (by decide) rfl rfl (by decide) (pi_list (pe_lst (pa_cons (pv 5) (pa_cons (pv 6) pa_nil)))) (fun _ _ _ _ => pts_nil) (fun _ _ _ _ => (pe_def d__law_shown hr rfl (pa_cons (pe_comp [1] ["power"] rfl rfl ⟨rfl, trivial⟩ ⟨rfl, rfl, rfl, rfl, trivial⟩ rfl rfl (by decide) (by decide) rfl rfl (by decide) (pi_listK (K := K) rfl (pi_list (pv 0))) (fun _ _ _ _ => pts_nil) (fun _ _ _ _ => (pe_op op_mod (pv 0) (pv 1)))) pa_nil))))
    (pss_cons (ps_if (pt_cmpR op_ne (pe_def d__law_told hr rfl (pa_cons (pv 11) (pa_cons (pe_op op_add_str pe_str (pe_callTy call_str_int rfl B.b_str L2.bt_str (pa_cons (pv 14) pa_nil))) pa_nil))) (pe_op op_add_str (pe_op op_add_str (pe_ix ix_list (pv 16) pe_int (fun _ _ => rfl)) pe_str) (pe_ix ix_list (pv 16) pe_int (fun _ _ => rfl))) (nomark _)) (pss_one (ps_ret pe_bl)) pss_nil)
    (pss_one (ps_if (pt_cmpR op_ne (pe_def d__law_told hr rfl (pa_cons (pv 11) (pa_cons (pe_op op_add_str pe_str (pe_callTy call_str_int rfl B.b_str L2.bt_str (pa_cons (pv 14) pa_nil))) pa_nil))) (pe_op op_add_str (pe_op op_add_str (pe_ix ix_list (pv 16) pe_int (fun _ _ => rfl)) pe_str) (pe_ix ix_list (pv 16) pe_int (fun _ _ => rfl))) (nomark _)) (pss_one (ps_ret pe_bl)) pss_nil))))))
    (pss_cons (ps_set (i := 17) S.nd rfl (Or.inl rfl) (pe_lst (pa_cons pe_bl (pa_cons pe_bl (pa_cons pe_bl (pa_cons pe_bl (pa_cons pe_bl (pa_cons pe_bl pa_nil))))))))
    (pss_cons (ps_if (pt_cmpR (op_neD hr.units) (pe_def d__law_told hr rfl (pa_cons (pv 11) (pa_cons (pe_op op_add_str pe_str (pe_callTy call_str_int rfl B.b_str L2.bt_str (pa_cons (pv 4) pa_nil))) pa_nil))) (pv 17) (nomark _)) (pss_one (ps_ret pe_bl)) pss_nil)
    (pss_cons (ps_augS (pv 8) (pe_op op_mod (pe_def d__law_cell hr rfl (pa_cons (pv 0) (pa_cons pe_int pa_nil))) (pe_op op_sub (pe_callB call_len_seq rfl B.b_len PySem.boot_len (pa_cons (pv 8) pa_nil)) pe_int)) get_list pe_int ip_add set_list)
    (pss_cons (ps_if (PW.pt (pw_or (pt_cmpR op_ne (pe_met pass00 B.cl_Desk d_say hr (pv 11) (pa_cons (pe_op op_add_str pe_str (pe_def d__law_shown hr rfl (pa_cons (pv 8) pa_nil))) pa_nil)) pe_str (nomark _)) (pw_or1 (pt_cmpR (op_neD hr.units) (pe_def d__law_told hr rfl (pa_cons (pv 11) (pa_cons (pe_op op_add_str pe_str (pe_callTy call_str_int rfl B.b_str L2.bt_str (pa_cons (pv 4) pa_nil))) pa_nil))) (pv 17) (nomark _))))) (pss_one (ps_ret pe_bl)) pss_nil)
    (pss_one (ps_ret (pe_cmpR (op_eqD hr.units) (pe_def d__law_told hr rfl (pa_cons (pv 11) (pa_cons pe_str pa_nil))) (pv 17) (nomark _)))))))))))))))))))))))), ?_⟩
  (try dsimp only); (first | refine hX _ _ ?_ | skip); (try dsimp only); (first | refine seqX (fun X hX => ?_) | skip); try walk_at "dr2"; (try simp only [sp___init__, sp_say, sp__law_cell, sp__law_prime, sp__law_times, sp__law_power, sp__law_rests, sp__law_built, sp__law_put_off, sp__law_shown, sp__law_told]); try walk_at "dr2"
  refine ⟨ns, hS, hl, fun p H1 hpp g1 => ?_⟩
  have p2 := Dr.primes_ge hpp
  (try dsimp only); (first | refine hX _ _ ?_ | skip); (try dsimp only); (first | refine seqX (fun X hX => ?_) | skip); try walk_at "dr2"; (try simp only [sp___init__, sp_say, sp__law_cell, sp__law_prime, sp__law_times, sp__law_power, sp__law_rests, sp__law_built, sp__law_put_off, sp__law_shown, sp__law_told]); try walk_at "dr2"
  refine ⟨hpp, ns, g1.seq hS, hl, fun lS rs H2 hrs pw bs nS g2 kS => ?_⟩
  have G2 := g1.trans g2
  (try dsimp only); (first | refine hX _ _ ?_ | skip); (try dsimp only); (first | refine seqX (fun X hX => ?_) | skip); try walk_at "dr2"; (try simp only [sp___init__, sp_say, sp__law_cell, sp__law_prime, sp__law_times, sp__law_power, sp__law_rests, sp__law_built, sp__law_put_off, sp__law_shown, sp__law_told]); try walk_at "dr2"
  refine ⟨ns, G2.seq hS, hl, _, .inl (SqL.of kS), by rw [List.length_map]; omega, ?_⟩
  rw [List.length_map]
  have mat := mod_in (cellv ns 1) (show 0 < (rs.length : Int) - 1 by omega)
  generalize eat : 1 + cellv ns 1 % ((rs.length : Int) - 1) = k0
  have hk0 : 1 ≤ k0 ∧ k0 < (rs.length : Int) := by omega
  clear eat mat
  have md := mod_in (cellv ns 1 / 6) (show (0 : Int) < 12 by decide)
  have md2 := mod_in (cellv ns 1 / 288) (show (0 : Int) < 60 by decide)
  (try dsimp only); (first | refine hX _ _ ?_ | skip); (try dsimp only); (first | refine seqX (fun X hX => ?_) | skip); try walk_at "dr2"; (try simp only [sp___init__, sp_say, sp__law_cell, sp__law_prime, sp__law_times, sp__law_power, sp__law_rests, sp__law_built, sp__law_put_off, sp__law_shown, sp__law_told]); try walk_at "dr2"
  refine ⟨ns, G2.seq hS, hl, ⟨by decide, by decide⟩, ?_⟩
  (first | refine hX _ _ ?_ | skip); refine seqI ?_
  obtain ⟨R, hR⟩ : ∃ R : St → Hp → Prop, ∀ σ' H3, R σ' H3 ↔ (H3 = H2 ∧ ∃ deep : Int, 1 ≤ deep ∧ deep ≤ 60 ∧ σ' = [some (.ref la), some (.int p), some (.ref lS), some (.int k0), some (.int deep), none, none, none, none, none, none, none, none, none, none, none, none, none]) := ⟨_, fun _ _ => Iff.rfl⟩
  (first | refine hX _ _ ?_ | skip); refine joinB R ?_ ?_
  · (first | refine hX _ _ ?_ | skip); (try dsimp only); try walk_at "dr1"; (try simp only [sp___init__, sp_say, sp__law_cell, sp__law_prime, sp__law_times, sp__law_power, sp__law_rests, sp__law_built, sp__law_put_off, sp__law_shown, sp__law_told]); try walk_at "dr1"
    refine ⟨ns, G2.seq hS, hl, ⟨by decide, by decide⟩, ite2 (fun c => ⟨ns, G2.seq hS, hl, ⟨by decide, by decide⟩, (hR _ _).mpr ⟨rfl, _, by omega, by omega, rfl⟩⟩) (fun c => (hR _ _).mpr ⟨rfl, _, by omega, by omega, rfl⟩)⟩
  intro σ' H3 z
  refine byX fun X hX => ?_; obtain ⟨rfl, deep, hd1, hd2, rfl⟩ := (hR _ _).mp z; refine hX ?_; clear hX X
  clear hR z md md2
  (try dsimp only); (first | refine hX _ _ ?_ | skip); (try dsimp only); (first | refine seqX (fun X hX => ?_) | skip); try walk_at "dr2"; (try simp only [sp___init__, sp_say, sp__law_cell, sp__law_prime, sp__law_times, sp__law_power, sp__law_rests, sp__law_built, sp__law_put_off, sp__law_shown, sp__law_told]); try walk_at "dr2"
  refine ⟨_, SqL.of kS, ?_⟩
  intro l4 n_l4; generalize e_l4 : upd _ l4 _ = H4; obtain ⟨g4, k4⟩ := newH e_l4 n_l4; clear e_l4
  have k4 : H4 l4 = some (.lst ((rs.take k0.toNat).map V.int)) := by rw [k4, cut_to V.int rs (by omega)]
  refine ⟨rs.take k0.toNat, SqL.of k4, by rw [List.length_take]; omega, fun x hx => bs x (List.mem_of_mem_take hx), fun lo one H5 b1 pb1 no g5 ko => ?_⟩
  have kS5 := g5 _ _ (g4 _ _ kS)
  (try dsimp only); (first | refine hX _ _ ?_ | skip); (try dsimp only); (first | refine seqX (fun X hX => ?_) | skip); try walk_at "dr2"; (try simp only [sp___init__, sp_say, sp__law_cell, sp__law_prime, sp__law_times, sp__law_power, sp__law_rests, sp__law_built, sp__law_put_off, sp__law_shown, sp__law_told]); try walk_at "dr2"
  refine ⟨_, SqL.of kS5, ?_⟩
  intro l6 n_l6; generalize e_l6 : upd _ l6 _ = H6; obtain ⟨g6, k6⟩ := newH e_l6 n_l6; clear e_l6
  have k6 : H6 l6 = some (.lst ((rs.drop k0.toNat).map V.int)) := by rw [k6, cut_from V.int rs (by omega)]
  refine ⟨rs.drop k0.toNat, SqL.of k6, by rw [List.length_drop]; omega, fun x hx => bs x (List.mem_of_mem_drop hx), fun lt other H7 b2 pb2 nt g7 kt => ?_⟩
  have ko7 := g7 _ _ (g6 _ _ ko)
  have G7 := G2.trans (g4.trans (g5.trans (g6.trans g7)))
  have l1 := b1.len
  have l2 := b2.len
  rw [List.length_take] at l1 pb1
  rw [List.length_drop] at l2 pb2
  (try dsimp only); (first | refine hX _ _ ?_ | skip); (try dsimp only); (first | refine seqX (fun X hX => ?_) | skip); try walk_at "dr2"; (try simp only [sp___init__, sp_say, sp__law_cell, sp__law_prime, sp__law_times, sp__law_power, sp__law_rests, sp__law_built, sp__law_put_off, sp__law_shown, sp__law_told]); try walk_at "dr2"
  refine ⟨by omega, by omega, by omega, by omega, ?_⟩
  (try dsimp only); (first | refine hX _ _ ?_ | skip); (try dsimp only); (first | refine seqX (fun X hX => ?_) | skip); try walk_at "dr2"; (try simp only [sp___init__, sp_say, sp__law_cell, sp__law_prime, sp__law_times, sp__law_power, sp__law_rests, sp__law_built, sp__law_put_off, sp__law_shown, sp__law_told]); try walk_at "dr2"
  refine ⟨one, SqL.of ko7, other, SqL.of kt, by omega, by omega, by omega, by omega, _, pb1, _, pb2, by omega, by omega, fun lf0 f0 H8 hf0 bf0 nf0 g8 kf0 => ?_⟩
  have ln0 := hf0.len
  have top0 : f0.getLast? = some 1 := Dr.top_of hf0 b1.top b2.top (by omega) (by omega)
  have bf0 : Dr.PolyB f0 166 := fun x hx => (bf0 x hx).mono (by omega)
  obtain ⟨wh, ewh⟩ : ∃ wh, wh = p ^ deep.toNat := ⟨_, rfl⟩
  have bwh : Dr.Sm wh 700 := by
    rw [ewh]
    exact Nat.lt_of_lt_of_le (pow_bits (p := p) (by omega) _) (Nat.pow_le_pow_right (by decide) (by omega))
  rw [← ewh]
  (first | refine hX _ _ ?_ | skip); refine seqI ?_
  obtain ⟨R, hR⟩ : ∃ R : St → Hp → Prop, ∀ σ' H9, R σ' H9 ↔ (Same H8 H9 ∧ ∃ (lf : Addr) (f : List Int), H9 lf = some (.lst (f.map V.int)) ∧ H lf = none ∧ f.length = f0.length ∧ f.getLast? = some 1 ∧ Dr.Cf wh f f0 ∧ (∀ x, x ∈ f → x.natAbs < 10 ^ 55) ∧ σ' = [some (.ref la), some (.int p), some (.ref lS), some (.int k0), some (.int deep), some (.ref lo), some (.ref lt), some (.int wh), some (.ref lf), none, none, none, none, none, none, none, none, none]) := ⟨_, fun _ _ => Iff.rfl⟩
  (first | refine hX _ _ ?_ | skip); refine joinB R ?_ ?_
  · (first | refine hX _ _ ?_ | skip); (try dsimp only); try walk_at "dr1"; (try simp only [sp___init__, sp_say, sp__law_cell, sp__law_prime, sp__law_times, sp__law_power, sp__law_rests, sp__law_built, sp__law_put_off, sp__law_shown, sp__law_told]); try walk_at "dr1"
    refine ⟨⟨by decide, by decide, by decide⟩, ite2 (fun c => ⟨ns, (G7.trans g8).seq hS, hl, f0, SqL.of kf0, by omega, by omega, top0, bwh, (fun x hx => (bf0 x hx).mono (by decide)), fun lf f H9 of nf g9 kf => (hR _ _).mpr ⟨g9, lf, f, kf, none_of (G7.trans g8) nf, of.len, of.top, of.cf, fun x hx => ?_, rfl⟩⟩) (fun c => (hR _ _).mpr ⟨Same.refl _, lf0, f0, kf0, none_of G7 nf0, rfl, top0, (Dr.Cf.refl _ _), fun x hx => ?_, rfl⟩)⟩
    · obtain ⟨y, hy, le⟩ := of.le x hx
      have h1 : y.natAbs < 2 ^ 166 := bf0 y hy
      have h2 : (2 : Nat) ^ 166 ≤ 10 ^ 50 := by decide +kernel
      have h3 : 4 * (10 : Nat) ^ 50 ≤ 10 ^ 55 := by decide +kernel
      have h4 : (10 : Int) ^ Int.toNat 50 = ((10 ^ 50 : Nat) : Int) := by decide +kernel
      have h5 : 0 ≤ wh := by rw [ewh]; exact Int.le_of_lt (Dr.pow_pos (by omega) _)
      rw [h4] at c
      generalize (10 : Nat) ^ 55 = M1 at h3 ⊢
      generalize (10 : Nat) ^ 50 = M2 at h2 h3 c
      generalize (2 : Nat) ^ 166 = M3 at h1 h2
      omega
    · have h1 : x.natAbs < 2 ^ 166 := bf0 x hx
      exact Nat.lt_of_lt_of_le h1 (by decide +kernel)
  intro σ' H9 z
  refine byX fun X hX => ?_; obtain ⟨g9, lf, f, kf, nf, lenf, topf, cf, bf, rfl⟩ := (hR _ _).mp z; refine hX ?_; clear hX X
  clear hR z
  have G9 := G7.trans (g8.trans g9)
  have ko9 := g9 _ _ (g8 _ _ ko7)
  have kt9 := g9 _ _ (g8 _ _ kt)
  have bpp : Dr.Sm p 700 := sm_of 97 (by omega) (by decide)
  (try dsimp only); (first | refine hX _ _ ?_ | skip); (try dsimp only); (first | refine seqX (fun X hX => ?_) | skip); try walk_at "dr2"; (try simp only [sp___init__, sp_say, sp__law_cell, sp__law_prime, sp__law_times, sp__law_power, sp__law_rests, sp__law_built, sp__law_put_off, sp__law_shown, sp__law_told]); try walk_at "dr2"
  refine ⟨ns, G9.seq hS, hl, one, SqL.of ko9, by omega, by omega, b1.top, bpp, (fun x hx => (pb1 x hx).mono (by omega)), fun lg g H10 og ng g10 kg => ?_⟩
  (try dsimp only); (first | refine hX _ _ ?_ | skip); (try dsimp only); (first | refine seqX (fun X hX => ?_) | skip); try walk_at "dr2"; (try simp only [sp___init__, sp_say, sp__law_cell, sp__law_prime, sp__law_times, sp__law_power, sp__law_rests, sp__law_built, sp__law_put_off, sp__law_shown, sp__law_told]); try walk_at "dr2"
  refine ⟨ns, (G9.trans g10).seq hS, hl, cdv_small ⟨by decide, by decide⟩, other, SqL.of (g10 _ _ kt9), by omega, by omega, b2.top, bpp, (fun x hx => (pb2 x hx).mono (by omega)), fun lh h H11 oh nh g11 kh => ?_⟩
  (try dsimp only); (first | refine hX _ _ ?_ | skip); (try dsimp only); (first | refine seqX (fun X hX => ?_) | skip); try walk_at "dr2"; (try simp only [sp___init__, sp_say, sp__law_cell, sp__law_prime, sp__law_times, sp__law_power, sp__law_rests, sp__law_built, sp__law_put_off, sp__law_shown, sp__law_told]); try walk_at "dr2"
  intro d dx nd ndx ned
  refine ⟨dx, upd_same, hpp, fun kd H12 nek nk kI kD old => ?_⟩
  rw [upd_ne nek] at nk
  have nkx : kd ≠ dx := fun z => by rw [z, upd_same] at nk; cases nk
  rw [upd_ne nkx] at nk
  have g12 : Same H11 H12 := fun b o hb => by
    have h1 : b ≠ d := fun z => by rw [z, nd] at hb; cases hb
    have h2 : b ≠ dx := fun z => by rw [z, ndx] at hb; cases hb
    have h3 : b ≠ kd := fun z => by rw [z, nk] at hb; cases hb
    rw [old b h1 h3, upd_ne h1, upd_ne h2]
    exact hb
  have fi : Fi K H12 d dx kd la lo lt lf p ns one other f [] := ⟨⟨kI, kD⟩, (G9.trans (g10.trans (g11.trans g12))).seq hS, g12 _ _ (g11 _ _ (g10 _ _ ko9)), g12 _ _ (g11 _ _ (g10 _ _ kt9)), g12 _ _ (g11 _ _ (g10 _ _ kf))⟩
  have kg := g12 _ _ (g11 _ _ kg)
  have kh := g12 _ _ kh
  clear old nd ndx ned nek nk nkx kI kD
  clear kS5 kS k4 k6 ko7 kt9 ko9 kf0 ko kt
  (try dsimp only); (first | refine hX _ _ ?_ | skip); (try dsimp only); (first | refine seqX (fun X hX => ?_) | skip); try walk_at "dr2"; (try simp only [sp___init__, sp_say, sp__law_cell, sp__law_prime, sp__law_times, sp__law_power, sp__law_rests, sp__law_built, sp__law_put_off, sp__law_shown, sp__law_told]); try walk_at "dr2"
  refine ⟨by decide, fun p1 n1 => ⟨by decide, fun p2 n2 => ⟨by decide, fun p3 n3 => ⟨by decide, fun p4 n4 => ?_⟩⟩⟩⟩
  generalize e1 : upd H12 p1 _ = J1 at n2 n3 n4 ⊢
  obtain ⟨j1, q1⟩ := newH e1 n1
  generalize e2 : upd J1 p2 _ = J2 at n3 n4 ⊢
  obtain ⟨j2, q2⟩ := newH e2 n2
  generalize e3 : upd J2 p3 _ = J3 at n4 ⊢
  obtain ⟨j3, q3⟩ := newH e3 n3
  generalize e4 : upd J3 p4 _ = H13 at ⊢
  obtain ⟨j4, q4⟩ := newH e4 n4
  have q1 := j4 _ _ (j3 _ _ (j2 _ _ q1))
  have q2 := j4 _ _ (j3 _ _ q2)
  have q3 := j4 _ _ q3
  have g13 := j1.trans (j2.trans (j3.trans j4))
  clear e1 e2 e3 e4 n1 n2 n3 n4 j1 j2 j3 j4
  have fi := fi.same g13
  have kg := g13 _ _ kg
  have kh := g13 _ _ kh
  refine ⟨⟨_, SqL.of q4⟩, ?_⟩
  have kD := fi.desk.kept
  have b55 : ∀ {c l : List Int} {m : Nat}, Off p c l → Dr.PolyB c m → m ≤ 166 → ∀ x, x ∈ l → x.natAbs < 10 ^ 55 := fun {c l m} o b hm x hx => by
    obtain ⟨y, hy, le⟩ := o.le x hx
    have h1 : y.natAbs < 2 ^ m := b y hy
    have h2 : (2 : Nat) ^ m ≤ 2 ^ 166 := Nat.pow_le_pow_right (by decide) hm
    have h3 : (2 : Nat) ^ 166 + 300 ≤ 10 ^ 55 := by decide +kernel
    generalize (10 : Nat) ^ 55 = M1 at h3 ⊢
    generalize (2 : Nat) ^ 166 = M2 at h2 h3
    generalize (2 : Nat) ^ m = M3 at h1 h2
    omega
  have bg := b55 og pb1 (by omega)
  have bh := b55 oh pb2 (by omega)
  clear b55
  have lg1 := og.len
  have lh1 := oh.len
  have three : ∀ (i : Nat) (x : V), [V.ref p1, V.ref p2, V.ref p3][i]? = some x → ∃ (z : Str) (l : Addr) (u : List Int) (a : Addr), x = V.ref a ∧ H13 a = some (HO.tup [.str z, .ref l]) ∧ H13 l = some (.lst (u.map V.int)) ∧ Nm z ∧ u ≠ [] ∧ u.length ≤ 13 ∧ (∀ y, y ∈ u → y.natAbs < 10 ^ 55) ∧ (nm3 f g h)[i]? = some (z, u) := fun i x hx => by
    match i, hx with
    | 0, hx => cases hx; exact ⟨_, _, _, _, rfl, q1, fi.ff, nm_f, (fun z => by rw [z] at topf; cases topf), by omega, bf, rfl⟩
    | 1, hx => cases hx; exact ⟨_, _, _, _, rfl, q2, kg, nm_g, (fun z => by rw [z] at lg1; simp at lg1; omega), by omega, bg, rfl⟩
    | 2, hx => cases hx; exact ⟨_, _, _, _, rfl, q3, kh, nm_h, (fun z => by rw [z] at lh1; simp at lh1; omega), by omega, bh, rfl⟩
    | i + 3, hx => cases hx
  obtain ⟨Pv, hPv⟩ : ∃ Pv : Nat → St → Hp → Prop, ∀ i σ H', Pv i σ H' ↔ (Sk kd H13 H' ∧ ∃ (kvs : List (Key × V)) (t1 t2 : Option V), H' kd = some (.dK kvs) ∧ kvs.length ≤ i ∧ (∀ j z u, j < i → (nm3 f g h)[j]? = some (z, u) → Pn lf H' kvs z u) ∧ σ = [some (.ref la), some (.int p), some (.ref lS), some (.int k0), some (.int deep), some (.ref lo), some (.ref lt), some (.int wh), some (.ref lf), some (.ref lg), some (.ref lh), some (.ref d), t1, t2, none, none, none, none]) := ⟨_, fun _ _ _ => Iff.rfl⟩
  (first | refine hX _ _ ?_ | skip); refine forL [V.ref p1, V.ref p2, V.ref p3] Pv ((hPv _ _ _).mpr ⟨Sk.refl _ _, [], _, _, kD, Nat.le_refl _, fun j _ _ hj => absurd hj (by omega), rfl⟩) (fun i σ H' hi z => SqL.of (((hPv _ _ _).mp z).1 _ _ (not_kd q4 kD) q4)) ?_ ?_
  · intro i x σ H' hx z
    obtain ⟨sk, kvs, t1, t2, kk, hkl, hpn, rfl⟩ := (hPv _ _ _).mp z
    obtain ⟨y, l, u, a, rfl, ea, el, hn, hu0, hu, hub, hi⟩ := three i x hx
    have i3 := (List.getElem?_eq_some_iff.mp hx).1
    simp only [List.length_cons, List.length_nil] at i3
    have ea := sk _ _ (fun z => by rw [z, kD] at ea; cases ea) ea
    have el := sk _ _ (not_kd el kD) el
    have fi := fi.sk sk kk
    have hb60 : ∀ x, x ∈ u → x.natAbs < 10 ^ 60 := fun x hx => Nat.lt_of_lt_of_le (hub x hx) (by decide +kernel)
    have ln := Tx.join_len (ms := u) (by omega) hb60
    have ln : (Tx.shown u).length ≤ 868 := ln
    have hn8 := hn.most
    (first | refine hX _ _ ?_ | skip); (try dsimp only); try walk_at "dr1"; (try simp only [sp___init__, sp_say, sp__law_cell, sp__law_prime, sp__law_times, sp__law_power, sp__law_rests, sp__law_built, sp__law_put_off, sp__law_shown, sp__law_told]); try walk_at "dr1"
    have n1 : (Str.ofString "poly " ++ y).length ≤ 13 := by rw [app_len, poly_sp]; omega
    have n2 : (Str.ofString "poly " ++ y ++ Str.ofString " ").length ≤ 14 := by rw [app_len, one_sp]; omega
    have n3 : (Str.ofString "poly " ++ y ++ Str.ofString " " ++ Tx.shown u).length ≤ 882 := by rw [app_len]; omega
    refine ⟨_, SqT.of ea, rfl, _, _, rfl, _, _, rfl, rfl, _, _, fi.desk.ins, look_no (by decide +kernel) (by decide +kernel), y, rfl, le_line (by rw [poly_sp]; omega), le_line (by rw [one_sp]; omega), l, rfl, u, SqL.of el, by omega, (fun x hx => Nat.lt_of_lt_of_le (hub x hx) (by decide +kernel)), fun H2 g2 => ⟨le_line (by omega), dx, kd, p, kvs, (fi.same g2).desk, hpp, by omega, by omega, ?_⟩⟩
    rw [row_poly]
    refine .poly hn hu0 hu hb60 fun l2 H3 g3 n3 k3 => ⟨rfl, ?_⟩
    rw [if_neg (not_not_intro rfl)]
    have k2 := g3 _ _ (g2 _ _ kk)
    have sk2 : Sk kd H' (upd H3 kd (HO.dK (putK kvs (Sum.inr y) (V.ref l2)))) := (Sk.of (g2.trans g3)).trans Sk.upd
    refine (hPv _ _ _).mpr ⟨sk.trans sk2, _, _, _, upd_same, Nat.le_trans (putK_len _ _ _) (by omega), fun j z v hj hz => ?_, rfl⟩
    by_cases c : j < i
    · exact (hpn j z v c hz).old kk sk2 (nm3_ne hi hz c)
    · have e : j = i := by omega
      subst e
      rw [hi] at hz
      cases hz
      exact Pn.new (fun z => by have := g2 _ _ fi.ff; rw [← z, n3] at this; cases this) k3 k2
  · intro σ H' z
    obtain ⟨sk, kvs, t1, t2, kk, hkl, hpn, rfl⟩ := (hPv _ _ _).mp z
    have pf := hpn 0 _ _ (show 0 < 3 by decide) rfl
    have pg := hpn 1 _ _ (show 1 < 3 by decide) rfl
    have ph := hpn 2 _ _ (show 2 < 3 by decide) rfl
    have fi := fi.sk sk kk
    have hkl : kvs.length ≤ 3 := hkl
    clear z hPv hpn three q1 q2 q3 q4 kD
    have st : Set93 p deep f g h one other := .of hpp hd1 pw b1 b2 (by omega) (by omega) hf0 lenf topf (by rw [← ewh]; exact cf) og oh
    have me := mod_in (cellv ns 2 / 7) (show 0 < deep by omega)
    (try dsimp only); (first | refine hX _ _ ?_ | skip); (try dsimp only); (first | refine seqX (fun X hX => ?_) | skip); try walk_at "dr2"; (try simp only [sp___init__, sp_say, sp__law_cell, sp__law_prime, sp__law_times, sp__law_power, sp__law_rests, sp__law_built, sp__law_put_off, sp__law_shown, sp__law_told]); try walk_at "dr2"
    refine ⟨ns, fi.sq, hl, cdv_small ⟨by decide, by decide⟩, by omega, by decide, fun l14 n14 => ?_⟩
    generalize e14 : upd H' l14 _ = H14 at ⊢
    obtain ⟨g14, k14⟩ := newH e14 n14
    clear e14
    refine ⟨⟨_, SqL.of k14⟩, ?_⟩
    have he2 : 1 ≤ 1 + cellv ns 2 / 7 % deep ∧ 1 + cellv ns 2 / 7 % deep ≤ deep := by omega
    generalize 1 + cellv ns 2 / 7 % deep = e2 at he2 k14 ⊢
    clear me
    have k14 : H14 l14 = some (.lst ([deep, e2].map V.int)) := k14
    have fi := fi.same g14
    have pf := pf.same g14
    have pg := pg.same g14
    have ph := ph.same g14
    obtain ⟨Pv, hPv⟩ : ∃ Pv : Nat → St → Hp → Prop, ∀ i σ H5, Pv i σ H5 ↔ (Same H14 H5 ∧ ∃ (t3 t4 t5 : Option V), σ = [some (.ref la), some (.int p), some (.ref lS), some (.int k0), some (.int deep), some (.ref lo), some (.ref lt), some (.int wh), some (.ref lf), some (.ref lg), some (.ref lh), some (.ref d), t1, t2, t3, t4, t5, none]) := ⟨_, fun _ _ _ => Iff.rfl⟩
    (first | refine hX _ _ ?_ | skip); refine forI [deep, e2] Pv ((hPv _ _ _).mpr ⟨Same.refl _, _, _, _, rfl⟩) (fun i σ H5 z => SqL.of (((hPv _ _ _).mp z).1 _ _ k14)) ?_ ?_
    · intro i e σ H5 hx z
      have he : 1 ≤ e ∧ e ≤ deep := by
        rcases List.mem_cons.mp (List.mem_of_getElem? hx) with c | c
        · omega
        · rw [List.mem_singleton.mp c]; exact he2
      obtain ⟨g5, t3, t4, t5, rfl⟩ := (hPv _ _ _).mp z
      (try dsimp only); (first | refine hX _ _ ?_ | skip); (try dsimp only); (first | refine seqX (fun X hX => ?_) | skip); try walk_at "dr2"; (try simp only [sp___init__, sp_say, sp__law_cell, sp__law_prime, sp__law_times, sp__law_power, sp__law_rests, sp__law_built, sp__law_put_off, sp__law_shown, sp__law_told]); try walk_at "dr2"
      refine ⟨by omega, by omega, by omega, by omega, ?_⟩
      have fi := fi.same g5
      have pf := pf.same g5
      have pg := pg.same g5
      have ph := ph.same g5
      have pP : 0 < p ^ e.toNat := Dr.pow_pos (by omega) _
      have sP : p ^ e.toNat < 10 ^ 190 := by
        have h2 := pow_bits (p := p) (by omega) e.toNat
        have h3 : (2 : Nat) ^ (10 * e.toNat + 1) ≤ 2 ^ 601 := Nat.pow_le_pow_right (by decide) (by omega)
        have h4 : (2 : Nat) ^ 601 ≤ 10 ^ 190 := by decide +kernel
        have h5 : (10 : Int) ^ 190 = ((10 ^ 190 : Nat) : Int) := by decide +kernel
        rw [h5]
        generalize (10 : Nat) ^ 190 = M1 at h4 ⊢
        generalize (2 : Nat) ^ 601 = M2 at h3 h4
        generalize (2 : Nat) ^ (10 * e.toNat + 1) = M3 at h2 h3
        omega
      have dq := st.due e.toNat (by omega) (by omega)
      generalize p ^ e.toNat = P1 at pP sP dq ⊢
      (try dsimp only); (first | refine hX _ _ ?_ | skip); (try dsimp only); (first | refine seqX (fun X hX => ?_) | skip); try walk_at "dr2"; (try simp only [sp___init__, sp_say, sp__law_cell, sp__law_prime, sp__law_times, sp__law_power, sp__law_rests, sp__law_built, sp__law_put_off, sp__law_shown, sp__law_told]); try walk_at "dr2"
      refine ⟨by decide, fun l6 n6 => ?_⟩
      generalize e6 : upd H5 l6 _ = H6 at ⊢
      obtain ⟨g6, k6⟩ := newH e6 n6
      clear e6
      refine ⟨⟨_, SqL.of k6⟩, ?_⟩
      have fi := fi.same g6
      have two : ∀ (i : Nat) (x : V), [V.ref lo, V.ref lt][i]? = some x → ∃ (l : Addr) (u : List Int), x = V.ref l ∧ H6 l = some (.lst (u.map V.int)) ∧ u.length ≤ 13 ∧ [one, other][i]? = some u := fun i x hx => by
        match i, hx with
        | 0, hx => cases hx; exact ⟨_, _, rfl, fi.o, by omega, rfl⟩
        | 1, hx => cases hx; exact ⟨_, _, rfl, fi.t, by omega, rfl⟩
        | i + 2, hx => cases hx
      obtain ⟨Pc, hPc⟩ : ∃ Pc : Nat → List V → Hp → Prop, ∀ i ys H7, Pc i ys H7 ↔ (Same H6 H7 ∧ ys = ([one, other].take i).map fun u => V.str (Tx.shown (u.map (· % P1)))) := ⟨_, fun _ _ _ => Iff.rfl⟩
      (first | refine hX _ _ ?_ | skip); refine compL [V.ref lo, V.ref lt] Pc (by show 2 ≤ sizeLine; decide) ((hPc _ _ _).mpr ⟨Same.refl _, rfl⟩) (fun i ys H7 z => SqL.of (((hPc _ _ _).mp z).1 _ _ k6)) (fun i x ys H7 hx z => ?_) (fun ys H7 z ld nld => ?_)
      · obtain ⟨g7, rfl⟩ := (hPc _ _ _).mp z
        obtain ⟨l, u, rfl, ul, hu, hi⟩ := two i x hx
        have ul := g7 _ _ ul
        (first | refine hX _ _ ?_ | skip); (try dsimp only); try walk_at "dr1"; (try simp only [sp___init__, sp_say, sp__law_cell, sp__law_prime, sp__law_times, sp__law_power, sp__law_rests, sp__law_built, sp__law_put_off, sp__law_shown, sp__law_told]); try walk_at "dr1"
        refine ⟨⟨_, SqL.of ul⟩, ?_⟩
        obtain ⟨Pd, hPd⟩ : ∃ Pd : Nat → List V → Hp → Prop, ∀ j zs H8, Pd j zs H8 ↔ (H8 = H7 ∧ zs = ((u.take j).map (· % P1)).map V.int) := ⟨_, fun _ _ _ => Iff.rfl⟩
        (first | refine hX _ _ ?_ | skip); refine compI u Pd (Nat.le_trans hu (by decide)) ((hPd _ _ _).mpr ⟨rfl, rfl⟩) (fun j zs H8 z => by rw [((hPd _ _ _).mp z).1]; exact SqL.of ul) (fun j x zs H8 hx z => ?_) (fun zs H8 z l8 n8 => ?_)
        · obtain ⟨rfl, rfl⟩ := (hPd _ _ _).mp z
          (first | refine hX _ _ ?_ | skip); (try dsimp only); try walk_at "dr1"; (try simp only [sp___init__, sp_say, sp__law_cell, sp__law_prime, sp__law_times, sp__law_power, sp__law_rests, sp__law_built, sp__law_put_off, sp__law_shown, sp__law_told]); try walk_at "dr1"
          refine ⟨pP, (hPd _ _ _).mpr ⟨rfl, ?_⟩⟩
          rw [take_next hx, List.map_append, List.map_append]
          rfl
        · obtain ⟨rfl, rfl⟩ := (hPd _ _ _).mp z
          rw [List.take_length]
          refine ⟨l8, rfl, u.map (· % P1), SqL.of upd_same, by rw [List.length_map]; omega, fun x hx => ?_, fun H9 g9 => (hPc _ _ _).mpr ⟨g7.trans ((newS n8).trans g9), ?_⟩⟩
          · obtain ⟨y, _, rfl⟩ := List.mem_map.mp hx
            have m1 := mod_in y pP
            have h5 : (10 : Int) ^ 190 = ((10 ^ 190 : Nat) : Int) := by decide +kernel
            rw [h5] at sP
            generalize (10 : Nat) ^ 190 = M1 at sP ⊢
            omega
          · rw [take_next hi, List.map_append]
            rfl
      obtain ⟨g7, rfl⟩ := (hPc _ _ _).mp z
      have g8 := newS nld (o := HO.lst (([one, other].take [V.ref lo, V.ref lt].length).map fun u => V.str (Tx.shown (u.map (· % P1)))))
      have k8 : upd H7 ld (HO.lst (([one, other].take [V.ref lo, V.ref lt].length).map fun u => V.str (Tx.shown (u.map (· % P1))))) ld = some (HO.lst [V.str (Tx.shown (one.map (· % P1))), V.str (Tx.shown (other.map (· % P1)))]) := upd_same
      generalize upd H7 ld (HO.lst (([one, other].take [V.ref lo, V.ref lt].length).map fun u => V.str (Tx.shown (u.map (· % P1))))) = H8 at g8 k8 ⊢
      clear z hPc two
      have fi := (fi.same g7).same g8
      have pf := ((pf.same g6).same g7).same g8
      have pg := ((pg.same g6).same g7).same g8
      have ph := ((ph.same g6).same g7).same g8
      have sh : ∀ {u : List Int}, u.length ≤ 13 → (Tx.shown (u.map (· % P1))).length ≤ 2688 := fun {u} hu => shown_len (by rw [List.length_map]; omega) fun x hx => by
        obtain ⟨y, _, rfl⟩ := List.mem_map.mp hx
        have m1 := mod_in y pP
        have h5 : (10 : Int) ^ 190 = ((10 ^ 190 : Nat) : Int) := by decide +kernel
        rw [h5] at sP
        generalize (10 : Nat) ^ 190 = M1 at sP ⊢
        omega
      have sh1 := sh (u := one) (by omega)
      have sh2 := sh (u := other) (by omega)
      clear sh
      have hn2 := num_len (N := e) (by omega)
      have b56 : ∀ {u : List Int}, (∀ y, y ∈ u → y.natAbs < 10 ^ 55) → ∀ y, y ∈ u → y.natAbs < 10 ^ 56 := fun {u} h y hy => Nat.lt_of_lt_of_le (h y hy) (by decide +kernel)
      have h13 : ∀ a : Nat, a ≤ 2688 → ∀ b : Nat, b ≤ 2700 → a + b ≤ sizeLine := fun a ha b hb => Nat.le_trans (Nat.add_le_add ha hb) (by decide)
      generalize e1 : Tx.shown (one.map (· % P1)) = s1 at k8 sh1
      generalize e2' : Tx.shown (other.map (· % P1)) = s2 at k8 sh2
      (try dsimp only); (first | refine hX _ _ ?_ | skip); (try dsimp only); (first | refine seqX (fun X hX => ?_) | skip); try walk_at "dr2"; (try simp only [sp___init__, sp_say, sp__law_cell, sp__law_prime, sp__law_times, sp__law_power, sp__law_rests, sp__law_built, sp__law_put_off, sp__law_shown, sp__law_told]); try walk_at "dr2"
      refine ⟨log_sixty (by omega), le_line (by rw [fgh_len]; omega), dx, kd, p, kvs, fi.desk, hpp, by omega, by rw [app_len, fgh_len]; omega, ask fgh nm_f nm_g nm_h (by omega) pf pg ph (by omega) (b56 bf) (b56 bg) (b56 bh) (fun n => absurd ⟨st.may e (by omega), st.bez⟩ n) fun G J H9 _ _ P g9 => ?_⟩
      obtain ⟨rfl, rfl⟩ := dq G J P
      clear P
      have k9 := g9 _ _ k8
      have fi := fi.same g9
      have pf := pf.same g9
      have pg := pg.same g9
      have ph := ph.same g9
      rw [e1, e2', two_is]
      refine ⟨_, SqL.of k9, _, atI_nat (j := 0) rfl, _, rfl, h13 _ sh1 _ (by rw [one_sp]; decide), _, SqL.of k9, _, atI_nat (j := 1) rfl, _, rfl, ?_, rfl, ?_⟩
      · rw [Nat.add_comm]
        exact h13 _ sh2 _ (by rw [app_len, one_sp]; omega)
      rw [if_neg (not_not_intro rfl)]
      (try dsimp only); (first | refine hX _ _ ?_ | skip); (try dsimp only); (first | refine seqX (fun X hX => ?_) | skip); try walk_at "dr2"; (try simp only [sp___init__, sp_say, sp__law_cell, sp__law_prime, sp__law_times, sp__law_power, sp__law_rests, sp__law_built, sp__law_put_off, sp__law_shown, sp__law_told]); try walk_at "dr2"
      refine ⟨log_sixty (by omega), le_line (by rw [fhg_len]; omega), dx, kd, p, kvs, fi.desk, hpp, by omega, by rw [app_len, fhg_len]; omega, ask fhg nm_f nm_h nm_g (by omega) pf ph pg (by omega) (b56 bf) (b56 bh) (b56 bg) (fun n => absurd ⟨(st.may e (by omega)).swap, st.bez.swap⟩ n) fun G J H10 _ _ P g10 => ?_⟩
      obtain ⟨rfl, rfl⟩ := dq J G P.swap
      clear P
      have k10 := g10 _ _ k9
      rw [e1, e2', two_is]
      refine ⟨_, SqL.of k10, _, atI_nat (j := 1) rfl, _, rfl, h13 _ sh2 _ (by rw [one_sp]; decide), _, SqL.of k10, _, atI_nat (j := 0) rfl, _, rfl, ?_, rfl, ?_⟩
      · rw [Nat.add_comm]
        exact h13 _ sh1 _ (by rw [app_len, one_sp]; omega)
      rw [if_neg (not_not_intro rfl)]
      exact (hPv _ _ _).mpr ⟨g5.trans (g6.trans (g7.trans (g8.trans (g9.trans g10)))), _, _, _, rfl⟩
    · intro σ H5 z
      obtain ⟨g5, t3, t4, t5, rfl⟩ := (hPv _ _ _).mp z
      clear z hPv
      have fi0 := fi
      have fi := fi.same g5
      have pf := pf.same g5
      have pg := pg.same g5
      have ph := ph.same g5
      have b56 : ∀ {u : List Int}, (∀ y, y ∈ u → y.natAbs < 10 ^ 55) → ∀ y, y ∈ u → y.natAbs < 10 ^ 56 := fun {u} h y hy => Nat.lt_of_lt_of_le (h y hy) (by decide +kernel)
      have hn2 := num_len (N := deep) (by omega)
      (try dsimp only); (first | refine hX _ _ ?_ | skip); (try dsimp only); (first | refine seqX (fun X hX => ?_) | skip); try walk_at "dr2"; (try simp only [sp___init__, sp_say, sp__law_cell, sp__law_prime, sp__law_times, sp__law_power, sp__law_rests, sp__law_built, sp__law_put_off, sp__law_shown, sp__law_told]); try walk_at "dr2"
      refine ⟨by decide, ?_⟩
      intro lr n_lr; generalize e_lr : upd _ lr _ = H6; obtain ⟨g6, k6⟩ := newH e_lr n_lr; clear e_lr
      have fi := fi.same g6
      have pf := pf.same g6
      have pg := pg.same g6
      have ph := ph.same g6
      (try dsimp only); (first | refine hX _ _ ?_ | skip); (try dsimp only); (first | refine seqX (fun X hX => ?_) | skip); try walk_at "dr2"; (try simp only [sp___init__, sp_say, sp__law_cell, sp__law_prime, sp__law_times, sp__law_power, sp__law_rests, sp__law_built, sp__law_put_off, sp__law_shown, sp__law_told]); try walk_at "dr2"
      refine ⟨log_sixty (by omega), le_line (by rw [fgg_len]; omega), dx, kd, p, kvs, fi.desk, hpp, by omega, by rw [app_len, fgg_len]; omega, ask fgg nm_f nm_g nm_g (by omega) pf pg pg (by omega) (b56 bf) (b56 bg) (b56 bg) (fun _ H7 g7 => ⟨rfl, fun l H8 g8 n8 k8 => neLB refusedB (SqL.of k8) (SqL.of (g8 _ _ (g7 _ _ k6))) ⟨_, rfl, ?_⟩⟩) fun G J H7 _ bz => absurd bz (Set93.alike hpp b1 (by rw [List.length_take]; omega) og)⟩
      rw [if_neg (by decide)]
      have k8 := g8 _ _ (g7 _ _ k6)
      have fi := (fi.same g7).same g8
      have pf := (pf.same g7).same g8
      have pg := (pg.same g7).same g8
      have ph := (ph.same g7).same g8
      (try dsimp only); (first | refine hX _ _ ?_ | skip); (try dsimp only); (first | refine seqX (fun X hX => ?_) | skip); try walk_at "dr2"; (try simp only [sp___init__, sp_say, sp__law_cell, sp__law_prime, sp__law_times, sp__law_power, sp__law_rests, sp__law_built, sp__law_put_off, sp__law_shown, sp__law_told]); try walk_at "dr2"
      have mk := mod_in (cellv ns 3) (show 0 < (f.length : Int) - 1 by omega)
      refine ⟨ns, fi.sq, hl, _, .inl (SqL.of fi.ff), by rw [List.length_map]; omega, by rw [List.length_map]; omega, _, SqL.of fi.ff, ?_⟩
      rw [List.length_map]
      generalize cellv ns 3 % ((f.length : Int) - 1) = kk0 at mk ⊢
      obtain ⟨v, hv, _, ix, hv2⟩ := get_int (fs := f) (k := kk0) (by omega) (by omega)
      refine ⟨_, hv2, v, rfl, _, fi.ff, _, ix, ?_⟩
      rw [set_int]
      have ff9 := upd_same (H := H8) (a := lf) (o := HO.lst ((f.set kk0.toNat (v + 1)).map V.int))
      have ds9 := fi.desk.set fi.ff (o := HO.lst ((f.set kk0.toNat (v + 1)).map V.int))
      have pg9 := pg.set (o := HO.lst ((f.set kk0.toNat (v + 1)).map V.int))
      have ph9 := ph.set (o := HO.lst ((f.set kk0.toNat (v + 1)).map V.int))
      have k9 : upd H8 lf (HO.lst ((f.set kk0.toNat (v + 1)).map V.int)) lr = some (.lst (refusedB.map V.bl)) := by
        rw [upd_ne fun z => by rw [z, g5 _ _ (fi0.ff)] at n_lr; cases n_lr]
        exact k8
      generalize upd H8 lf (HO.lst ((f.set kk0.toNat (v + 1)).map V.int)) = H9 at ff9 ds9 pg9 ph9 k9 ⊢
      clear fi pf pg ph
      have no : ∀ N, ¬ Dr.May p N (f.set kk0.toNat (v + 1)) g h := fun N => (st.may 1 (by decide)).put hv (Dr.one_mod hpp) N
      have bs : ∀ y, y ∈ f.set kk0.toNat (v + 1) → y.natAbs < 10 ^ 56 := fun y hy => by
        have h3 : (10 : Nat) ^ 55 + 1 < 10 ^ 56 := by decide +kernel
        rcases mem_set hy with c | c
        · exact b56 bf y c
        · have := bf v (List.mem_of_getElem? hv)
          rw [c]
          generalize (10 : Nat) ^ 55 = M1 at this h3
          generalize (10 : Nat) ^ 56 = M2 at h3 ⊢
          omega
      have lf2 : (f.set kk0.toNat (v + 1)).length = f.length := List.length_set ..
      generalize f.set kk0.toNat (v + 1) = f2 at ff9 no bs lf2
      have b60 : ∀ x, x ∈ f2 → x.natAbs < 10 ^ 60 := fun x hx => Nat.lt_of_lt_of_le (bs x hx) (by decide +kernel)
      have ln : (Tx.shown f2).length ≤ 868 := Tx.join_len (ms := f2) (by omega) b60
      have f20 : f2 ≠ [] := fun z => by rw [z] at lf2; simp at lf2; omega
      (try dsimp only); (first | refine hX _ _ ?_ | skip); (try dsimp only); (first | refine seqX (fun X hX => ?_) | skip); try walk_at "dr2"; (try simp only [sp___init__, sp_say, sp__law_cell, sp__law_prime, sp__law_times, sp__law_power, sp__law_rests, sp__law_built, sp__law_put_off, sp__law_shown, sp__law_told]); try walk_at "dr2"
      refine ⟨_, _, ds9.ins, look_no (by decide +kernel) (by decide +kernel), f2, SqL.of ff9, by omega, (fun x hx => Nat.lt_of_lt_of_le (b60 x hx) (by decide +kernel)), fun H10 g10 => ⟨le_line (by rw [pf_len]; omega), dx, kd, p, kvs, ds9.same g10, hpp, by omega, by rw [app_len, pf_len]; omega, ?_⟩⟩
      rw [row_pf]
      refine .poly nm_f f20 (by omega) b60 fun l2 H11 g11 n11 k11 => ⟨rfl, ?_⟩
      rw [if_neg (not_not_intro rfl)]
      have nl2 : l2 ≠ lf := fun z => by have := g10 _ _ ff9; rw [← z, n11] at this; cases this
      have kk := ((ds9.same g10).same g11).kept
      have ds := ((ds9.same g10).same g11).put (kvs' := putK kvs (Sum.inr (Str.ofString "f")) (V.ref l2))
      have skf : Sk kd H9 (upd H11 kd (HO.dK (putK kvs (Sum.inr (Str.ofString "f")) (V.ref l2)))) := (Sk.of (g10.trans g11)).trans Sk.upd
      have pg := pg9.old ds9.kept skf (l := l2) (y := Str.ofString "f") (by decide +kernel)
      have ph := ph9.old ds9.kept skf (l := l2) (y := Str.ofString "f") (by decide +kernel)
      have pf := Pn.new (z := Str.ofString "f") (kvs := kvs) nl2 k11 kk
      have k12 := skf _ _ (not_kd k9 ds9.kept) k9
      have kl4 : (putK kvs (Sum.inr (Str.ofString "f")) (V.ref l2)).length ≤ 4 := Nat.le_trans (putK_len _ _ _) (by omega)
      generalize upd H11 kd (HO.dK (putK kvs (Sum.inr (Str.ofString "f")) (V.ref l2))) = H12 at ds pf pg ph k12 ⊢
      generalize putK kvs (Sum.inr (Str.ofString "f")) (V.ref l2) = kvs2 at ds pf pg ph kl4 ⊢
      refine ⟨log_sixty (by omega), le_line (by rw [fgh_len]; omega), dx, kd, p, kvs2, ds, hpp, by omega, by rw [app_len, fgh_len]; omega, ask fgh nm_f nm_g nm_h (by omega) pf pg ph (by omega) bs (b56 bg) (b56 bh) (fun _ H13 g13 => ⟨rfl, fun l H14 g14 n14 k14 => neLB refusedB (SqL.of k14) (SqL.of (g14 _ _ (g13 _ _ k12))) ⟨_, rfl, ?_⟩⟩) fun G J H7 my => absurd my (no _)⟩
      rw [if_neg (by decide)]
      have k15 := g14 _ _ (g13 _ _ k12)
      have ds := (ds.same g13).same g14
      have pf := (pf.same g13).same g14
      have pg := (pg.same g13).same g14
      have ph := (ph.same g13).same g14
      (first | refine hX _ _ ?_ | skip); (try dsimp only); try walk_at "dr1"; (try simp only [sp___init__, sp_say, sp__law_cell, sp__law_prime, sp__law_times, sp__law_power, sp__law_rests, sp__law_built, sp__law_put_off, sp__law_shown, sp__law_told]); try walk_at "dr1"
      refine ⟨dx, kd, p, kvs2, ds, hpp, by omega, by decide +kernel, ?_⟩
      rw [row_zero]
      refine ask fgh nm_f nm_g nm_h (by decide) pf pg ph (by omega) bs (b56 bg) (b56 bh) (fun _ H16 g16 => ⟨rfl, fun l H17 g17 n17 k17 => eqLB refusedB (SqL.of k17) (SqL.of (g17 _ _ (g16 _ _ k15))) ?_⟩) fun G J H7 my => absurd my (no _)
      exact q _
theorem all_mk {h : Heap} {fa f1 f2 f3 f4 f5 f6 f7 f8 f9 f10 f11 f12 f13 f14 f15 f16 f17 f18 f19 f20 f21 f22 f23 f24 f25 f26 f27 f28 f29 f30 f31 f32 f33 f34 f35 f36 f37 f38 f39 : Addr} (X : K.In h) (G : h.Ns mainGlobals mg) (hfa : mg "law" = some (.ref fa))
    {od1 an1 od2 an2 od3 an3 od4 an4 od5 an5 od6 an6 od7 an7 od8 an8 od9 an9 od10 an10 od11 an11 od12 an12 od13 an13 od14 an14 od15 an15 od16 an16 od17 an17 od18 an18 od19 an19 od20 an20 od21 an21 od22 an22 od23 an23 od24 an24 od25 an25 od26 an26 od27 an27 od28 an28 od29 an29 od30 an30 od31 an31 od32 an32 od33 an33 od34 an34 od35 an35 od36 an36 od37 an37 od38 an38 od39 an39 : Option Addr} {sl1 sl2 sl3 sl4 sl5 sl6 sl7 sl8 sl9 sl10 sl11 sl12 sl13 sl14 sl15 sl16 sl17 sl18 sl19 sl20 sl21 sl22 sl23 sl24 sl25 sl26 sl27 sl28 sl29 sl30 sl31 sl32 sl33 sl34 sl35 sl36 sl37 sl38 sl39 : Array (Option Value)} {oc1 kV1 dc1 pm1 cd1 ct1 oc2 kV2 dc2 pm2 cd2 ct2 oc3 kV3 dc3 pm3 cd3 ct3 oc4 kV4 dc4 pm4 cd4 ct4 oc5 kV5 dc5 pm5 cd5 ct5 oc6 kV6 dc6 pm6 cd6 ct6 oc7 kV7 dc7 pm7 cd7 ct7 oc8 kV8 dc8 pm8 cd8 ct8 oc9 kV9 dc9 pm9 cd9 ct9 oc10 kV10 dc10 pm10 cd10 ct10 oc11 kV11 dc11 pm11 cd11 ct11 oc12 kV12 dc12 pm12 cd12 ct12 oc13 kV13 dc13 pm13 cd13 ct13 oc14 kV14 dc14 pm14 cd14 ct14 oc15 kV15 dc15 pm15 cd15 ct15 oc16 kV16 dc16 pm16 cd16 ct16 oc17 kV17 dc17 pm17 cd17 ct17 oc18 kV18 dc18 pm18 cd18 ct18 oc19 kV19 dc19 pm19 cd19 ct19 oc20 kV20 dc20 pm20 cd20 ct20 oc21 kV21 dc21 pm21 cd21 ct21 oc22 kV22 dc22 pm22 cd22 ct22 oc23 kV23 dc23 pm23 cd23 ct23 oc24 kV24 dc24 pm24 cd24 ct24 oc25 kV25 dc25 pm25 cd25 ct25 oc26 kV26 dc26 pm26 cd26 ct26 oc27 kV27 dc27 pm27 cd27 ct27 oc28 kV28 dc28 pm28 cd28 ct28 oc29 kV29 dc29 pm29 cd29 ct29 oc30 kV30 dc30 pm30 cd30 ct30 oc31 kV31 dc31 pm31 cd31 ct31 oc32 kV32 dc32 pm32 cd32 ct32 oc33 kV33 dc33 pm33 cd33 ct33 oc34 kV34 dc34 pm34 cd34 ct34 oc35 kV35 dc35 pm35 cd35 ct35 oc36 kV36 dc36 pm36 cd36 ct36 oc37 kV37 dc37 pm37 cd37 ct37 oc38 kV38 dc38 pm38 cd38 ct38 oc39 kV39 dc39 pm39 cd39 ct39 : Value}
    (a1 : PySem.W.nsIn K mainGlobals "is_prime" = some (some (.ref f1))) (l1 : K.lookup f1 = some ⟨oc1, od1, .func (PySem.W.fnOf "is_prime" "is_prime" (defArgs s_is_prime) (defBody s_is_prime) (defScope s_is_prime) .none kV1 dc1 pm1 an1 cd1 ct1), sl1⟩) (c1 : PySem.W.codeIn K cd1 "is_prime" = true) (k1 : PySem.W.keepIn K (.ref f1) = true)
    (a2 : PySem.W.nsIn K mainGlobals "power_of" = some (some (.ref f2))) (l2 : K.lookup f2 = some ⟨oc2, od2, .func (PySem.W.fnOf "power_of" "power_of" (defArgs s_power_of) (defBody s_power_of) (defScope s_power_of) .none kV2 dc2 pm2 an2 cd2 ct2), sl2⟩) (c2 : PySem.W.codeIn K cd2 "power_of" = true) (k2 : PySem.W.keepIn K (.ref f2) = true)
    (a3 : PySem.W.nsIn K mainGlobals "inverse_by_prime" = some (some (.ref f3))) (l3 : K.lookup f3 = some ⟨oc3, od3, .func (PySem.W.fnOf "inverse_by_prime" "inverse_by_prime" (defArgs s_inverse_by_prime) (defBody s_inverse_by_prime) (defScope s_inverse_by_prime) .none kV3 dc3 pm3 an3 cd3 ct3), sl3⟩) (c3 : PySem.W.codeIn K cd3 "inverse_by_prime" = true) (k3 : PySem.W.keepIn K (.ref f3) = true)
    (a4 : PySem.W.nsIn K mainGlobals "inverse_of" = some (some (.ref f4))) (l4 : K.lookup f4 = some ⟨oc4, od4, .func (PySem.W.fnOf "inverse_of" "inverse_of" (defArgs s_inverse_of) (defBody s_inverse_of) (defScope s_inverse_of) .none kV4 dc4 pm4 an4 cd4 ct4), sl4⟩) (c4 : PySem.W.codeIn K cd4 "inverse_of" = true) (k4 : PySem.W.keepIn K (.ref f4) = true)
    (a5 : PySem.W.nsIn K mainGlobals "degree_of" = some (some (.ref f5))) (l5 : K.lookup f5 = some ⟨oc5, od5, .func (PySem.W.fnOf "degree_of" "degree_of" (defArgs s_degree_of) (defBody s_degree_of) (defScope s_degree_of) .none kV5 dc5 pm5 an5 cd5 ct5), sl5⟩) (c5 : PySem.W.codeIn K cd5 "degree_of" = true) (k5 : PySem.W.keepIn K (.ref f5) = true)
    (a6 : PySem.W.nsIn K mainGlobals "poly_product" = some (some (.ref f6))) (l6 : K.lookup f6 = some ⟨oc6, od6, .func (PySem.W.fnOf "poly_product" "poly_product" (defArgs s_poly_product) (defBody s_poly_product) (defScope s_poly_product) .none kV6 dc6 pm6 an6 cd6 ct6), sl6⟩) (c6 : PySem.W.codeIn K cd6 "poly_product" = true) (k6 : PySem.W.keepIn K (.ref f6) = true)
    (a7 : PySem.W.nsIn K mainGlobals "rests_of" = some (some (.ref f7))) (l7 : K.lookup f7 = some ⟨oc7, od7, .func (PySem.W.fnOf "rests_of" "rests_of" (defArgs s_rests_of) (defBody s_rests_of) (defScope s_rests_of) .none kV7 dc7 pm7 an7 cd7 ct7), sl7⟩) (c7 : PySem.W.codeIn K cd7 "rests_of" = true) (k7 : PySem.W.keepIn K (.ref f7) = true)
    (a8 : PySem.W.nsIn K mainGlobals "poly_difference" = some (some (.ref f8))) (l8 : K.lookup f8 = some ⟨oc8, od8, .func (PySem.W.fnOf "poly_difference" "poly_difference" (defArgs s_poly_difference) (defBody s_poly_difference) (defScope s_poly_difference) .none kV8 dc8 pm8 an8 cd8 ct8), sl8⟩) (c8 : PySem.W.codeIn K cd8 "poly_difference" = true) (k8 : PySem.W.keepIn K (.ref f8) = true)
    (a9 : PySem.W.nsIn K mainGlobals "divided_by_prime" = some (some (.ref f9))) (l9 : K.lookup f9 = some ⟨oc9, od9, .func (PySem.W.fnOf "divided_by_prime" "divided_by_prime" (defArgs s_divided_by_prime) (defBody s_divided_by_prime) (defScope s_divided_by_prime) .none kV9 dc9 pm9 an9 cd9 ct9), sl9⟩) (c9 : PySem.W.codeIn K cd9 "divided_by_prime" = true) (k9 : PySem.W.keepIn K (.ref f9) = true)
    (a10 : PySem.W.nsIn K mainGlobals "inverse_beside" = some (some (.ref f10))) (l10 : K.lookup f10 = some ⟨oc10, od10, .func (PySem.W.fnOf "inverse_beside" "inverse_beside" (defArgs s_inverse_beside) (defBody s_inverse_beside) (defScope s_inverse_beside) .none kV10 dc10 pm10 an10 cd10 ct10), sl10⟩) (c10 : PySem.W.codeIn K cd10 "inverse_beside" = true) (k10 : PySem.W.keepIn K (.ref f10) = true)
    (a11 : PySem.W.nsIn K mainGlobals "may_part" = some (some (.ref f11))) (l11 : K.lookup f11 = some ⟨oc11, od11, .func (PySem.W.fnOf "may_part" "may_part" (defArgs s_may_part) (defBody s_may_part) (defScope s_may_part) .none kV11 dc11 pm11 an11 cd11 ct11), sl11⟩) (c11 : PySem.W.codeIn K cd11 "may_part" = true) (k11 : PySem.W.keepIn K (.ref f11) = true)
    (a12 : PySem.W.nsIn K mainGlobals "raised" = some (some (.ref f12))) (l12 : K.lookup f12 = some ⟨oc12, od12, .func (PySem.W.fnOf "raised" "raised" (defArgs s_raised) (defBody s_raised) (defScope s_raised) .none kV12 dc12 pm12 an12 cd12 ct12), sl12⟩) (c12 : PySem.W.codeIn K cd12 "raised" = true) (k12 : PySem.W.keepIn K (.ref f12) = true)
    (a13 : PySem.W.nsIn K mainGlobals "parts_at" = some (some (.ref f13))) (l13 : K.lookup f13 = some ⟨oc13, od13, .func (PySem.W.fnOf "parts_at" "parts_at" (defArgs s_parts_at) (defBody s_parts_at) (defScope s_parts_at) .none kV13 dc13 pm13 an13 cd13 ct13), sl13⟩) (c13 : PySem.W.codeIn K cd13 "parts_at" = true) (k13 : PySem.W.keepIn K (.ref f13) = true)
    (a14 : PySem.W.nsIn K mainGlobals "is_made_of" = some (some (.ref f14))) (l14 : K.lookup f14 = some ⟨oc14, od14, .func (PySem.W.fnOf "is_made_of" "is_made_of" (defArgs s_is_made_of) (defBody s_is_made_of) (defScope s_is_made_of) .none kV14 dc14 pm14 an14 cd14 ct14), sl14⟩) (c14 : PySem.W.codeIn K cd14 "is_made_of" = true) (k14 : PySem.W.keepIn K (.ref f14) = true)
    (a15 : PySem.W.nsIn K mainGlobals "is_written_number" = some (some (.ref f15))) (l15 : K.lookup f15 = some ⟨oc15, od15, .func (PySem.W.fnOf "is_written_number" "is_written_number" (defArgs s_is_written_number) (defBody s_is_written_number) (defScope s_is_written_number) .none kV15 dc15 pm15 an15 cd15 ct15), sl15⟩) (c15 : PySem.W.codeIn K cd15 "is_written_number" = true) (k15 : PySem.W.keepIn K (.ref f15) = true)
    (a16 : PySem.W.nsIn K mainGlobals "can_be_written" = some (some (.ref f16))) (l16 : K.lookup f16 = some ⟨oc16, od16, .func (PySem.W.fnOf "can_be_written" "can_be_written" (defArgs s_can_be_written) (defBody s_can_be_written) (defScope s_can_be_written) .none kV16 dc16 pm16 an16 cd16 ct16), sl16⟩) (c16 : PySem.W.codeIn K cd16 "can_be_written" = true) (k16 : PySem.W.keepIn K (.ref f16) = true)
    (a17 : PySem.W.nsIn K mainGlobals "read_number" = some (some (.ref f17))) (l17 : K.lookup f17 = some ⟨oc17, od17, .func (PySem.W.fnOf "read_number" "read_number" (defArgs s_read_number) (defBody s_read_number) (defScope s_read_number) .none kV17 dc17 pm17 an17 cd17 ct17), sl17⟩) (c17 : PySem.W.codeIn K cd17 "read_number" = true) (k17 : PySem.W.keepIn K (.ref f17) = true)
    (a18 : PySem.W.nsIn K mainGlobals "read_poly" = some (some (.ref f18))) (l18 : K.lookup f18 = some ⟨oc18, od18, .func (PySem.W.fnOf "read_poly" "read_poly" (defArgs s_read_poly) (defBody s_read_poly) (defScope s_read_poly) .none kV18 dc18 pm18 an18 cd18 ct18), sl18⟩) (c18 : PySem.W.codeIn K cd18 "read_poly" = true) (k18 : PySem.W.keepIn K (.ref f18) = true)
    (a19 : PySem.W.nsIn K mainGlobals "show_poly" = some (some (.ref f19))) (l19 : K.lookup f19 = some ⟨oc19, od19, .func (PySem.W.fnOf "show_poly" "show_poly" (defArgs s_show_poly) (defBody s_show_poly) (defScope s_show_poly) .none kV19 dc19 pm19 an19 cd19 ct19), sl19⟩) (c19 : PySem.W.codeIn K cd19 "show_poly" = true) (k19 : PySem.W.keepIn K (.ref f19) = true)
    (a20 : PySem.W.nsIn K mainGlobals "words_of" = some (some (.ref f20))) (l20 : K.lookup f20 = some ⟨oc20, od20, .func (PySem.W.fnOf "words_of" "words_of" (defArgs s_words_of) (defBody s_words_of) (defScope s_words_of) .none kV20 dc20 pm20 an20 cd20 ct20), sl20⟩) (c20 : PySem.W.codeIn K cd20 "words_of" = true) (k20 : PySem.W.keepIn K (.ref f20) = true)
    (a21 : PySem.W.nsIn K mainGlobals "read_name" = some (some (.ref f21))) (l21 : K.lookup f21 = some ⟨oc21, od21, .func (PySem.W.fnOf "read_name" "read_name" (defArgs s_read_name) (defBody s_read_name) (defScope s_read_name) .none kV21 dc21 pm21 an21 cd21 ct21), sl21⟩) (c21 : PySem.W.codeIn K cd21 "read_name" = true) (k21 : PySem.W.keepIn K (.ref f21) = true)
    (a22 : PySem.W.nsIn K mainGlobals "read_depth" = some (some (.ref f22))) (l22 : K.lookup f22 = some ⟨oc22, od22, .func (PySem.W.fnOf "read_depth" "read_depth" (defArgs s_read_depth) (defBody s_read_depth) (defScope s_read_depth) .none kV22 dc22 pm22 an22 cd22 ct22), sl22⟩) (c22 : PySem.W.codeIn K cd22 "read_depth" = true) (k22 : PySem.W.keepIn K (.ref f22) = true)
    (a23 : PySem.W.nsIn K mainGlobals "made_poly" = some (some (.ref f23))) (l23 : K.lookup f23 = some ⟨oc23, od23, .func (PySem.W.fnOf "made_poly" "made_poly" (defArgs s_made_poly) (defBody s_made_poly) (defScope s_made_poly) .none kV23 dc23 pm23 an23 cd23 ct23), sl23⟩) (c23 : PySem.W.codeIn K cd23 "made_poly" = true) (k23 : PySem.W.keepIn K (.ref f23) = true)
    (a24 : PySem.W.nsIn K mainGlobals "told_parts" = some (some (.ref f24))) (l24 : K.lookup f24 = some ⟨oc24, od24, .func (PySem.W.fnOf "told_parts" "told_parts" (defArgs s_told_parts) (defBody s_told_parts) (defScope s_told_parts) .none kV24 dc24 pm24 an24 cd24 ct24), sl24⟩) (c24 : PySem.W.codeIn K cd24 "told_parts" = true) (k24 : PySem.W.keepIn K (.ref f24) = true)
    (l25 : K.lookup f25 = some ⟨oc25, od25, .func (PySem.W.fnOf "__init__" "Desk.__init__" (defArgs s___init__) (defBody s___init__) (defScope s___init__) .none kV25 dc25 pm25 an25 cd25 ct25), sl25⟩) (c25 : PySem.W.codeIn K cd25 "Desk.__init__" = true) (k25 : PySem.W.keepIn K (.ref f25) = true) (n25 : PySem.W.isFn K (.ref f25) = true)
    (l26 : K.lookup f26 = some ⟨oc26, od26, .func (PySem.W.fnOf "say" "Desk.say" (defArgs s_say) (defBody s_say) (defScope s_say) .none kV26 dc26 pm26 an26 cd26 ct26), sl26⟩) (c26 : PySem.W.codeIn K cd26 "Desk.say" = true) (k26 : PySem.W.keepIn K (.ref f26) = true) (n26 : PySem.W.isFn K (.ref f26) = true)
    (l27 : K.lookup f27 = some ⟨oc27, od27, .func (PySem.W.fnOf "thing_of" "Desk.thing_of" (defArgs s_thing_of) (defBody s_thing_of) (defScope s_thing_of) .none kV27 dc27 pm27 an27 cd27 ct27), sl27⟩) (c27 : PySem.W.codeIn K cd27 "Desk.thing_of" = true) (k27 : PySem.W.keepIn K (.ref f27) = true) (n27 : PySem.W.isFn K (.ref f27) = true)
    (l28 : K.lookup f28 = some ⟨oc28, od28, .func (PySem.W.fnOf "standing" "Desk.standing" (defArgs s_standing) (defBody s_standing) (defScope s_standing) .none kV28 dc28 pm28 an28 cd28 ct28), sl28⟩) (c28 : PySem.W.codeIn K cd28 "Desk.standing" = true) (k28 : PySem.W.keepIn K (.ref f28) = true) (n28 : PySem.W.isFn K (.ref f28) = true)
    (l29 : K.lookup f29 = some ⟨oc29, od29, .func (PySem.W.fnOf "keep" "Desk.keep" (defArgs s_keep) (defBody s_keep) (defScope s_keep) .none kV29 dc29 pm29 an29 cd29 ct29), sl29⟩) (c29 : PySem.W.codeIn K cd29 "Desk.keep" = true) (k29 : PySem.W.keepIn K (.ref f29) = true) (n29 : PySem.W.isFn K (.ref f29) = true)
    (a30 : PySem.W.nsIn K mainGlobals "_law_cell" = some (some (.ref f30))) (l30 : K.lookup f30 = some ⟨oc30, od30, .func (PySem.W.fnOf "_law_cell" "_law_cell" (defArgs s__law_cell) (defBody s__law_cell) (defScope s__law_cell) .none kV30 dc30 pm30 an30 cd30 ct30), sl30⟩) (c30 : PySem.W.codeIn K cd30 "_law_cell" = true) (k30 : PySem.W.keepIn K (.ref f30) = true)
    (a31 : PySem.W.nsIn K mainGlobals "_law_prime" = some (some (.ref f31))) (l31 : K.lookup f31 = some ⟨oc31, od31, .func (PySem.W.fnOf "_law_prime" "_law_prime" (defArgs s__law_prime) (defBody s__law_prime) (defScope s__law_prime) .none kV31 dc31 pm31 an31 cd31 ct31), sl31⟩) (c31 : PySem.W.codeIn K cd31 "_law_prime" = true) (k31 : PySem.W.keepIn K (.ref f31) = true)
    (a32 : PySem.W.nsIn K mainGlobals "_law_times" = some (some (.ref f32))) (l32 : K.lookup f32 = some ⟨oc32, od32, .func (PySem.W.fnOf "_law_times" "_law_times" (defArgs s__law_times) (defBody s__law_times) (defScope s__law_times) .none kV32 dc32 pm32 an32 cd32 ct32), sl32⟩) (c32 : PySem.W.codeIn K cd32 "_law_times" = true) (k32 : PySem.W.keepIn K (.ref f32) = true)
    (a33 : PySem.W.nsIn K mainGlobals "_law_power" = some (some (.ref f33))) (l33 : K.lookup f33 = some ⟨oc33, od33, .func (PySem.W.fnOf "_law_power" "_law_power" (defArgs s__law_power) (defBody s__law_power) (defScope s__law_power) .none kV33 dc33 pm33 an33 cd33 ct33), sl33⟩) (c33 : PySem.W.codeIn K cd33 "_law_power" = true) (k33 : PySem.W.keepIn K (.ref f33) = true)
    (a34 : PySem.W.nsIn K mainGlobals "_law_rests" = some (some (.ref f34))) (l34 : K.lookup f34 = some ⟨oc34, od34, .func (PySem.W.fnOf "_law_rests" "_law_rests" (defArgs s__law_rests) (defBody s__law_rests) (defScope s__law_rests) .none kV34 dc34 pm34 an34 cd34 ct34), sl34⟩) (c34 : PySem.W.codeIn K cd34 "_law_rests" = true) (k34 : PySem.W.keepIn K (.ref f34) = true)
    (a35 : PySem.W.nsIn K mainGlobals "_law_built" = some (some (.ref f35))) (l35 : K.lookup f35 = some ⟨oc35, od35, .func (PySem.W.fnOf "_law_built" "_law_built" (defArgs s__law_built) (defBody s__law_built) (defScope s__law_built) .none kV35 dc35 pm35 an35 cd35 ct35), sl35⟩) (c35 : PySem.W.codeIn K cd35 "_law_built" = true) (k35 : PySem.W.keepIn K (.ref f35) = true)
    (a36 : PySem.W.nsIn K mainGlobals "_law_put_off" = some (some (.ref f36))) (l36 : K.lookup f36 = some ⟨oc36, od36, .func (PySem.W.fnOf "_law_put_off" "_law_put_off" (defArgs s__law_put_off) (defBody s__law_put_off) (defScope s__law_put_off) .none kV36 dc36 pm36 an36 cd36 ct36), sl36⟩) (c36 : PySem.W.codeIn K cd36 "_law_put_off" = true) (k36 : PySem.W.keepIn K (.ref f36) = true)
    (a37 : PySem.W.nsIn K mainGlobals "_law_shown" = some (some (.ref f37))) (l37 : K.lookup f37 = some ⟨oc37, od37, .func (PySem.W.fnOf "_law_shown" "_law_shown" (defArgs s__law_shown) (defBody s__law_shown) (defScope s__law_shown) .none kV37 dc37 pm37 an37 cd37 ct37), sl37⟩) (c37 : PySem.W.codeIn K cd37 "_law_shown" = true) (k37 : PySem.W.keepIn K (.ref f37) = true)
    (a38 : PySem.W.nsIn K mainGlobals "_law_told" = some (some (.ref f38))) (l38 : K.lookup f38 = some ⟨oc38, od38, .func (PySem.W.fnOf "_law_told" "_law_told" (defArgs s__law_told) (defBody s__law_told) (defScope s__law_told) .none kV38 dc38 pm38 an38 cd38 ct38), sl38⟩) (c38 : PySem.W.codeIn K cd38 "_law_told" = true) (k38 : PySem.W.keepIn K (.ref f38) = true)
    (a39 : PySem.W.nsIn K mainGlobals "law" = some (some (.ref f39))) (l39 : K.lookup f39 = some ⟨oc39, od39, .func (PySem.W.fnOf "law" "law" (defArgs s_law) (defBody s_law) (defScope s_law) .none kV39 dc39 pm39 an39 cd39 ct39), sl39⟩) (c39 : PySem.W.codeIn K cd39 "law" = true) (k39 : PySem.W.keepIn K (.ref f39) = true)
    (z_abs : PySem.W.nsIn K mainGlobals "abs" = some none) (z_all : PySem.W.nsIn K mainGlobals "all" = some none) (z_bool : PySem.W.nsIn K mainGlobals "bool" = some none) (z_enumerate : PySem.W.nsIn K mainGlobals "enumerate" = some none) (z_int : PySem.W.nsIn K mainGlobals "int" = some none) (z_isinstance : PySem.W.nsIn K mainGlobals "isinstance" = some none) (z_len : PySem.W.nsIn K mainGlobals "len" = some none) (z_list : PySem.W.nsIn K mainGlobals "list" = some none) (z_max : PySem.W.nsIn K mainGlobals "max" = some none) (z_min : PySem.W.nsIn K mainGlobals "min" = some none) (z_range : PySem.W.nsIn K mainGlobals "range" = some none) (z_reversed : PySem.W.nsIn K mainGlobals "reversed" = some none) (z_sorted : PySem.W.nsIn K mainGlobals "sorted" = some none) (z_str : PySem.W.nsIn K mainGlobals "str" = some none) (z_sum : PySem.W.nsIn K mainGlobals "sum" = some none) (z_zip : PySem.W.nsIn K mainGlobals "zip" = some none) {t_FIGURES : Tok} (z_FIGURES : PySem.W.nsIn K mainGlobals "FIGURES" = some (some (.str "0123456789" t_FIGURES))) {t_GREATEST_DEPTH : Tok} (z_GREATEST_DEPTH : PySem.W.nsIn K mainGlobals "GREATEST_DEPTH" = some (some (.int 60 t_GREATEST_DEPTH))) {t_GREATEST_PRIME : Tok} (z_GREATEST_PRIME : PySem.W.nsIn K mainGlobals "GREATEST_PRIME" = some (some (.int 97 t_GREATEST_PRIME))) {t_LETTERS : Tok} (z_LETTERS : PySem.W.nsIn K mainGlobals "LETTERS" = some (some (.str "abcdefghijklmnopqrstuvwxyz" t_LETTERS))) {t_MOST_FIGURES : Tok} (z_MOST_FIGURES : PySem.W.nsIn K mainGlobals "MOST_FIGURES" = some (some (.int 60 t_MOST_FIGURES))) {t_MOST_LETTERS : Tok} (z_MOST_LETTERS : PySem.W.nsIn K mainGlobals "MOST_LETTERS" = some (some (.int 8 t_MOST_LETTERS))) {t_MOST_NUMBERS : Tok} (z_MOST_NUMBERS : PySem.W.nsIn K mainGlobals "MOST_NUMBERS" = some (some (.int 13 t_MOST_NUMBERS))) (kd_WANTED : KDict K w 419 l_WANTED) (gd_WANTED : PySem.W.nsIn K mainGlobals "WANTED" = some (some (.ref 419))) (kd_MADE : KDict K w 546 l_MADE) (gd_MADE : PySem.W.nsIn K mainGlobals "MADE" = some (some (.ref 546))) (kd_TOLD : KDict K w 547 l_TOLD) (gd_TOLD : PySem.W.nsIn K mainGlobals "TOLD" = some (some (.ref 547))) (tu_420 : KTup K 420 [.str "new", .str "poly"]) (tu_434 : KTup K 434 [.str "name", .str "name", .str "name", .str "depth"]) (fa_made_poly : PySem.W.nsIn K mainGlobals "made_poly" = some (some (.ref 469))) (fa_told_parts : PySem.W.nsIn K mainGlobals "told_parts" = some (some (.ref 545))) {e_Desk : Addr} (z_Desk : PySem.W.nsIn K mainGlobals "Desk" = some (some (.ref e_Desk))) {e_NoDepth : Addr} (z_NoDepth : PySem.W.nsIn K mainGlobals "NoDepth" = some (some (.ref e_NoDepth))) {e_NoInverse : Addr} (z_NoInverse : PySem.W.nsIn K mainGlobals "NoInverse" = some (some (.ref e_NoInverse))) {e_NoName : Addr} (z_NoName : PySem.W.nsIn K mainGlobals "NoName" = some (some (.ref e_NoName))) {e_NoParts : Addr} (z_NoParts : PySem.W.nsIn K mainGlobals "NoParts" = some (some (.ref e_NoParts))) {e_NoPrime : Addr} (z_NoPrime : PySem.W.nsIn K mainGlobals "NoPrime" = some (some (.ref e_NoPrime))) {e_NoRow : Addr} (z_NoRow : PySem.W.nsIn K mainGlobals "NoRow" = some (some (.ref e_NoRow))) {e_NoSingle : Addr} (z_NoSingle : PySem.W.nsIn K mainGlobals "NoSingle" = some (some (.ref e_NoSingle))) {e_NoSmall : Addr} (z_NoSmall : PySem.W.nsIn K mainGlobals "NoSmall" = some (some (.ref e_NoSmall))) {e_NoText : Addr} (z_NoText : PySem.W.nsIn K mainGlobals "NoText" = some (some (.ref e_NoText))) {e_RestError : Addr} (z_RestError : PySem.W.nsIn K mainGlobals "RestError" = some (some (.ref e_RestError))) {e_TooDeep : Addr} (z_TooDeep : PySem.W.nsIn K mainGlobals "TooDeep" = some (some (.ref e_TooDeep))) {e_TooGreat : Addr} (z_TooGreat : PySem.W.nsIn K mainGlobals "TooGreat" = some (some (.ref e_TooGreat))) (x_NoParts : ExcK K e_NoParts) (m_NoParts_RestError : PySem.W.exmOne K (.ref e_NoParts) (.ref e_RestError) = some true) (f_NoParts : Xc.ExcC K e_NoParts) (i_NoParts_Desk : PySem.W.kitOne K (.ref e_NoParts) (.ref e_Desk) = some false) (i_NoParts_NoDepth : PySem.W.kitOne K (.ref e_NoParts) (.ref e_NoDepth) = some false) (i_NoParts_NoInverse : PySem.W.kitOne K (.ref e_NoParts) (.ref e_NoInverse) = some false) (i_NoParts_NoName : PySem.W.kitOne K (.ref e_NoParts) (.ref e_NoName) = some false) (i_NoParts_NoParts : PySem.W.kitOne K (.ref e_NoParts) (.ref e_NoParts) = some true) (i_NoParts_NoPrime : PySem.W.kitOne K (.ref e_NoParts) (.ref e_NoPrime) = some false) (i_NoParts_NoRow : PySem.W.kitOne K (.ref e_NoParts) (.ref e_NoRow) = some false) (i_NoParts_NoSingle : PySem.W.kitOne K (.ref e_NoParts) (.ref e_NoSingle) = some false) (i_NoParts_NoSmall : PySem.W.kitOne K (.ref e_NoParts) (.ref e_NoSmall) = some false) (i_NoParts_NoText : PySem.W.kitOne K (.ref e_NoParts) (.ref e_NoText) = some false) (i_NoParts_RestError : PySem.W.kitOne K (.ref e_NoParts) (.ref e_RestError) = some true) (i_NoParts_TooDeep : PySem.W.kitOne K (.ref e_NoParts) (.ref e_TooDeep) = some false) (i_NoParts_TooGreat : PySem.W.kitOne K (.ref e_NoParts) (.ref e_TooGreat) = some false) (cl_Desk : Cls K e_Desk) (mk_Desk : PySem.W.makesIn K e_Desk = true) (kc_Desk : PySem.W.keepIn K (.ref e_Desk) = true) (na_prime : NoAttr K e_Desk "prime") (na_kept : NoAttr K e_Desk "kept") (a25 : PySem.W.findIn K (.ref e_Desk) "__init__" = some (some (.ref f25))) (a26 : PySem.W.findIn K (.ref e_Desk) "say" = some (some (.ref f26))) (a27 : PySem.W.findIn K (.ref e_Desk) "thing_of" = some (some (.ref f27))) (a28 : PySem.W.findIn K (.ref e_Desk) "standing" = some (some (.ref f28))) (a29 : PySem.W.findIn K (.ref e_Desk) "keep" = some (some (.ref f29))) :
    ∃ fd : FuncData, (∀ (s : Shared) (v : Value), BindsTo s fd ⟨[v], []⟩ [("script", v)]) ∧ ∀ base : Heap, K.In base → base.Ns mainGlobals mg → FnOk P w K mg base CX0 9 fa fd ["script"] (spLaw K) := by
  have e := hfa.symm.trans (PySem.W.mg_of X G a39)
  cases e
  have F1 := fun_mk (st := s_is_prime) l1 c1 k1
  have b1 := F1.binds (ps := ["thing"]) fun _ _ _ _ _ _ us hl => by obtain ⟨_, rfl⟩ := us1 hl; rfl
  have F2 := fun_mk (st := s_power_of) l2 c2 k2
  have b2 := F2.binds (ps := ["p", "e"]) fun _ _ _ _ _ _ us hl => by obtain ⟨_, _, rfl⟩ := us2 hl; rfl
  have F3 := fun_mk (st := s_inverse_by_prime) l3 c3 k3
  have b3 := F3.binds (ps := ["p", "x"]) fun _ _ _ _ _ _ us hl => by obtain ⟨_, _, rfl⟩ := us2 hl; rfl
  have F4 := fun_mk (st := s_inverse_of) l4 c4 k4
  have b4 := F4.binds (ps := ["p", "e", "x"]) fun _ _ _ _ _ _ us hl => by obtain ⟨_, _, _, rfl⟩ := us3 hl; rfl
  have F5 := fun_mk (st := s_degree_of) l5 c5 k5
  have b5 := F5.binds (ps := ["f"]) fun _ _ _ _ _ _ us hl => by obtain ⟨_, rfl⟩ := us1 hl; rfl
  have F6 := fun_mk (st := s_poly_product) l6 c6 k6
  have b6 := F6.binds (ps := ["f", "g"]) fun _ _ _ _ _ _ us hl => by obtain ⟨_, _, rfl⟩ := us2 hl; rfl
  have F7 := fun_mk (st := s_rests_of) l7 c7 k7
  have b7 := F7.binds (ps := ["p", "f"]) fun _ _ _ _ _ _ us hl => by obtain ⟨_, _, rfl⟩ := us2 hl; rfl
  have F8 := fun_mk (st := s_poly_difference) l8 c8 k8
  have b8 := F8.binds (ps := ["f", "g"]) fun _ _ _ _ _ _ us hl => by obtain ⟨_, _, rfl⟩ := us2 hl; rfl
  have F9 := fun_mk (st := s_divided_by_prime) l9 c9 k9
  have b9 := F9.binds (ps := ["p", "f", "g"]) fun _ _ _ _ _ _ us hl => by obtain ⟨_, _, _, rfl⟩ := us3 hl; rfl
  have F10 := fun_mk (st := s_inverse_beside) l10 c10 k10
  have b10 := F10.binds (ps := ["p", "h", "g"]) fun _ _ _ _ _ _ us hl => by obtain ⟨_, _, _, rfl⟩ := us3 hl; rfl
  have F11 := fun_mk (st := s_may_part) l11 c11 k11
  have b11 := F11.binds (ps := ["p", "N", "f", "g", "h"]) fun _ _ _ _ _ _ us hl => by obtain ⟨_, _, _, _, _, rfl⟩ := us5 hl; rfl
  have F12 := fun_mk (st := s_raised) l12 c12 k12
  have b12 := F12.binds (ps := ["f", "power", "more"]) fun _ _ _ _ _ _ us hl => by obtain ⟨_, _, _, rfl⟩ := us3 hl; rfl
  have F13 := fun_mk (st := s_parts_at) l13 c13 k13
  have b13 := F13.binds (ps := ["p", "N", "f", "g", "h"]) fun _ _ _ _ _ _ us hl => by obtain ⟨_, _, _, _, _, rfl⟩ := us5 hl; rfl
  have F14 := fun_mk (st := s_is_made_of) l14 c14 k14
  have b14 := F14.binds (ps := ["text", "signs"]) fun _ _ _ _ _ _ us hl => by obtain ⟨_, _, rfl⟩ := us2 hl; rfl
  have F15 := fun_mk (st := s_is_written_number) l15 c15 k15
  have b15 := F15.binds (ps := ["text"]) fun _ _ _ _ _ _ us hl => by obtain ⟨_, rfl⟩ := us1 hl; rfl
  have F16 := fun_mk (st := s_can_be_written) l16 c16 k16
  have b16 := F16.binds (ps := ["number"]) fun _ _ _ _ _ _ us hl => by obtain ⟨_, rfl⟩ := us1 hl; rfl
  have F17 := fun_mk (st := s_read_number) l17 c17 k17
  have b17 := F17.binds (ps := ["text"]) fun _ _ _ _ _ _ us hl => by obtain ⟨_, rfl⟩ := us1 hl; rfl
  have F18 := fun_mk (st := s_read_poly) l18 c18 k18
  have b18 := F18.binds (ps := ["text"]) fun _ _ _ _ _ _ us hl => by obtain ⟨_, rfl⟩ := us1 hl; rfl
  have F19 := fun_mk (st := s_show_poly) l19 c19 k19
  have b19 := F19.binds (ps := ["f"]) fun _ _ _ _ _ _ us hl => by obtain ⟨_, rfl⟩ := us1 hl; rfl
  have F20 := fun_mk (st := s_words_of) l20 c20 k20
  have b20 := F20.binds (ps := ["row"]) fun _ _ _ _ _ _ us hl => by obtain ⟨_, rfl⟩ := us1 hl; rfl
  have F21 := fun_mk (st := s_read_name) l21 c21 k21
  have b21 := F21.binds (ps := ["word"]) fun _ _ _ _ _ _ us hl => by obtain ⟨_, rfl⟩ := us1 hl; rfl
  have F22 := fun_mk (st := s_read_depth) l22 c22 k22
  have b22 := F22.binds (ps := ["word"]) fun _ _ _ _ _ _ us hl => by obtain ⟨_, rfl⟩ := us1 hl; rfl
  have F23 := fun_mk (st := s_made_poly) l23 c23 k23
  have b23 := F23.binds (ps := ["p", "things"]) fun _ _ _ _ _ _ us hl => by obtain ⟨_, _, rfl⟩ := us2 hl; rfl
  have F24 := fun_mk (st := s_told_parts) l24 c24 k24
  have b24 := F24.binds (ps := ["p", "things"]) fun _ _ _ _ _ _ us hl => by obtain ⟨_, _, rfl⟩ := us2 hl; rfl
  have F25 := fun_mk (st := s___init__) l25 c25 k25
  have b25 := F25.binds (ps := ["self", "p"]) fun _ _ _ _ _ _ us hl => by obtain ⟨_, _, rfl⟩ := us2 hl; rfl
  have F26 := fun_mk (st := s_say) l26 c26 k26
  have b26 := F26.binds (ps := ["self", "row"]) fun _ _ _ _ _ _ us hl => by obtain ⟨_, _, rfl⟩ := us2 hl; rfl
  have F27 := fun_mk (st := s_thing_of) l27 c27 k27
  have b27 := F27.binds (ps := ["self", "wanted", "word"]) fun _ _ _ _ _ _ us hl => by obtain ⟨_, _, _, rfl⟩ := us3 hl; rfl
  have F28 := fun_mk (st := s_standing) l28 c28 k28
  have b28 := F28.binds (ps := ["self", "name"]) fun _ _ _ _ _ _ us hl => by obtain ⟨_, _, rfl⟩ := us2 hl; rfl
  have F29 := fun_mk (st := s_keep) l29 c29 k29
  have b29 := F29.binds (ps := ["self", "name", "polynomial"]) fun _ _ _ _ _ _ us hl => by obtain ⟨_, _, _, rfl⟩ := us3 hl; rfl
  have F30 := fun_mk (st := s__law_cell) l30 c30 k30
  have b30 := F30.binds (ps := ["script", "k"]) fun _ _ _ _ _ _ us hl => by obtain ⟨_, _, rfl⟩ := us2 hl; rfl
  have F31 := fun_mk (st := s__law_prime) l31 c31 k31
  have b31 := F31.binds (ps := ["cell"]) fun _ _ _ _ _ _ us hl => by obtain ⟨_, rfl⟩ := us1 hl; rfl
  have F32 := fun_mk (st := s__law_times) l32 c32 k32
  have b32 := F32.binds (ps := ["f", "g"]) fun _ _ _ _ _ _ us hl => by obtain ⟨_, _, rfl⟩ := us2 hl; rfl
  have F33 := fun_mk (st := s__law_power) l33 c33 k33
  have b33 := F33.binds (ps := ["p", "e"]) fun _ _ _ _ _ _ us hl => by obtain ⟨_, _, rfl⟩ := us2 hl; rfl
  have F34 := fun_mk (st := s__law_rests) l34 c34 k34
  have b34 := F34.binds (ps := ["p", "script"]) fun _ _ _ _ _ _ us hl => by obtain ⟨_, _, rfl⟩ := us2 hl; rfl
  have F35 := fun_mk (st := s__law_built) l35 c35 k35
  have b35 := F35.binds (ps := ["some"]) fun _ _ _ _ _ _ us hl => by obtain ⟨_, rfl⟩ := us1 hl; rfl
  have F36 := fun_mk (st := s__law_put_off) l36 c36 k36
  have b36 := F36.binds (ps := ["f", "cell", "whole"]) fun _ _ _ _ _ _ us hl => by obtain ⟨_, _, _, rfl⟩ := us3 hl; rfl
  have F37 := fun_mk (st := s__law_shown) l37 c37 k37
  have b37 := F37.binds (ps := ["f"]) fun _ _ _ _ _ _ us hl => by obtain ⟨_, rfl⟩ := us1 hl; rfl
  have F38 := fun_mk (st := s__law_told) l38 c38 k38
  have b38 := F38.binds (ps := ["desk", "row"]) fun _ _ _ _ _ _ us hl => by obtain ⟨_, _, rfl⟩ := us2 hl; rfl
  have F39 := fun_mk (st := s_law) l39 c39 k39
  have k_Desk : clK K "Desk" = e_Desk := clK_of z_Desk
  have k_NoDepth : clK K "NoDepth" = e_NoDepth := clK_of z_NoDepth
  have k_NoInverse : clK K "NoInverse" = e_NoInverse := clK_of z_NoInverse
  have k_NoName : clK K "NoName" = e_NoName := clK_of z_NoName
  have k_NoParts : clK K "NoParts" = e_NoParts := clK_of z_NoParts
  have k_NoPrime : clK K "NoPrime" = e_NoPrime := clK_of z_NoPrime
  have k_NoRow : clK K "NoRow" = e_NoRow := clK_of z_NoRow
  have k_NoSingle : clK K "NoSingle" = e_NoSingle := clK_of z_NoSingle
  have k_NoSmall : clK K "NoSmall" = e_NoSmall := clK_of z_NoSmall
  have k_NoText : clK K "NoText" = e_NoText := clK_of z_NoText
  have k_RestError : clK K "RestError" = e_RestError := clK_of z_RestError
  have k_TooDeep : clK K "TooDeep" = e_TooDeep := clK_of z_TooDeep
  have k_TooGreat : clK K "TooGreat" = e_TooGreat := clK_of z_TooGreat
  have B : Bi mg K w := ⟨kd_WANTED, PySem.W.mg_of X G gd_WANTED, kd_MADE, PySem.W.mg_of X G gd_MADE, kd_TOLD, PySem.W.mg_of X G gd_TOLD, tu_420, tu_434, PySem.W.mg_of X G fa_made_poly, PySem.W.mg_of X G fa_told_parts, (by rw [k_Desk]; exact cl_Desk), (by rw [k_Desk]; exact na_prime), (by rw [k_Desk]; exact na_kept), PySem.W.mg_none_of X G z_abs, PySem.W.mg_none_of X G z_all, PySem.W.mg_none_of X G z_bool, PySem.W.mg_none_of X G z_enumerate, PySem.W.mg_none_of X G z_int, PySem.W.mg_none_of X G z_isinstance, PySem.W.mg_none_of X G z_len, PySem.W.mg_none_of X G z_list, PySem.W.mg_none_of X G z_max, PySem.W.mg_none_of X G z_min, PySem.W.mg_none_of X G z_range, PySem.W.mg_none_of X G z_reversed, PySem.W.mg_none_of X G z_sorted, PySem.W.mg_none_of X G z_str, PySem.W.mg_none_of X G z_sum, PySem.W.mg_none_of X G z_zip, ⟨_, PySem.W.mg_of X G z_FIGURES⟩, ⟨_, PySem.W.mg_of X G z_GREATEST_DEPTH⟩, ⟨_, PySem.W.mg_of X G z_GREATEST_PRIME⟩, ⟨_, PySem.W.mg_of X G z_LETTERS⟩, ⟨_, PySem.W.mg_of X G z_MOST_FIGURES⟩, ⟨_, PySem.W.mg_of X G z_MOST_LETTERS⟩, ⟨_, PySem.W.mg_of X G z_MOST_NUMBERS⟩, (by rw [k_Desk]; exact PySem.W.mg_of X G z_Desk), (by rw [k_NoDepth]; exact PySem.W.mg_of X G z_NoDepth), (by rw [k_NoInverse]; exact PySem.W.mg_of X G z_NoInverse), (by rw [k_NoName]; exact PySem.W.mg_of X G z_NoName), (by rw [k_NoParts]; exact PySem.W.mg_of X G z_NoParts), (by rw [k_NoPrime]; exact PySem.W.mg_of X G z_NoPrime), (by rw [k_NoRow]; exact PySem.W.mg_of X G z_NoRow), (by rw [k_NoSingle]; exact PySem.W.mg_of X G z_NoSingle), (by rw [k_NoSmall]; exact PySem.W.mg_of X G z_NoSmall), (by rw [k_NoText]; exact PySem.W.mg_of X G z_NoText), (by rw [k_RestError]; exact PySem.W.mg_of X G z_RestError), (by rw [k_TooDeep]; exact PySem.W.mg_of X G z_TooDeep), (by rw [k_TooGreat]; exact PySem.W.mg_of X G z_TooGreat), (by rw [k_NoParts]; exact x_NoParts), (by simp only [k_NoParts, k_RestError]; exact m_NoParts_RestError), (by rw [k_NoParts]; exact f_NoParts), (by simp only [k_NoParts, k_Desk]; exact i_NoParts_Desk), (by simp only [k_NoParts, k_NoDepth]; exact i_NoParts_NoDepth), (by simp only [k_NoParts, k_NoInverse]; exact i_NoParts_NoInverse), (by simp only [k_NoParts, k_NoName]; exact i_NoParts_NoName), (by simp only [k_NoParts]; exact i_NoParts_NoParts), (by simp only [k_NoParts, k_NoPrime]; exact i_NoParts_NoPrime), (by simp only [k_NoParts, k_NoRow]; exact i_NoParts_NoRow), (by simp only [k_NoParts, k_NoSingle]; exact i_NoParts_NoSingle), (by simp only [k_NoParts, k_NoSmall]; exact i_NoParts_NoSmall), (by simp only [k_NoParts, k_NoText]; exact i_NoParts_NoText), (by simp only [k_NoParts, k_RestError]; exact i_NoParts_RestError), (by simp only [k_NoParts, k_TooDeep]; exact i_NoParts_TooDeep), (by simp only [k_NoParts, k_TooGreat]; exact i_NoParts_TooGreat)⟩
  refine ⟨PySem.W.fnOf "law" "law" (defArgs s_law) (defBody s_law) (defScope s_law) .none kV39 dc39 pm39 an39 cd39 ct39, fun s v => .of_eq rfl, fun base _ _ => ?_⟩
  have D_is_prime := def_mk (P := P) (w := w) (base := base) F1 (ok_is_prime B  F1) b1 (PySem.W.mg_of X G a1)
  have D_power_of := def_mk (P := P) (w := w) (base := base) F2 (ok_power_of B  F2) b2 (PySem.W.mg_of X G a2)
  have D_inverse_by_prime := def_mk (P := P) (w := w) (base := base) F3 (ok_inverse_by_prime B  F3) b3 (PySem.W.mg_of X G a3)
  have D_degree_of := def_mk (P := P) (w := w) (base := base) F5 (ok_degree_of B  F5) b5 (PySem.W.mg_of X G a5)
  have D_poly_product := def_mk (P := P) (w := w) (base := base) F6 (ok_poly_product B  F6) b6 (PySem.W.mg_of X G a6)
  have D_rests_of := def_mk (P := P) (w := w) (base := base) F7 (ok_rests_of B  F7) b7 (PySem.W.mg_of X G a7)
  have D_poly_difference := def_mk (P := P) (w := w) (base := base) F8 (ok_poly_difference B  F8) b8 (PySem.W.mg_of X G a8)
  have D_raised := def_mk (P := P) (w := w) (base := base) F12 (ok_raised B  F12) b12 (PySem.W.mg_of X G a12)
  have D_is_made_of := def_mk (P := P) (w := w) (base := base) F14 (ok_is_made_of B  F14) b14 (PySem.W.mg_of X G a14)
  have D_show_poly := def_mk (P := P) (w := w) (base := base) F19 (ok_show_poly B  F19) b19 (PySem.W.mg_of X G a19)
  have D_words_of := def_mk (P := P) (w := w) (base := base) F20 (ok_words_of B  F20) b20 (PySem.W.mg_of X G a20)
  have D_made_poly := def_mk (P := P) (w := w) (base := base) F23 (ok_made_poly B  F23) b23 (PySem.W.mg_of X G a23)
  have D_standing : Met P w K mg base CX0 (clK K "Desk") "standing" 1 ["self", "name"] (sp_standing K) := ⟨⟨f28, _, ok_standing B  F28, b28, (by rw [k_Desk]; exact ⟨a28, n28, k28⟩)⟩⟩
  have D__law_cell := def_mk (P := P) (w := w) (base := base) F30 (ok__law_cell B  F30) b30 (PySem.W.mg_of X G a30)
  have D__law_prime := def_mk (P := P) (w := w) (base := base) F31 (ok__law_prime B  F31) b31 (PySem.W.mg_of X G a31)
  have D__law_times := def_mk (P := P) (w := w) (base := base) F32 (ok__law_times B  F32) b32 (PySem.W.mg_of X G a32)
  have D__law_power := def_mk (P := P) (w := w) (base := base) F33 (ok__law_power B  F33) b33 (PySem.W.mg_of X G a33)
  have D__law_put_off := def_mk (P := P) (w := w) (base := base) F36 (ok__law_put_off B  F36) b36 (PySem.W.mg_of X G a36)
  have D__law_shown := def_mk (P := P) (w := w) (base := base) F37 (ok__law_shown B  F37) b37 (PySem.W.mg_of X G a37)
  have T_MADE : TabOk P w K mg base CX0 1 (Tab_MADE K) := tab_one B.fa_made_poly D_made_poly.ex
  have D_inverse_of := def_mk (P := P) (w := w) (base := base) F4 (ok_inverse_of B D_power_of D_inverse_by_prime F4) b4 (PySem.W.mg_of X G a4)
  have D_may_part := def_mk (P := P) (w := w) (base := base) F11 (ok_may_part B D_degree_of D_poly_product D_rests_of D_poly_difference F11) b11 (PySem.W.mg_of X G a11)
  have D_is_written_number := def_mk (P := P) (w := w) (base := base) F15 (ok_is_written_number B D_is_made_of F15) b15 (PySem.W.mg_of X G a15)
  have D_can_be_written := def_mk (P := P) (w := w) (base := base) F16 (ok_can_be_written B D_power_of F16) b16 (PySem.W.mg_of X G a16)
  have D_read_name := def_mk (P := P) (w := w) (base := base) F21 (ok_read_name B D_is_made_of F21) b21 (PySem.W.mg_of X G a21)
  have D___init__ : MkD P w K mg base (clK K "Desk") 2 ["self", "p"] (sp___init__ K) := ⟨⟨f25, _, ok___init__ B D_is_prime F25, b25, (by rw [k_Desk]; exact ⟨mk_Desk, a25, n25, kc_Desk⟩)⟩⟩
  have D__law_rests := def_mk (P := P) (w := w) (base := base) F34 (ok__law_rests B D__law_cell F34) b34 (PySem.W.mg_of X G a34)
  have D__law_built := def_mk (P := P) (w := w) (base := base) F35 (ok__law_built B D__law_times F35) b35 (PySem.W.mg_of X G a35)
  have D_divided_by_prime := def_mk (P := P) (w := w) (base := base) F9 (ok_divided_by_prime B D_inverse_of D_degree_of D_rests_of F9) b9 (PySem.W.mg_of X G a9)
  have D_read_number := def_mk (P := P) (w := w) (base := base) F17 (ok_read_number B D_is_written_number F17) b17 (PySem.W.mg_of X G a17)
  have D_keep : Met P w K mg base CX0 (clK K "Desk") "keep" 3 ["self", "name", "polynomial"] (sp_keep K) := ⟨⟨f29, _, ok_keep B D_can_be_written F29, b29, (by rw [k_Desk]; exact ⟨a29, n29, k29⟩)⟩⟩
  have D_inverse_beside := def_mk (P := P) (w := w) (base := base) F10 (ok_inverse_beside B D_inverse_of D_degree_of D_poly_product D_rests_of D_poly_difference D_divided_by_prime F10) b10 (PySem.W.mg_of X G a10)
  have D_read_poly := def_mk (P := P) (w := w) (base := base) F18 (ok_read_poly B D_read_number F18) b18 (PySem.W.mg_of X G a18)
  have D_read_depth := def_mk (P := P) (w := w) (base := base) F22 (ok_read_depth B D_read_number F22) b22 (PySem.W.mg_of X G a22)
  have D_parts_at := defE_mk (P := P) (w := w) (base := base) F13 (ok_parts_at B D_poly_product D_rests_of D_poly_difference D_divided_by_prime D_inverse_beside D_may_part D_raised F13) b13 (PySem.W.mg_of X G a13)
  have D_thing_of : Met P w K mg base CX0 (clK K "Desk") "thing_of" 5 ["self", "wanted", "word"] (sp_thing_of K) := ⟨⟨f27, _, ok_thing_of B D_read_number D_read_poly D_read_name D_read_depth D_standing F27, b27, (by rw [k_Desk]; exact ⟨a27, n27, k27⟩)⟩⟩
  have D_told_parts := defE_mk (P := P) (w := w) (base := base) F24 (ok_told_parts B D_parts_at D_show_poly F24) b24 (PySem.W.mg_of X G a24)
  have T_TOLD : TabOk P w K mg base (CXE P w) 6 (Tab_TOLD K) := tab_one B.fa_told_parts D_told_parts.ex
  have D_say : Met P w K mg base (CXE P w) (clK K "Desk") "say" 7 ["self", "row"] (sp_say K) := ⟨⟨f26, _, ok_say B T_TOLD T_MADE D_words_of D_thing_of D_keep F26, b26, (by rw [k_Desk]; exact ⟨a26, n26, k26⟩)⟩⟩
  have D__law_told := def_mk (P := P) (w := w) (base := base) F38 (ok__law_told B D_say F38) b38 (PySem.W.mg_of X G a38)
  exact ok_law B D___init__ D_say D__law_cell D__law_prime D__law_times D__law_power D__law_rests D__law_built D__law_put_off D__law_shown D__law_told F39
end
end K93
theorem PySem.W.Fast.tw11605148686652803104 : True := .intro
theorem PySem.W.Fast.tw10930585534288850976 : True := .intro
theorem PySem.W.Fast.tw14144642053480809536 : True := .intro
theorem PySem.W.Fast.tw17539596626133914784 : True := .intro
theorem PySem.W.Fast.tw1272825239445485728 : True := .intro
theorem PySem.W.Fast.tw13104416572416312480 : True := .intro
theorem PySem.W.Fast.tw15535886507068834080 : True := .intro
theorem PySem.W.Fast.tw10906189105274762592 : True := .intro
theorem PySem.W.Fast.tw4347385098743231840 : True := .intro
theorem PySem.W.Fast.tw3926242291974527328 : True := .intro
theorem PySem.W.Fast.tw15584704733572846080 : True := .intro
theorem PySem.W.Fast.tw16560928221220120128 : True := .intro
theorem PySem.W.Fast.tw6353602831547026048 : True := .intro
theorem PySem.W.Fast.tw9667088112811812512 : True := .intro
theorem PySem.W.Fast.tw16653632271824693952 : True := .intro
theorem PySem.W.Fast.tw7610626493503198944 : True := .intro
theorem PySem.W.Fast.tw7930160786124975840 : True := .intro
theorem PySem.W.Fast.tw806508640455812864 : True := .intro
theorem PySem.W.Fast.tw7467149652347431680 : True := .intro
theorem PySem.W.Fast.tw17750674548497626880 : True := .intro
theorem PySem.W.Fast.tw17210623672301960992 : True := .intro
theorem PySem.W.Fast.tw8248485695734981504 : True := .intro
theorem PySem.W.Fast.tw16127611279256711104 : True := .intro
theorem PySem.W.Fast.tw10512382908078633920 : True := .intro
theorem PySem.W.Fast.tw11771301629598456768 : True := .intro
theorem PySem.W.Fast.tw11972894597404949472 : True := .intro
theorem PySem.W.Fast.tw7668569293091711105 : True := .intro
theorem PySem.W.Fast.tw12539078726686846113 : True := .intro
theorem PySem.W.Fast.tw3802098662157788385 : True := .intro
theorem PySem.W.Fast.tw14105620904845488353 : True := .intro
theorem PySem.W.Fast.tw17704865651248676481 : True := .intro
theorem PySem.W.Fast.tw7340342248517228193 : True := .intro
theorem PySem.W.Fast.tw6164830899741628097 : True := .intro
theorem PySem.W.Fast.tw2413165241446357793 : True := .intro
theorem PySem.W.Fast.tw5407145613819249505 : True := .intro
theorem PySem.W.Fast.tw5086393632849387489 : True := .intro
theorem PySem.W.Fast.tw12726753784606041057 : True := .intro
theorem PySem.W.Fast.tw3989197937551083522 : True := .intro
theorem PySem.W.Fast.tw16980035732198210562 : True := .intro
theorem PySem.W.Fast.tw13254169508988802242 : True := .intro
theorem PySem.W.Fast.tw12706338626576442594 : True := .intro
theorem PySem.W.Fast.tw1081302203741938050 : True := .intro
theorem PySem.W.Fast.tw5208236267387467138 : True := .intro
theorem PySem.W.Fast.tw8802189295697846658 : True := .intro
theorem PySem.W.Fast.tw3001987541382934946 : True := .intro
theorem PySem.W.Fast.tw6062561811848477090 : True := .intro
theorem PySem.W.Fast.tw6135645521234019778 : True := .intro
theorem PySem.W.Fast.tw8741097874262341090 : True := .intro
theorem PySem.W.Fast.tw17164702716932917762 : True := .intro
theorem PySem.W.Fast.tw3418726854711198338 : True := .intro
theorem PySem.W.Fast.tw1257921851700536962 : True := .intro
theorem PySem.W.Fast.tw7800447910979367554 : True := .intro
theorem PySem.W.Fast.tw13460855662753373954 : True := .intro
theorem PySem.W.Fast.tw7613951468155303746 : True := .intro
theorem PySem.W.Fast.tw6377605998095258498 : True := .intro
theorem PySem.W.Fast.tw9206538272815309762 : True := .intro
theorem PySem.W.Fast.tw3444172289199848418 : True := .intro
theorem PySem.W.Fast.tw5334584376464605154 : True := .intro
theorem PySem.W.Fast.tw17605474282917559266 : True := .intro
theorem PySem.W.Fast.tw537132763406626883 : True := .intro
theorem PySem.W.Fast.tw13124326326681338051 : True := .intro
theorem PySem.W.Fast.tw13386849378319698147 : True := .intro
theorem PySem.W.Fast.tw2161893663178713347 : True := .intro
theorem PySem.W.Fast.tw8896421727603231011 : True := .intro
theorem PySem.W.Fast.tw12335339485072925027 : True := .intro
theorem PySem.W.Fast.tw4897546816450209123 : True := .intro
theorem PySem.W.Fast.tw6012429769336916355 : True := .intro
theorem PySem.W.Fast.tw13865829818527347107 : True := .intro
theorem PySem.W.Fast.tw4255885225484630499 : True := .intro
theorem PySem.W.Fast.tw4493662812081748483 : True := .intro
theorem PySem.W.Fast.tw1090130207830336067 : True := .intro
theorem PySem.W.Fast.tw8730966852919821923 : True := .intro
theorem PySem.W.Fast.tw7223177178775389795 : True := .intro
theorem PySem.W.Fast.tw16996828798011092611 : True := .intro
theorem PySem.W.Fast.tw16165952183671059075 : True := .intro
theorem PySem.W.Fast.tw18399515698465044163 : True := .intro
theorem PySem.W.Fast.tw3348628646274550563 : True := .intro
theorem PySem.W.Fast.tw15907248809667816291 : True := .intro
theorem PySem.W.Fast.tw4958559344487264099 : True := .intro
theorem PySem.W.Fast.tw3917091039379186627 : True := .intro
theorem PySem.W.Fast.tw9937612038585781284 : True := .intro
theorem PySem.W.Fast.tw14478722831705701444 : True := .intro
theorem PySem.W.Fast.tw4415990234260026500 : True := .intro
theorem PySem.W.Fast.tw68815766205490340 : True := .intro
theorem PySem.W.Fast.tw7108789090215265476 : True := .intro
theorem PySem.W.Fast.tw5207356595643076996 : True := .intro
theorem PySem.W.Fast.tw15439613915818285444 : True := .intro
theorem PySem.W.Fast.tw14491994632191073668 : True := .intro
theorem PySem.W.Fast.tw5830238647437745540 : True := .intro
theorem PySem.W.Fast.tw6135047005617880452 : True := .intro
theorem PySem.W.Fast.tw12598487026759986596 : True := .intro
theorem PySem.W.Fast.tw5828113391395689988 : True := .intro
theorem PySem.W.Fast.tw7110947583426079268 : True := .intro
theorem PySem.W.Fast.tw13289503837088499268 : True := .intro
theorem PySem.W.Fast.tw8054338886957146756 : True := .intro
theorem PySem.W.Fast.tw2774535175999468164 : True := .intro
theorem PySem.W.Fast.tw13220744795497716452 : True := .intro
theorem PySem.W.Fast.tw13440650168607149828 : True := .intro
theorem PySem.W.Fast.tw1825370624012857156 : True := .intro
theorem PySem.W.Fast.tw4700107239815404420 : True := .intro
theorem PySem.W.Fast.tw8484974434659021700 : True := .intro
theorem PySem.W.Fast.tw15652640576687168517 : True := .intro
theorem PySem.W.Fast.tw2520514428601531397 : True := .intro
theorem PySem.W.Fast.tw11297441621353427013 : True := .intro
theorem PySem.W.Fast.tw13435238828327503973 : True := .intro
theorem PySem.W.Fast.tw12068016538305125477 : True := .intro
theorem PySem.W.Fast.tw6200878895296939205 : True := .intro
theorem PySem.W.Fast.tw6170577841632115941 : True := .intro
theorem PySem.W.Fast.tw115739311832764645 : True := .intro
theorem PySem.W.Fast.tw6354760660201998597 : True := .intro
theorem PySem.W.Fast.tw16911013666377811269 : True := .intro
theorem PySem.W.Fast.tw7820372419396819269 : True := .intro
theorem PySem.W.Fast.tw13508577918346255685 : True := .intro
theorem PySem.W.Fast.tw6796320055783120197 : True := .intro
theorem PySem.W.Fast.tw12299064051412173157 : True := .intro
theorem PySem.W.Fast.tw5505842907026312549 : True := .intro
theorem PySem.W.Fast.tw4637392613933995365 : True := .intro
theorem PySem.W.Fast.tw1748667549076713861 : True := .intro
theorem PySem.W.Fast.tw10214813471509095813 : True := .intro
theorem PySem.W.Fast.tw15965793128143973829 : True := .intro
theorem PySem.W.Fast.tw9729886250630886885 : True := .intro
theorem PySem.W.Fast.tw17127436810299652581 : True := .intro
theorem PySem.W.Fast.tw18072973042155503173 : True := .intro
theorem PySem.W.Fast.tw8815338180219234917 : True := .intro
theorem PySem.W.Fast.tw10884470464903466661 : True := .intro
theorem PySem.W.Fast.tw3165131956915082021 : True := .intro
theorem PySem.W.Fast.tw9593807587899924261 : True := .intro
theorem PySem.W.Fast.tw516257709938373413 : True := .intro
theorem PySem.W.Fast.tw12050409090489119557 : True := .intro
theorem PySem.W.Fast.tw4888239804485399429 : True := .intro
theorem PySem.W.Fast.tw483168539905651621 : True := .intro
theorem PySem.W.Fast.tw12916007675183262693 : True := .intro
theorem PySem.W.Fast.tw14978689590711994566 : True := .intro
theorem PySem.W.Fast.tw8695804606322250982 : True := .intro
theorem PySem.W.Fast.tw4169876889263906022 : True := .intro
theorem PySem.W.Fast.tw10822180918611586278 : True := .intro
theorem PySem.W.Fast.tw6630688061950449958 : True := .intro
theorem PySem.W.Fast.tw6739073945988164998 : True := .intro
theorem PySem.W.Fast.tw6372280083363883494 : True := .intro
theorem PySem.W.Fast.tw15344843772330152454 : True := .intro
theorem PySem.W.Fast.tw10289362923393523238 : True := .intro
theorem PySem.W.Fast.tw1613143301777708614 : True := .intro
theorem PySem.W.Fast.tw11128653699308838566 : True := .intro
theorem PySem.W.Fast.tw6192235397682365094 : True := .intro
theorem PySem.W.Fast.tw3607670478056339174 : True := .intro
theorem PySem.W.Fast.tw7139766471648525062 : True := .intro
theorem PySem.W.Fast.tw2314449678838329094 : True := .intro
theorem PySem.W.Fast.tw6134832787893691174 : True := .intro
theorem PySem.W.Fast.tw1707007543415775046 : True := .intro
theorem PySem.W.Fast.tw2874317297538024262 : True := .intro
theorem PySem.W.Fast.tw17848622349322728294 : True := .intro
theorem PySem.W.Fast.tw12590788935897447334 : True := .intro
theorem PySem.W.Fast.tw16634057381337526214 : True := .intro
theorem PySem.W.Fast.tw3217441882706460711 : True := .intro
theorem PySem.W.Fast.tw2243049470897811495 : True := .intro
theorem PySem.W.Fast.tw18177074654900855879 : True := .intro
theorem PySem.W.Fast.tw13963292862138247239 : True := .intro
theorem PySem.W.Fast.tw2809267388379955335 : True := .intro
theorem PySem.W.Fast.tw2067819165467193511 : True := .intro
theorem PySem.W.Fast.tw56316294265679047 : True := .intro
theorem PySem.W.Fast.tw15173167881932230887 : True := .intro
theorem PySem.W.Fast.tw18118766682111778055 : True := .intro
theorem PySem.W.Fast.tw16135913419629972775 : True := .intro
theorem PySem.W.Fast.tw482164158502817063 : True := .intro
theorem PySem.W.Fast.tw17259878340687589735 : True := .intro
theorem PySem.W.Fast.tw16909563867067765191 : True := .intro
theorem PySem.W.Fast.tw5349918155862010343 : True := .intro
theorem PySem.W.Fast.tw8548357913592645127 : True := .intro
theorem PySem.W.Fast.tw14863883151982019079 : True := .intro
theorem PySem.W.Fast.tw9938358671648252551 : True := .intro
theorem PySem.W.Fast.tw8531650499894554279 : True := .intro
theorem PySem.W.Fast.tw4647805978207957735 : True := .intro
theorem PySem.W.Fast.tw17036899560049194823 : True := .intro
theorem PySem.W.Fast.tw13837775629987120007 : True := .intro
theorem PySem.W.Fast.tw16026136858176820135 : True := .intro
theorem PySem.W.Fast.tw7579839526178697159 : True := .intro
theorem PySem.W.Fast.tw17931577381469641832 : True := .intro
theorem PySem.W.Fast.tw3269549657136068776 : True := .intro
theorem PySem.W.Fast.tw3209458935704044712 : True := .intro
theorem PySem.W.Fast.tw9616916355582335176 : True := .intro
theorem PySem.W.Fast.tw11525904778914634984 : True := .intro
theorem PySem.W.Fast.tw1886688724938172680 : True := .intro
theorem PySem.W.Fast.tw4392461736669358504 : True := .intro
theorem PySem.W.Fast.tw2738817277004752360 : True := .intro
theorem PySem.W.Fast.tw2186189403194089960 : True := .intro
theorem PySem.W.Fast.tw1224275693061340680 : True := .intro
theorem PySem.W.Fast.tw16118340164780560968 : True := .intro
theorem PySem.W.Fast.tw7182885119160255144 : True := .intro
theorem PySem.W.Fast.tw11236852948191530728 : True := .intro
theorem PySem.W.Fast.tw17433327140552561416 : True := .intro
theorem PySem.W.Fast.tw10288813856951176008 : True := .intro
theorem PySem.W.Fast.tw9099060427662186408 : True := .intro
theorem PySem.W.Fast.tw17972678931647063016 : True := .intro
theorem PySem.W.Fast.tw14517020159618208777 : True := .intro
theorem PySem.W.Fast.tw14393980708058778665 : True := .intro
theorem PySem.W.Fast.tw12461238450410582121 : True := .intro
theorem PySem.W.Fast.tw2754173323550663785 : True := .intro
theorem PySem.W.Fast.tw5130655468126408937 : True := .intro
theorem PySem.W.Fast.tw17014025305753046281 : True := .intro
theorem PySem.W.Fast.tw16272989652995713481 : True := .intro
theorem PySem.W.Fast.tw8363037194341534185 : True := .intro
theorem PySem.W.Fast.tw8186835818332556777 : True := .intro
theorem PySem.W.Fast.tw4393909249147665001 : True := .intro
theorem PySem.W.Fast.tw6109000777913952105 : True := .intro
theorem PySem.W.Fast.tw1191687484729436041 : True := .intro
theorem PySem.W.Fast.tw6869025851856546793 : True := .intro
theorem PySem.W.Fast.tw13260549008652632138 : True := .intro
theorem PySem.W.Fast.tw12245788113926852714 : True := .intro
theorem PySem.W.Fast.tw13313756037158286538 : True := .intro
theorem PySem.W.Fast.tw2365004963157440746 : True := .intro
theorem PySem.W.Fast.tw1096041698598764810 : True := .intro
theorem PySem.W.Fast.tw18180982476472977834 : True := .intro
theorem PySem.W.Fast.tw14545963943122159018 : True := .intro
theorem PySem.W.Fast.tw6967302732217734570 : True := .intro
theorem PySem.W.Fast.tw5590660917509589450 : True := .intro
theorem PySem.W.Fast.tw14650889431825019402 : True := .intro
theorem PySem.W.Fast.tw11112237621673596458 : True := .intro
theorem PySem.W.Fast.tw2538536714696139306 : True := .intro
theorem PySem.W.Fast.tw15613931805846093354 : True := .intro
theorem PySem.W.Fast.tw5529920835239775882 : True := .intro
theorem PySem.W.Fast.tw6372467433828006570 : True := .intro
theorem PySem.W.Fast.tw5384786434540320426 : True := .intro
theorem PySem.W.Fast.tw12375738594201785034 : True := .intro
theorem PySem.W.Fast.tw17804942710501944042 : True := .intro
theorem PySem.W.Fast.tw3460683392469587690 : True := .intro
theorem PySem.W.Fast.tw7629230127599415082 : True := .intro
theorem PySem.W.Fast.tw10473428634276785002 : True := .intro
theorem PySem.W.Fast.tw7185259950274197418 : True := .intro
theorem PySem.W.Fast.tw17121603424093851562 : True := .intro
theorem PySem.W.Fast.tw11079980727814242379 : True := .intro
theorem PySem.W.Fast.tw4136364490441868363 : True := .intro
theorem PySem.W.Fast.tw14806639247970917547 : True := .intro
theorem PySem.W.Fast.tw771034196317216971 : True := .intro
theorem PySem.W.Fast.tw5028975550663308491 : True := .intro
theorem PySem.W.Fast.tw4454483140620450027 : True := .intro
theorem PySem.W.Fast.tw7901313179719203211 : True := .intro
theorem PySem.W.Fast.tw11833007927886899659 : True := .intro
theorem PySem.W.Fast.tw14471377880661447147 : True := .intro
theorem PySem.W.Fast.tw13624189292289964619 : True := .intro
theorem PySem.W.Fast.tw12616053531862854251 : True := .intro
theorem PySem.W.Fast.tw11758151852653381291 : True := .intro
theorem PySem.W.Fast.tw4820059071570642603 : True := .intro
theorem PySem.W.Fast.tw12896372880304950987 : True := .intro
theorem PySem.W.Fast.tw14910752798298468075 : True := .intro
theorem PySem.W.Fast.tw4401178306167791371 : True := .intro
theorem PySem.W.Fast.tw16875401246929393483 : True := .intro
theorem PySem.W.Fast.tw7028673195125716875 : True := .intro
theorem PySem.W.Fast.tw3920887841984581547 : True := .intro
theorem PySem.W.Fast.tw15157462517557793868 : True := .intro
theorem PySem.W.Fast.tw2863953033013834828 : True := .intro
theorem PySem.W.Fast.tw4959189576749759724 : True := .intro
theorem PySem.W.Fast.tw12865549677227918572 : True := .intro
theorem PySem.W.Fast.tw1188615962031548748 : True := .intro
theorem PySem.W.Fast.tw2306163827047483756 : True := .intro
theorem PySem.W.Fast.tw13314554952009934220 : True := .intro
theorem PySem.W.Fast.tw10477755156587748780 : True := .intro
theorem PySem.W.Fast.tw12632970137987638764 : True := .intro
theorem PySem.W.Fast.tw12931885225479391756 : True := .intro
theorem PySem.W.Fast.tw2404351630873430572 : True := .intro
theorem PySem.W.Fast.tw16105308252938149452 : True := .intro
theorem PySem.W.Fast.tw1425037953449339468 : True := .intro
theorem PySem.W.Fast.tw12008912462632965836 : True := .intro
theorem PySem.W.Fast.tw6752611579009977100 : True := .intro
theorem PySem.W.Fast.tw16358590743843459884 : True := .intro
theorem PySem.W.Fast.tw11397332816390392684 : True := .intro
theorem PySem.W.Fast.tw11235659809615987596 : True := .intro
theorem PySem.W.Fast.tw4595951113371182093 : True := .intro
theorem PySem.W.Fast.tw9339099205691865165 : True := .intro
theorem PySem.W.Fast.tw13782261538058999917 : True := .intro
theorem PySem.W.Fast.tw16521312193495142637 : True := .intro
theorem PySem.W.Fast.tw14022120327041170669 : True := .intro
theorem PySem.W.Fast.tw6422434427724435757 : True := .intro
theorem PySem.W.Fast.tw16897846151287994733 : True := .intro
theorem PySem.W.Fast.tw3631656403210198413 : True := .intro
theorem PySem.W.Fast.tw15348626558053304781 : True := .intro
theorem PySem.W.Fast.tw2679760584197667277 : True := .intro
theorem PySem.W.Fast.tw4266024480248532557 : True := .intro
theorem PySem.W.Fast.tw9347258544157416045 : True := .intro
theorem PySem.W.Fast.tw9369639650033086093 : True := .intro
theorem PySem.W.Fast.tw13612703736250972813 : True := .intro
theorem PySem.W.Fast.tw14170515440938968749 : True := .intro
theorem PySem.W.Fast.tw1326131533078026925 : True := .intro
theorem PySem.W.Fast.tw13794510122097303245 : True := .intro
theorem PySem.W.Fast.tw13554416042189868781 : True := .intro
theorem PySem.W.Fast.tw16843015888519007149 : True := .intro
theorem PySem.W.Fast.tw13658127240252464109 : True := .intro
theorem PySem.W.Fast.tw5254322758158002190 : True := .intro
theorem PySem.W.Fast.tw13302048347519496206 : True := .intro
theorem PySem.W.Fast.tw5995641324084015150 : True := .intro
theorem PySem.W.Fast.tw8756579269381742702 : True := .intro
theorem PySem.W.Fast.tw12563190675602174094 : True := .intro
theorem PySem.W.Fast.tw2564175684841274510 : True := .intro
theorem PySem.W.Fast.tw2475372629492481230 : True := .intro
theorem PySem.W.Fast.tw2387536049100255470 : True := .intro
theorem PySem.W.Fast.tw17236632005569880366 : True := .intro
theorem PySem.W.Fast.tw5478579511143986478 : True := .intro
theorem PySem.W.Fast.tw4031449024938242382 : True := .intro
theorem PySem.W.Fast.tw14183991608182761838 : True := .intro
theorem PySem.W.Fast.tw8553027658904944046 : True := .intro
theorem PySem.W.Fast.tw15843449446924358094 : True := .intro
theorem PySem.W.Fast.tw10197904591581029902 : True := .intro
theorem PySem.W.Fast.tw14307982217206006318 : True := .intro
theorem PySem.W.Fast.tw3610668510431809166 : True := .intro
theorem PySem.W.Fast.tw11473386378498969422 : True := .intro
theorem PySem.W.Fast.tw4066134802032851886 : True := .intro
theorem PySem.W.Fast.tw4363155091513047087 : True := .intro
theorem PySem.W.Fast.tw4046263050063369391 : True := .intro
theorem PySem.W.Fast.tw2815127907567640751 : True := .intro
theorem PySem.W.Fast.tw14469410870231648463 : True := .intro
theorem PySem.W.Fast.tw12277079182963210511 : True := .intro
theorem PySem.W.Fast.tw17327794103661303087 : True := .intro
theorem PySem.W.Fast.tw12078796928413188431 : True := .intro
theorem PySem.W.Fast.tw6533524680368050575 : True := .intro
theorem PySem.W.Fast.tw3399231876351106479 : True := .intro
theorem PySem.W.Fast.tw7701896670330184143 : True := .intro
theorem PySem.W.Fast.tw10446595935590903407 : True := .intro
theorem PySem.W.Fast.tw143981553849691791 : True := .intro
theorem PySem.W.Fast.tw12745252795855531727 : True := .intro
theorem PySem.W.Fast.tw6237471833417220911 : True := .intro
theorem PySem.W.Fast.tw6410676304855464751 : True := .intro
theorem PySem.W.Fast.tw6314270518780239695 : True := .intro
theorem PySem.W.Fast.tw11452105428841015151 : True := .intro
theorem PySem.W.Fast.tw3587566105238336367 : True := .intro
theorem PySem.W.Fast.tw16269538656008798095 : True := .intro
theorem PySem.W.Fast.tw13678501277687300079 : True := .intro
theorem PySem.W.Fast.tw17965727373793843248 : True := .intro
theorem PySem.W.Fast.tw14047490349918777392 : True := .intro
theorem PySem.W.Fast.tw14475412075113746512 : True := .intro
theorem PySem.W.Fast.tw9424583480596299856 : True := .intro
theorem PySem.W.Fast.tw13556645379588003952 : True := .intro
theorem PySem.W.Fast.tw7638590563144975504 : True := .intro
theorem PySem.W.Fast.tw9342319706315699472 : True := .intro
theorem PySem.W.Fast.tw5753567107690628432 : True := .intro
theorem PySem.W.Fast.tw7233897743126762896 : True := .intro
theorem PySem.W.Fast.tw14028195787279367600 : True := .intro
theorem PySem.W.Fast.tw5513327966745696688 : True := .intro
theorem PySem.W.Fast.tw17035283243133045200 : True := .intro
theorem PySem.W.Fast.tw17914893642110347728 : True := .intro
theorem PySem.W.Fast.tw1434018503806728688 : True := .intro
theorem PySem.W.Fast.tw8233015688119405040 : True := .intro
theorem PySem.W.Fast.tw11024840332663286256 : True := .intro
theorem PySem.W.Fast.tw15539620418948083248 : True := .intro
theorem PySem.W.Fast.tw3484152168472050256 : True := .intro
theorem PySem.W.Fast.tw8342185941127632496 : True := .intro
theorem PySem.W.Fast.tw3106293714965621360 : True := .intro
theorem PySem.W.Fast.tw17349932683254549296 : True := .intro
theorem PySem.W.Fast.tw6035369001520712528 : True := .intro
theorem PySem.W.Fast.tw888464039904585552 : True := .intro
theorem PySem.W.Fast.tw2634550622138441584 : True := .intro
theorem PySem.W.Fast.tw2270783428492104624 : True := .intro
theorem PySem.W.Fast.tw9471825193816048560 : True := .intro
theorem PySem.W.Fast.tw2627114679957644240 : True := .intro
theorem PySem.W.Fast.tw12530174623211026384 : True := .intro
theorem PySem.W.Fast.tw13141755799812349969 : True := .intro
theorem PySem.W.Fast.tw9489991317762764849 : True := .intro
theorem PySem.W.Fast.tw12441892415004564561 : True := .intro
theorem PySem.W.Fast.tw14126793669927199825 : True := .intro
theorem PySem.W.Fast.tw16037818004960859249 : True := .intro
theorem PySem.W.Fast.tw3095131121164027057 : True := .intro
theorem PySem.W.Fast.tw7853420761429513457 : True := .intro
theorem PySem.W.Fast.tw14521529526778519825 : True := .intro
theorem PySem.W.Fast.tw4082084396390584593 : True := .intro
theorem PySem.W.Fast.tw5566358002505678161 : True := .intro
theorem PySem.W.Fast.tw10562676379097213489 : True := .intro
theorem PySem.W.Fast.tw5622730606491633297 : True := .intro
theorem PySem.W.Fast.tw14842626870643926673 : True := .intro
theorem PySem.W.Fast.tw7551136135403503249 : True := .intro
theorem PySem.W.Fast.tw7558232430131977937 : True := .intro
theorem PySem.W.Fast.tw2228061169357100881 : True := .intro
theorem PySem.W.Fast.tw9770594128398222193 : True := .intro
theorem PySem.W.Fast.tw6164632999970145137 : True := .intro
theorem PySem.W.Fast.tw17530725648596316049 : True := .intro
theorem PySem.W.Fast.tw1429808918817539985 : True := .intro
theorem PySem.W.Fast.tw1699968780113021937 : True := .intro
theorem PySem.W.Fast.tw14927579365840519186 : True := .intro
theorem PySem.W.Fast.tw9122817098256881778 : True := .intro
theorem PySem.W.Fast.tw17434822500626108594 : True := .intro
theorem PySem.W.Fast.tw588501015173876978 : True := .intro
theorem PySem.W.Fast.tw7000443671670798610 : True := .intro
theorem PySem.W.Fast.tw7735859698657980786 : True := .intro
theorem PySem.W.Fast.tw3402846511264507314 : True := .intro
theorem PySem.W.Fast.tw9314970660043108786 : True := .intro
theorem PySem.W.Fast.tw7294360094990546418 : True := .intro
theorem PySem.W.Fast.tw13643380346284685810 : True := .intro
theorem PySem.W.Fast.tw12959830799393597074 : True := .intro
theorem PySem.W.Fast.tw6132389949020981906 : True := .intro
theorem PySem.W.Fast.tw8486025721836829362 : True := .intro
theorem PySem.W.Fast.tw7273942234441190258 : True := .intro
theorem PySem.W.Fast.tw8919028889742104466 : True := .intro
theorem PySem.W.Fast.tw4382177891151308722 : True := .intro
theorem PySem.W.Fast.tw12055409107927321522 : True := .intro
theorem PySem.W.Fast.tw14971108077580454898 : True := .intro
theorem PySem.W.Fast.tw15078755945188827122 : True := .intro
theorem PySem.W.Fast.tw11075356935048722418 : True := .intro
theorem PySem.W.Fast.tw3338154749986514963 : True := .intro
theorem PySem.W.Fast.tw12435741193861017683 : True := .intro
theorem PySem.W.Fast.tw5177465106116208787 : True := .intro
theorem PySem.W.Fast.tw9625725530494443667 : True := .intro
theorem PySem.W.Fast.tw5456921460478995603 : True := .intro
theorem PySem.W.Fast.tw3942094724976322739 : True := .intro
theorem PySem.W.Fast.tw9506452117865468083 : True := .intro
theorem PySem.W.Fast.tw9524196307161803987 : True := .intro
theorem PySem.W.Fast.tw8440395662895654163 : True := .intro
theorem PySem.W.Fast.tw10313213311250605395 : True := .intro
theorem PySem.W.Fast.tw1009963997481152883 : True := .intro
theorem PySem.W.Fast.tw14022421193193481587 : True := .intro
theorem PySem.W.Fast.tw8377716672553150931 : True := .intro
theorem PySem.W.Fast.tw17304589806954627603 : True := .intro
theorem PySem.W.Fast.tw16850780034907331155 : True := .intro
theorem PySem.W.Fast.tw16995425939804648051 : True := .intro
theorem PySem.W.Fast.tw16294683621125770899 : True := .intro
theorem PySem.W.Fast.tw11755097692776318675 : True := .intro
theorem PySem.W.Fast.tw11953444777271342803 : True := .intro
theorem PySem.W.Fast.tw5889651305285670643 : True := .intro
theorem PySem.W.Fast.tw11284862136427192083 : True := .intro
theorem PySem.W.Fast.tw11434058182411029331 : True := .intro
theorem PySem.W.Fast.tw9905353771943608243 : True := .intro
theorem PySem.W.Fast.tw5603763102476936179 : True := .intro
theorem PySem.W.Fast.tw9743470481387438100 : True := .intro
theorem PySem.W.Fast.tw9787837004271115476 : True := .intro
theorem PySem.W.Fast.tw11350937200569914612 : True := .intro
theorem PySem.W.Fast.tw12635898316095931668 : True := .intro
theorem PySem.W.Fast.tw2039148505515343188 : True := .intro
theorem PySem.W.Fast.tw3642748615687996820 : True := .intro
theorem PySem.W.Fast.tw2874131044936309140 : True := .intro
theorem PySem.W.Fast.tw16423223222953701780 : True := .intro
theorem PySem.W.Fast.tw6003142855093406196 : True := .intro
theorem PySem.W.Fast.tw3523407107290874388 : True := .intro
theorem PySem.W.Fast.tw7329755383156814388 : True := .intro
theorem PySem.W.Fast.tw2661089601814903348 : True := .intro
theorem PySem.W.Fast.tw10825321524707693140 : True := .intro
theorem PySem.W.Fast.tw3824786119065682580 : True := .intro
theorem PySem.W.Fast.tw15272794709687785108 : True := .intro
theorem PySem.W.Fast.tw11302063977809084084 : True := .intro
theorem PySem.W.Fast.tw1103461173649331892 : True := .intro
theorem PySem.W.Fast.tw8371824322519797492 : True := .intro
theorem PySem.W.Fast.tw17147336263264641812 : True := .intro
theorem PySem.W.Fast.tw6277401137182674772 : True := .intro
theorem PySem.W.Fast.tw10831513179656016756 : True := .intro
theorem PySem.W.Fast.tw15132547527933588372 : True := .intro
theorem PySem.W.Fast.tw13111228364838722581 : True := .intro
theorem PySem.W.Fast.tw6873211343817379957 : True := .intro
theorem PySem.W.Fast.tw6464342327591725173 : True := .intro
theorem PySem.W.Fast.tw17578598632182870229 : True := .intro
theorem PySem.W.Fast.tw15881465406494605525 : True := .intro
theorem PySem.W.Fast.tw12534576761512213 : True := .intro
theorem PySem.W.Fast.tw18002917371059360053 : True := .intro
theorem PySem.W.Fast.tw6132393717737168181 : True := .intro
theorem PySem.W.Fast.tw10443587633670706613 : True := .intro
theorem PySem.W.Fast.tw5995619599877145045 : True := .intro
theorem PySem.W.Fast.tw4190815934877303317 : True := .intro
theorem PySem.W.Fast.tw799220063653874197 : True := .intro
theorem PySem.W.Fast.tw515282606808544949 : True := .intro
theorem PySem.W.Fast.tw9395618436456187573 : True := .intro
theorem PySem.W.Fast.tw7892010458503991157 : True := .intro
theorem PySem.W.Fast.tw12441658349455167381 : True := .intro
theorem PySem.W.Fast.tw745121919633892277 : True := .intro
theorem PySem.W.Fast.tw4402951163321787317 : True := .intro
theorem PySem.W.Fast.tw391589402617989045 : True := .intro
theorem PySem.W.Fast.tw12877025252456122293 : True := .intro
theorem PySem.W.Fast.tw11905253071448002517 : True := .intro
theorem PySem.W.Fast.tw12369091395870121941 : True := .intro
theorem PySem.W.Fast.tw15987483736544967702 : True := .intro
theorem PySem.W.Fast.tw2963181629657425942 : True := .intro
theorem PySem.W.Fast.tw5144116868681607414 : True := .intro
theorem PySem.W.Fast.tw5220396365568702838 : True := .intro
theorem PySem.W.Fast.tw14827622188250377622 : True := .intro
theorem PySem.W.Fast.tw15856189435682202006 : True := .intro
theorem PySem.W.Fast.tw9100796258208338422 : True := .intro
theorem PySem.W.Fast.tw12081219783763497526 : True := .intro
theorem PySem.W.Fast.tw17360140552389771830 : True := .intro
theorem PySem.W.Fast.tw17688754615510755926 : True := .intro
theorem PySem.W.Fast.tw6624830208825097942 : True := .intro
theorem PySem.W.Fast.tw6421070169392672502 : True := .intro
theorem PySem.W.Fast.tw11828785397113623542 : True := .intro
theorem PySem.W.Fast.tw3214671864086102006 : True := .intro
theorem PySem.W.Fast.tw4757310107179524119 : True := .intro
theorem PySem.W.Fast.tw12688607527110134807 : True := .intro
theorem PySem.W.Fast.tw3886569573787164727 : True := .intro
theorem PySem.W.Fast.tw11539202298090548279 : True := .intro
theorem PySem.W.Fast.tw5415764694805914839 : True := .intro
theorem PySem.W.Fast.tw9444596416923019671 : True := .intro
theorem PySem.W.Fast.tw7053472297476709815 : True := .intro
theorem PySem.W.Fast.tw8994439483415475799 : True := .intro
theorem PySem.W.Fast.tw13506243764258842231 : True := .intro
theorem PySem.W.Fast.tw3598058674190660247 : True := .intro
theorem PySem.W.Fast.tw15475225100792323735 : True := .intro
theorem PySem.W.Fast.tw16670659161738397335 : True := .intro
theorem PySem.W.Fast.tw3898815394093054647 : True := .intro
theorem PySem.W.Fast.tw18225189290012228311 : True := .intro
theorem PySem.W.Fast.tw797789750668458807 : True := .intro
theorem PySem.W.Fast.tw9447757299812507511 : True := .intro
theorem PySem.W.Fast.tw9714270391790587928 : True := .intro
theorem PySem.W.Fast.tw9422567234553147544 : True := .intro
theorem PySem.W.Fast.tw1449316329470226648 : True := .intro
theorem PySem.W.Fast.tw6153468736167451992 : True := .intro
theorem PySem.W.Fast.tw5086341972031562104 : True := .intro
theorem PySem.W.Fast.tw13698190689952800312 : True := .intro
theorem PySem.W.Fast.tw13912166696855466552 : True := .intro
theorem PySem.W.Fast.tw64912757020459672 : True := .intro
theorem PySem.W.Fast.tw8945340668189800120 : True := .intro
theorem PySem.W.Fast.tw16219894608031436568 : True := .intro
theorem PySem.W.Fast.tw9024430001938984728 : True := .intro
theorem PySem.W.Fast.tw5706208932111877944 : True := .intro
theorem PySem.W.Fast.tw17607936772915320632 : True := .intro
theorem PySem.W.Fast.tw8992571537927944088 : True := .intro
theorem PySem.W.Fast.tw1164053382675942296 : True := .intro
theorem PySem.W.Fast.tw7784370351534344441 : True := .intro
theorem PySem.W.Fast.tw3987310309445974297 : True := .intro
theorem PySem.W.Fast.tw17709731370380756249 : True := .intro
theorem PySem.W.Fast.tw719166451986738489 : True := .intro
theorem PySem.W.Fast.tw13721060379530523993 : True := .intro
theorem PySem.W.Fast.tw14836643841965698457 : True := .intro
theorem PySem.W.Fast.tw2189301878947226105 : True := .intro
theorem PySem.W.Fast.tw3095424578877124089 : True := .intro
theorem PySem.W.Fast.tw5640808974773988889 : True := .intro
theorem PySem.W.Fast.tw17109816188539423353 : True := .intro
theorem PySem.W.Fast.tw938305995303536281 : True := .intro
theorem PySem.W.Fast.tw5906570474861859513 : True := .intro
theorem PySem.W.Fast.tw3198726494590245561 : True := .intro
theorem PySem.W.Fast.tw2636727687770898169 : True := .intro
theorem PySem.W.Fast.tw15230716967976077113 : True := .intro
theorem PySem.W.Fast.tw10412015210117884729 : True := .intro
theorem PySem.W.Fast.tw3692301394789500761 : True := .intro
theorem PySem.W.Fast.tw5466370667657407321 : True := .intro
theorem PySem.W.Fast.tw6503192602395181945 : True := .intro
theorem PySem.W.Fast.tw13855554914292051833 : True := .intro
theorem PySem.W.Fast.tw7909824032137609081 : True := .intro
theorem PySem.W.Fast.tw5975256958114214809 : True := .intro
theorem PySem.W.Fast.tw1092697435050718137 : True := .intro
theorem PySem.W.Fast.tw14788009792885367801 : True := .intro
theorem PySem.W.Fast.tw1136434022298862585 : True := .intro
theorem PySem.W.Fast.tw4073405381502209210 : True := .intro
theorem PySem.W.Fast.tw7693331053696958714 : True := .intro
theorem PySem.W.Fast.tw13278881441371527418 : True := .intro
theorem PySem.W.Fast.tw16928358357599217946 : True := .intro
theorem PySem.W.Fast.tw14458261476198515994 : True := .intro
theorem PySem.W.Fast.tw11068294514310579578 : True := .intro
theorem PySem.W.Fast.tw11031245329472336314 : True := .intro
theorem PySem.W.Fast.tw10523105075853256186 : True := .intro
theorem PySem.W.Fast.tw7966449633593275994 : True := .intro
theorem PySem.W.Fast.tw14303735755815675482 : True := .intro
theorem PySem.W.Fast.tw12835936570840739610 : True := .intro
theorem PySem.W.Fast.tw11291136268411094075 : True := .intro
theorem PySem.W.Fast.tw9725937089962603579 : True := .intro
theorem PySem.W.Fast.tw10939541227463890011 : True := .intro
theorem PySem.W.Fast.tw18177129800699845979 : True := .intro
theorem PySem.W.Fast.tw10156531408075182459 : True := .intro
theorem PySem.W.Fast.tw9732107352936934779 : True := .intro
theorem PySem.W.Fast.tw491668821375722939 : True := .intro
theorem PySem.W.Fast.tw1860800340026011067 : True := .intro
theorem PySem.W.Fast.tw7222763018917306843 : True := .intro
theorem PySem.W.Fast.tw1762081780916252155 : True := .intro
theorem PySem.W.Fast.tw4341460269788461563 : True := .intro
theorem PySem.W.Fast.tw6966324998424265243 : True := .intro
theorem PySem.W.Fast.tw2971341748141991483 : True := .intro
theorem PySem.W.Fast.tw2005160152527970907 : True := .intro
theorem PySem.W.Fast.tw8190087793331521147 : True := .intro
theorem PySem.W.Fast.tw14958434435868485499 : True := .intro
theorem PySem.W.Fast.tw9719527073743805371 : True := .intro
theorem PySem.W.Fast.tw2650380892754265019 : True := .intro
theorem PySem.W.Fast.tw1511783858334664667 : True := .intro
theorem PySem.W.Fast.tw13820874152730992700 : True := .intro
theorem PySem.W.Fast.tw16394004499540086044 : True := .intro
theorem PySem.W.Fast.tw7936503694952891676 : True := .intro
theorem PySem.W.Fast.tw13557387485459595612 : True := .intro
theorem PySem.W.Fast.tw14090177480784050556 : True := .intro
theorem PySem.W.Fast.tw14729853890964474268 : True := .intro
theorem PySem.W.Fast.tw14590070223106331036 : True := .intro
theorem PySem.W.Fast.tw10636381264023580156 : True := .intro
theorem PySem.W.Fast.tw9627201751917862396 : True := .intro
theorem PySem.W.Fast.tw5335805287669866140 : True := .intro
theorem PySem.W.Fast.tw3677829987744967324 : True := .intro
theorem PySem.W.Fast.tw1004821372754819836 : True := .intro
theorem PySem.W.Fast.tw640274479608139516 : True := .intro
theorem PySem.W.Fast.tw18156056460872725308 : True := .intro
theorem PySem.W.Fast.tw4988191045425898396 : True := .intro
theorem PySem.W.Fast.tw3469556740343118748 : True := .intro
theorem PySem.W.Fast.tw9956304913988598716 : True := .intro
theorem PySem.W.Fast.tw10768777391341503452 : True := .intro
theorem PySem.W.Fast.tw12764867244892728381 : True := .intro
theorem PySem.W.Fast.tw3862771705572682813 : True := .intro
theorem PySem.W.Fast.tw6336764698902992061 : True := .intro
theorem PySem.W.Fast.tw6324222523773379773 : True := .intro
theorem PySem.W.Fast.tw13688226514547598589 : True := .intro
theorem PySem.W.Fast.tw12853946568277581085 : True := .intro
theorem PySem.W.Fast.tw13215464161841421597 : True := .intro
theorem PySem.W.Fast.tw9568820607917557021 : True := .intro
theorem PySem.W.Fast.tw12152227486640828765 : True := .intro
theorem PySem.W.Fast.tw16848961009461545341 : True := .intro
theorem PySem.W.Fast.tw13367043392611862941 : True := .intro
theorem PySem.W.Fast.tw6840303849527150013 : True := .intro
theorem PySem.W.Fast.tw14381372706678181309 : True := .intro
theorem PySem.W.Fast.tw5914450987821634013 : True := .intro
theorem PySem.W.Fast.tw14535162596738789885 : True := .intro
theorem PySem.W.Fast.tw7899690603148397053 : True := .intro
theorem PySem.W.Fast.tw439720804884203069 : True := .intro
theorem PySem.W.Fast.tw13677049503366879933 : True := .intro
theorem PySem.W.Fast.tw12496314108374635293 : True := .intro
theorem PySem.W.Fast.tw3397680960652447549 : True := .intro
theorem PySem.W.Fast.tw5022197517911559997 : True := .intro
theorem PySem.W.Fast.tw37365495880846173 : True := .intro
theorem PySem.W.Fast.tw15704440294590983069 : True := .intro
theorem PySem.W.Fast.tw2442094148498062237 : True := .intro
theorem PySem.W.Fast.tw7966114515875759069 : True := .intro
theorem PySem.W.Fast.tw10376656248671208445 : True := .intro
theorem PySem.W.Fast.tw9309443878107386910 : True := .intro
theorem PySem.W.Fast.tw143124794008558654 : True := .intro
theorem PySem.W.Fast.tw2015571888807229534 : True := .intro
theorem PySem.W.Fast.tw16661536895713316990 : True := .intro
theorem PySem.W.Fast.tw1205612580225235166 : True := .intro
theorem PySem.W.Fast.tw9260391697752424734 : True := .intro
theorem PySem.W.Fast.tw9897692943056699678 : True := .intro
theorem PySem.W.Fast.tw10491699960039119166 : True := .intro
theorem PySem.W.Fast.tw5187174331783511390 : True := .intro
theorem PySem.W.Fast.tw3300312409361771902 : True := .intro
theorem PySem.W.Fast.tw4241130676417872446 : True := .intro
theorem PySem.W.Fast.tw4699247772246168158 : True := .intro
theorem PySem.W.Fast.tw753108670518969950 : True := .intro
theorem PySem.W.Fast.tw4757391898345923166 : True := .intro
theorem PySem.W.Fast.tw17931938012715543166 : True := .intro
theorem PySem.W.Fast.tw1103477619626353438 : True := .intro
theorem PySem.W.Fast.tw15864535183043790654 : True := .intro
theorem PySem.W.Fast.tw15353029199726056254 : True := .intro
theorem PySem.W.Fast.tw16574054161158236094 : True := .intro
theorem PySem.W.Fast.tw7714633197674001471 : True := .intro
theorem PySem.W.Fast.tw9226502010037534975 : True := .intro
theorem PySem.W.Fast.tw13808963541052461311 : True := .intro
theorem PySem.W.Fast.tw13559397347721971999 : True := .intro
theorem PySem.W.Fast.tw10372008996410334559 : True := .intro
theorem PySem.W.Fast.tw3862625460559949151 : True := .intro
theorem PySem.W.Fast.tw17189526205926437247 : True := .intro
theorem PySem.W.Fast.tw1660905871983060383 : True := .intro
theorem PySem.W.Fast.tw13683139877852514751 : True := .intro
theorem PySem.W.Fast.tw9254006264552701471 : True := .intro
theorem PySem.W.Fast.tw18127052270669859391 : True := .intro
theorem PySem.W.Fast.tw6768562668941257311 : True := .intro
theorem PySem.W.Fast.tw13923878108120765087 : True := .intro
theorem PySem.W.Fast.tw10494761633946737407 : True := .intro
theorem PySem.W.Fast.tw17723275050253380575 : True := .intro
open PySem PySem.W PyProof.Rows
set_option maxRecDepth 100000 in
set_option maxHeartbeats 0 in
theorem PySem.Challenge.cw_deeprests_k93_whole_parts_by_text_holds : PySem.Challenge.rw_deeprests_k93_whole_parts_by_text.Holds := by
  w_on; o_law; k_head; (case hw => w_witness2)
  k_fill
  refine L2.walk_law (l := PySem.Challenge.rw_deeprests_k93_whole_parts_by_text) (k := 9) (CX := fun _ => L2.CX0) rfl rfl ⟨rfl, by decide, by decide⟩ (fun w h Y => PySem.W.kIn_of Y) (fun _ _ _ _ _ z => z) ?F
  case F =>
    intro w mg fa h KX G hmg
    refine' K93.all_mk KX G hmg ?a1 ?l1 ?c1 ?k1 ?a2 ?l2 ?c2 ?k2 ?a3 ?l3 ?c3 ?k3 ?a4 ?l4 ?c4 ?k4 ?a5 ?l5 ?c5 ?k5 ?a6 ?l6 ?c6 ?k6 ?a7 ?l7 ?c7 ?k7 ?a8 ?l8 ?c8 ?k8 ?a9 ?l9 ?c9 ?k9 ?a10 ?l10 ?c10 ?k10 ?a11 ?l11 ?c11 ?k11 ?a12 ?l12 ?c12 ?k12 ?a13 ?l13 ?c13 ?k13 ?a14 ?l14 ?c14 ?k14 ?a15 ?l15 ?c15 ?k15 ?a16 ?l16 ?c16 ?k16 ?a17 ?l17 ?c17 ?k17 ?a18 ?l18 ?c18 ?k18 ?a19 ?l19 ?c19 ?k19 ?a20 ?l20 ?c20 ?k20 ?a21 ?l21 ?c21 ?k21 ?a22 ?l22 ?c22 ?k22 ?a23 ?l23 ?c23 ?k23 ?a24 ?l24 ?c24 ?k24 ?l25 ?c25 ?k25 ?n25 ?l26 ?c26 ?k26 ?n26 ?l27 ?c27 ?k27 ?n27 ?l28 ?c28 ?k28 ?n28 ?l29 ?c29 ?k29 ?n29 ?a30 ?l30 ?c30 ?k30 ?a31 ?l31 ?c31 ?k31 ?a32 ?l32 ?c32 ?k32 ?a33 ?l33 ?c33 ?k33 ?a34 ?l34 ?c34 ?k34 ?a35 ?l35 ?c35 ?k35 ?a36 ?l36 ?c36 ?k36 ?a37 ?l37 ?c37 ?k37 ?a38 ?l38 ?c38 ?k38 ?a39 ?l39 ?c39 ?k39 ?z_abs ?z_all ?z_bool ?z_enumerate ?z_int ?z_isinstance ?z_len ?z_list ?z_max ?z_min ?z_range ?z_reversed ?z_sorted ?z_str ?z_sum ?z_zip ?z_FIGURES ?z_GREATEST_DEPTH ?z_GREATEST_PRIME ?z_LETTERS ?z_MOST_FIGURES ?z_MOST_LETTERS ?z_MOST_NUMBERS ?kd_WANTED ?gd_WANTED ?kd_MADE ?gd_MADE ?kd_TOLD ?gd_TOLD ?tu_420 ?tu_434 ?fa_made_poly ?fa_told_parts ?z_Desk ?z_NoDepth ?z_NoInverse ?z_NoName ?z_NoParts ?z_NoPrime ?z_NoRow ?z_NoSingle ?z_NoSmall ?z_NoText ?z_RestError ?z_TooDeep ?z_TooGreat ?x_NoParts ?m_NoParts_RestError ?f_NoParts ?i_NoParts_Desk ?i_NoParts_NoDepth ?i_NoParts_NoInverse ?i_NoParts_NoName ?i_NoParts_NoParts ?i_NoParts_NoPrime ?i_NoParts_NoRow ?i_NoParts_NoSingle ?i_NoParts_NoSmall ?i_NoParts_NoText ?i_NoParts_RestError ?i_NoParts_TooDeep ?i_NoParts_TooGreat ?cl_Desk ?mk_Desk ?kc_Desk ?na_prime ?na_kept ?a25 ?a26 ?a27 ?a28 ?a29
    (case a1 => k_is)
    (case l1 => k_is)
    (case c1 => k_is)
    (case k1 => k_is)
    (case a2 => k_is)
    (case l2 => k_is)
    (case c2 => k_is)
    (case k2 => k_is)
    (case a3 => k_is)
    (case l3 => k_is)
    (case c3 => k_is)
    (case k3 => k_is)
    (case a4 => k_is)
    (case l4 => k_is)
    (case c4 => k_is)
    (case k4 => k_is)
    (case a5 => k_is)
    (case l5 => k_is)
    (case c5 => k_is)
    (case k5 => k_is)
    (case a6 => k_is)
    (case l6 => k_is)
    (case c6 => k_is)
    (case k6 => k_is)
    (case a7 => k_is)
    (case l7 => k_is)
    (case c7 => k_is)
    (case k7 => k_is)
    (case a8 => k_is)
    (case l8 => k_is)
    (case c8 => k_is)
    (case k8 => k_is)
    (case a9 => k_is)
    (case l9 => k_is)
    (case c9 => k_is)
    (case k9 => k_is)
    (case a10 => k_is)
    (case l10 => k_is)
    (case c10 => k_is)
    (case k10 => k_is)
    (case a11 => k_is)
    (case l11 => k_is)
    (case c11 => k_is)
    (case k11 => k_is)
    (case a12 => k_is)
    (case l12 => k_is)
    (case c12 => k_is)
    (case k12 => k_is)
    (case a13 => k_is)
    (case l13 => k_is)
    (case c13 => k_is)
    (case k13 => k_is)
    (case a14 => k_is)
    (case l14 => k_is)
    (case c14 => k_is)
    (case k14 => k_is)
    (case a15 => k_is)
    (case l15 => k_is)
    (case c15 => k_is)
    (case k15 => k_is)
    (case a16 => k_is)
    (case l16 => k_is)
    (case c16 => k_is)
    (case k16 => k_is)
    (case a17 => k_is)
    (case l17 => k_is)
    (case c17 => k_is)
    (case k17 => k_is)
    (case a18 => k_is)
    (case l18 => k_is)
    (case c18 => k_is)
    (case k18 => k_is)
    (case a19 => k_is)
    (case l19 => k_is)
    (case c19 => k_is)
    (case k19 => k_is)
    (case a20 => k_is)
    (case l20 => k_is)
    (case c20 => k_is)
    (case k20 => k_is)
    (case a21 => k_is)
    (case l21 => k_is)
    (case c21 => k_is)
    (case k21 => k_is)
    (case a22 => k_is)
    (case l22 => k_is)
    (case c22 => k_is)
    (case k22 => k_is)
    (case a23 => k_is)
    (case l23 => k_is)
    (case c23 => k_is)
    (case k23 => k_is)
    (case a24 => k_is)
    (case l24 => k_is)
    (case c24 => k_is)
    (case k24 => k_is)
    (case a30 => k_is)
    (case l30 => k_is)
    (case c30 => k_is)
    (case k30 => k_is)
    (case a31 => k_is)
    (case l31 => k_is)
    (case c31 => k_is)
    (case k31 => k_is)
    (case a32 => k_is)
    (case l32 => k_is)
    (case c32 => k_is)
    (case k32 => k_is)
    (case a33 => k_is)
    (case l33 => k_is)
    (case c33 => k_is)
    (case k33 => k_is)
    (case a34 => k_is)
    (case l34 => k_is)
    (case c34 => k_is)
    (case k34 => k_is)
    (case a35 => k_is)
    (case l35 => k_is)
    (case c35 => k_is)
    (case k35 => k_is)
    (case a36 => k_is)
    (case l36 => k_is)
    (case c36 => k_is)
    (case k36 => k_is)
    (case a37 => k_is)
    (case l37 => k_is)
    (case c37 => k_is)
    (case k37 => k_is)
    (case a38 => k_is)
    (case l38 => k_is)
    (case c38 => k_is)
    (case k38 => k_is)
    (case a39 => k_is)
    (case l39 => k_is)
    (case c39 => k_is)
    (case k39 => k_is)
    (case z_abs => k_is)
    (case z_all => kernel_rfl)
    (case z_bool => k_is)
    (case z_enumerate => k_is)
    (case z_int => k_is)
    (case z_isinstance => k_is)
    (case z_len => k_is)
    (case z_list => k_is)
    (case z_max => k_is)
    (case z_min => k_is)
    (case z_range => k_is)
    (case z_reversed => k_is)
    (case z_sorted => k_is)
    (case z_str => k_is)
    (case z_sum => k_is)
    (case z_zip => k_is)
    (case z_FIGURES => k_is)
    (case z_GREATEST_DEPTH => k_is)
    (case z_GREATEST_PRIME => k_is)
    (case z_LETTERS => k_is)
    (case z_MOST_FIGURES => k_is)
    (case z_MOST_LETTERS => k_is)
    (case z_MOST_NUMBERS => k_is)
    (case z_Desk => k_is)
    (case z_NoDepth => k_is)
    (case z_NoInverse => k_is)
    (case z_NoName => k_is)
    (case z_NoParts => k_is)
    (case z_NoPrime => k_is)
    (case z_NoRow => k_is)
    (case z_NoSingle => k_is)
    (case z_NoSmall => k_is)
    (case z_NoText => k_is)
    (case z_RestError => k_is)
    (case z_TooDeep => k_is)
    (case z_TooGreat => k_is)
    (case x_NoParts => show PySem.W.excIn _ _ _ _ = true; kernel_rfl)
    (case m_NoParts_RestError => kernel_rfl)
    (case f_NoParts => exact ⟨by k_is, by k_is, by k_is, by k_is, by k_is, by k_is, by k_is, by k_is⟩)
    (case i_NoParts_Desk => kernel_rfl)
    (case i_NoParts_NoDepth => kernel_rfl)
    (case i_NoParts_NoInverse => kernel_rfl)
    (case i_NoParts_NoName => kernel_rfl)
    (case i_NoParts_NoParts => kernel_rfl)
    (case i_NoParts_NoPrime => kernel_rfl)
    (case i_NoParts_NoRow => kernel_rfl)
    (case i_NoParts_NoSingle => kernel_rfl)
    (case i_NoParts_NoSmall => kernel_rfl)
    (case i_NoParts_NoText => kernel_rfl)
    (case i_NoParts_RestError => kernel_rfl)
    (case i_NoParts_TooDeep => kernel_rfl)
    (case i_NoParts_TooGreat => kernel_rfl)
    (case kd_WANTED => exact ⟨⟨_, by k_is⟩, by decide, by decide⟩)
    (case gd_WANTED => k_is)
    (case kd_MADE => exact ⟨⟨_, by k_is⟩, by decide, by decide⟩)
    (case gd_MADE => k_is)
    (case kd_TOLD => exact ⟨⟨_, by k_is⟩, by decide, by decide⟩)
    (case gd_TOLD => k_is)
    (case tu_420 => exact ⟨_, _, _, by k_is, rfl, rfl, by decide, .cons ⟨_, rfl⟩ (.cons ⟨_, rfl⟩ (.nil))⟩)
    (case tu_434 => exact ⟨_, _, _, by k_is, rfl, rfl, by decide, .cons ⟨_, rfl⟩ (.cons ⟨_, rfl⟩ (.cons ⟨_, rfl⟩ (.cons ⟨_, rfl⟩ (.nil))))⟩)
    (case fa_made_poly => k_is)
    (case fa_told_parts => k_is)
    (case cl_Desk => exact ⟨by kernel_rfl, by kernel_rfl, by kernel_rfl, by k_is⟩)
    (case mk_Desk => kernel_rfl)
    (case kc_Desk => k_is)
    (case na_prime => show PySem.W.findIn _ _ _ = some none; kernel_rfl)
    (case na_kept => show PySem.W.findIn _ _ _ = some none; kernel_rfl)
    (case a25 => k_is)
    (case l25 => k_is)
    (case c25 => k_is)
    (case k25 => k_is)
    (case n25 => kernel_rfl)
    (case a26 => k_is)
    (case l26 => k_is)
    (case c26 => k_is)
    (case k26 => k_is)
    (case n26 => kernel_rfl)
    (case a27 => k_is)
    (case l27 => k_is)
    (case c27 => k_is)
    (case k27 => k_is)
    (case n27 => kernel_rfl)
    (case a28 => k_is)
    (case l28 => k_is)
    (case c28 => k_is)
    (case k28 => k_is)
    (case n28 => kernel_rfl)
    (case a29 => k_is)
    (case l29 => k_is)
    (case c29 => k_is)
    (case k29 => k_is)
    (case n29 => kernel_rfl)