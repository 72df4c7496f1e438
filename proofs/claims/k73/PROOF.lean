import PyProof.Rows.All
import Wide.All
import OpenK.AllK
import Wide.FinOn
import Lean
import PyProof.EqAt
import PyProof.EqKinds
import PyProof.TupleCall
import PySem.Challenge.RW_deeprests_k73_no_parts
set_option Elab.async false
set_option linter.all false
set_option maxRecDepth 100000
set_option compiler.extract_closed false
namespace L2
open PySem PySem.Spec PyProof.Rows
noncomputable abbrev Key := Sum Int Str
noncomputable def keyIs : Key → Value → Bool
  | .inl k, v => Value.isInt k v
  | .inr x, v => Value.isStrOf x v
noncomputable def keyH (w : World) : Key → Int
  | .inl k => hashInt k
  | .inr x => hashStr w x
theorem keyIs_shape : ∀ {k : Key} {v : Value}, keyIs k v = true → (∃ i t, k = Sum.inl i ∧ v = Value.int i t) ∨ (∃ x t, k = Sum.inr x ∧ v = Value.str x t)
  | .inl i, v, h => by
    obtain ⟨t, e⟩ := Value.isInt_shape (k := i) (v := v) h
    exact .inl ⟨i, t, rfl, e⟩
  | .inr x, v, h => by
    obtain ⟨t, e⟩ := Value.isStrOf_shape (x := x) (v := v) h
    exact .inr ⟨x, t, rfl, e⟩
theorem key_ll (a b : Int) : decide ((Sum.inl a : Key) = Sum.inl b) = (a == b) := by
  by_cases e : a = b
  · subst e; simp
  · have h : ¬ (Sum.inl a : Key) = Sum.inl b := fun q => e (Sum.inl.inj q)
    rw [decide_eq_false h]
    exact (beq_eq_false_iff_ne.mpr e).symm
theorem key_rr (a b : Str) : decide ((Sum.inr a : Key) = Sum.inr b) = decide (a = b) := by
  by_cases e : a = b
  · subst e; simp
  · have h : ¬ (Sum.inr a : Key) = Sum.inr b := fun q => e (Sum.inr.inj q)
    rw [decide_eq_false h, decide_eq_false e]
theorem key_lr (a : Int) (b : Str) : decide ((Sum.inl a : Key) = Sum.inr b) = false := decide_eq_false (fun q => nomatch q)
theorem key_rl (a : Str) (b : Int) : decide ((Sum.inr a : Key) = Sum.inl b) = false := decide_eq_false (fun q => nomatch q)
noncomputable def mixKind (prog : Program) (w : World) : PySem.KeyKind prog w Key where
  is := keyIs
  hash := keyH w
  inj := fun v a b ha hb => by
    rcases keyIs_shape ha with ⟨i, t, rfl, rfl⟩ | ⟨x, t, rfl, rfl⟩
    · rcases keyIs_shape hb with ⟨j, u, rfl, e⟩ | ⟨y, u, rfl, e⟩
      · injection e with e1 _; rw [e1]
      · exact nomatch e
    · rcases keyIs_shape hb with ⟨j, u, rfl, e⟩ | ⟨y, u, rfl, e⟩
      · exact nomatch e
      · injection e with e1 _; rw [e1]
  byValue := fun k v h => by
    rcases keyIs_shape h with ⟨i, t, rfl, rfl⟩ | ⟨x, t, rfl, rfl⟩ <;> rfl
  pyHash := fun hv h => by
    rcases keyIs_shape hv with ⟨i, t, rfl, rfl⟩ | ⟨x, t, rfl, rfl⟩
    · exact wpAny_pyHash_int h
    · exact wpAny_pyHash_str h
  eqBool := fun hu hv h => by
    rcases keyIs_shape hu with ⟨i, t, rfl, rfl⟩ | ⟨x, t, rfl, rfl⟩
    · rcases keyIs_shape hv with ⟨j, u, rfl, rfl⟩ | ⟨y, u, rfl, rfl⟩
      · rw [key_ll] at h; exact wpAny_eqBool_int h
      · rw [key_lr] at h; exact SeqAt.EqAt.int_str i t y u _ _ _ _ h
    · rcases keyIs_shape hv with ⟨j, u, rfl, rfl⟩ | ⟨y, u, rfl, rfl⟩
      · rw [key_rl] at h; exact SeqAt.EqAt.str_int x t j u _ _ _ _ h
      · rw [key_rr] at h; exact wpAny_eqBool_str h
  «strs» := fun k x t v h => by
    rcases keyIs_shape h with ⟨i, u, rfl, e⟩ | ⟨y, u, rfl, e⟩
    · exact nomatch e
    · injection e with e1 _
      subst e1
      cases v <;> rfl
end L2
namespace L2
open PySem PySem.Spec PyProof.Rows
inductive V where
  | non | bl (b : Bool) | int (i : Int) | str (x : Str) | byt (b : Array UInt8) | flt (b : UInt64) | ref (a : Addr) | ty (n : String)
  deriving DecidableEq
noncomputable def RelV : V → Value → Prop
  | .non, u => u = Value.none
  | .bl b, u => u = Value.bool b
  | .int i, u => ∃ t, u = Value.int i t
  | .str x, u => ∃ t, u = Value.str x t
  | .byt b, u => ∃ t, u = Value.bytes b t
  | .flt b, u => ∃ t, u = Value.float b t
  | .ref a, u => u = Value.ref a
  | .ty n, u => u = Value.type n
noncomputable abbrev Vals : List V → List Value → Prop := Paired RelV
theorem Vals.length {xs : List V} {us : List Value} (r : Vals xs us) : xs.length = us.length := Paired.length r
theorem Vals.get : ∀ {xs : List V} {us : List Value} {i : Nat} {x : V}, Vals xs us → xs[i]? = some x → ∃ u, us[i]? = some u ∧ RelV x u
  | _, _, _, _, .nil, e => by simp at e
  | _, _, 0, _, .cons r _, e => by simp at e; subst e; exact ⟨_, rfl, r⟩
  | _, _, i + 1, x, .cons _ t, e => by
    obtain ⟨u, h1, h2⟩ := Vals.get (i := i) (x := x) t (by simpa using e)
    exact ⟨u, by simpa using h1, h2⟩
theorem Vals.set {x : V} {u : Value} (r : RelV x u) : ∀ {xs : List V} {us : List Value} (i : Nat), Vals xs us → Vals (xs.set i x) (us.set i u)
  | _, _, _, .nil => .nil
  | _, _, 0, .cons _ t => .cons r t
  | _, _, i + 1, .cons q t => .cons q (Vals.set r i t)
theorem Vals.append : ∀ {xs ys : List V} {us ws : List Value}, Vals xs us → Vals ys ws → Vals (xs ++ ys) (us ++ ws)
  | _, _, _, _, .nil, s => s
  | _, _, _, _, .cons r t, s => .cons r (Vals.append t s)
theorem Vals.take : ∀ {xs : List V} {us : List Value} (n : Nat), Vals xs us → Vals (xs.take n) (us.take n)
  | _, _, 0, _ => .nil
  | _, _, _ + 1, .nil => .nil
  | _, _, n + 1, .cons r t => .cons r (Vals.take n t)
theorem Vals.drop : ∀ {xs : List V} {us : List Value} (n : Nat), Vals xs us → Vals (xs.drop n) (us.drop n)
  | _, _, 0, r => r
  | _, _, _ + 1, .nil => .nil
  | _, _, n + 1, .cons _ t => Vals.drop n t
noncomputable def RelO : Option V → Option Value → Prop
  | some v, some u => RelV v u
  | none, none => True
  | _, _ => False
noncomputable def KV {κ : Type} : List (κ × V) → List (κ × Value) → Prop := Paired fun (p : κ × V) (q : κ × Value) => p.1 = q.1 ∧ RelV p.2 q.2
noncomputable def kV : Key → V
  | .inl i => .int i
  | .inr x => .str x
inductive HO where
  | lst (xs : List V)
  | tup (xs : List V)
  | dK (kvs : List (Key × V)) | dT (kvs : List (List Key × V))
  | set (S : Int → Bool) (n : Nat)
  | ins (C dx : Addr) (fs : List (Str × V))
  | own (x : Addr)
  | xd (fs : List (Str × V))
  | met (f x : Addr)
  | rng (lo hi : Int)
  | frz (o : Obj) (u : HO)
  | tbl (ps : Array Value)
  | ext (φ : Heap → Prop)
noncomputable abbrev Hp := Addr → Option HO
noncomputable def upd (H : Hp) (a : Addr) (o : HO) : Hp := fun b => if b = a then some o else H b
theorem upd_same {H : Hp} {a : Addr} {o : HO} : upd H a o a = some o := by unfold upd; rw [if_pos rfl]
theorem upd_ne {H : Hp} {a b : Addr} {o : HO} (h : b ≠ a) : upd H a o b = H b := by unfold upd; rw [if_neg h]
theorem ne_of_none {H : Hp} {a b : Addr} {o : HO} (h : H a = some o) (h' : H b = none) : a ≠ b := by
  intro e; subst e; rw [h] at h'; cases h'
section
variable (P : Program) (w : World)
noncomputable def ObjOk (H : Hp) (h : Heap) (a : Addr) : HO → Prop
  | .lst xs => xs.length ≤ sizeLine ∧ ∃ (its : List Value) (n : Nat), Vals xs its ∧ h.get? a = some { cls := .type "list", data := .seq its.toArray n }
  | .tup xs => xs.length ≤ sizeLine ∧ ∃ its : List Value, Vals xs its ∧ IsTup h a its.toArray
  | .dK kvs => kvs.length ≤ sizeLine ∧ (a == sysModules) = false ∧ ∃ vs, KV kvs vs ∧ h.DictOf (mixKind P w) a vs
  | .dT kvs => kvs.length ≤ sizeLine ∧ (a == sysModules) = false ∧ ∃ xs : List (List Key × Addr × Value),
      Paired (fun (p : List Key × V) (q : List Key × Addr × Value) => p.1 = q.1 ∧ H q.2.1 = some (.tup (p.1.map kV)) ∧ RelV p.2 q.2.2) kvs xs ∧
      ∃ o es ep, h.get? a = some o ∧ o.ExactDict ∧ o.data = .dict es ep ∧ es.toList = xs.map (entryOfKey (tupleKind (mixKind P w))) ∧ (xs.map (·.1)).Nodup
  | .set S n => h.SetOf (intKind P w) a S n
  | .ins C dx fs => H dx = some (.own a) ∧ fs.length ≤ 1000 ∧ dx ≠ a ∧ h.get? a = some (PySem.W.instObj C dx) ∧
      ∃ mA, h.Ns1 dx mA ∧ (∀ f, RelO (fs.lookup f) (mA f)) ∧ PySem.Within mA (fs.map (·.1))
  | .own _ => ∃ o, h.get? a = some o
  | .xd fs => ∃ mA, h.Ns1 a mA ∧ ∀ f, RelO (fs.lookup f) (mA f)
  | .rng lo hi => ∃ t u v, h.get? a = some { cls := .type "range", data := .fields #[.int lo t, .int hi u, .int 1 v] }
  | .frz o u => h.get? a = some o ∧ ObjOk H h a u
  | .tbl ps => h.get? a = some { cls := .none, data := .fields ps }
  | .met f x => h.get? a = some (PySem.W.methodObj (.ref f) (.ref x))
  | .ext φ => φ h ∧ (∃ o, h.get? a = some o) ∧ ∀ h1 h2 : Heap, φ h1 → (∀ o, h1.get? a = some o → h2.get? a = some o) → φ h2
noncomputable def HOk (H : Hp) (h : Heap) : Prop := ∀ a o, H a = some o → ObjOk P w H h a o
end
section
variable {P : Program} {w : World} {H H' : Hp} {h h' : Heap} {a : Addr} {o : HO}
theorem ObjOk.lt (x : ObjOk P w H h a o) : a < h.objs.size := by
  cases o with
  | lst xs => obtain ⟨_, _, _, _, e⟩ := x; exact Heap.lt_size e
  | tup xs => obtain ⟨_, _, _, p⟩ := x; exact p.lt
  | dK kvs => obtain ⟨_, _, _, _, o, _, _, e, _⟩ := x; exact Heap.lt_size e
  | dT kvs => obtain ⟨_, _, _, _, o, _, _, e, _⟩ := x; exact Heap.lt_size e
  | set S n => obtain ⟨o, _, _, _, e, _⟩ := x; exact Heap.lt_size e
  | ins C dx fs => obtain ⟨_, _, _, e, _⟩ := x; exact Heap.lt_size e
  | own y => obtain ⟨_, e⟩ := x; exact Heap.lt_size e
  | xd fs => obtain ⟨_, ⟨_, _, _, e, _⟩, _⟩ := x; exact Heap.lt_size e
  | rng lo hi => obtain ⟨_, _, _, e⟩ := x; exact Heap.lt_size e
  | frz ob u => obtain ⟨e, _⟩ := x; exact Heap.lt_size e
  | tbl ps => exact Heap.lt_size (show h.get? a = some _ from x)
  | met f y => exact Heap.lt_size (show h.get? a = some _ from x)
  | ext φ => obtain ⟨_, ⟨_, e⟩, _⟩ := x; exact Heap.lt_size e
theorem Paired.mapP {α β : Type} {F G : α → β → Prop} : ∀ {l₁ : List α} {l₂ : List β}, Paired F l₁ l₂ → (∀ a b, F a b → G a b) → Paired G l₁ l₂
  | _, _, .nil, _ => .nil
  | _, _, .cons r t, f => .cons (f _ _ r) (Paired.mapP t f)
theorem ObjOk.stay (x : ObjOk P w H h a o) (k : ∀ b u, (b = a ∨ H b = some (.own a)) → h.get? b = some u → h'.get? b = some u)
    (ho : ∀ b, H b = some (.own a) → H' b = some (.own a)) (ht : ∀ b xs, H b = some (.tup xs) → H' b = some (.tup xs)) : ObjOk P w H' h' a o := by
  induction o with
  | lst xs => obtain ⟨z, its, n, r, e⟩ := x; exact ⟨z, its, n, r, k _ _ (.inl rfl) e⟩
  | tup xs => obtain ⟨z, its, r, ob, e, c⟩ := x; exact ⟨z, its, r, ob, k _ _ (.inl rfl) e, c⟩
  | dK kvs => obtain ⟨z, y, vs, r, ob, es, ep, e, c⟩ := x; exact ⟨z, y, vs, r, ob, es, ep, k _ _ (.inl rfl) e, c⟩
  | dT kvs =>
    obtain ⟨z, y, xs, r, ob, es, ep, e, c⟩ := x
    exact ⟨z, y, xs, Paired.mapP r fun p q z => ⟨z.1, ht _ _ z.2.1, z.2.2⟩, ob, es, ep, k _ _ (.inl rfl) e, c⟩
  | set S n => obtain ⟨ob, es, ep, t, e, c⟩ := x; exact ⟨ob, es, ep, t, k _ _ (.inl rfl) e, c⟩
  | ins C dx fs =>
    obtain ⟨d, z, ne, e, mA, ⟨od, es, ep, e2, c⟩, r⟩ := x
    exact ⟨ho _ d, z, ne, k _ _ (.inl rfl) e, mA, ⟨od, es, ep, k _ _ (.inr d) e2, c⟩, r⟩
  | own y => obtain ⟨ob, e⟩ := x; exact ⟨ob, k _ _ (.inl rfl) e⟩
  | xd fs => obtain ⟨mA, ⟨od, es, ep, e, c⟩, r⟩ := x; exact ⟨mA, ⟨od, es, ep, k _ _ (.inl rfl) e, c⟩, r⟩
  | rng lo hi => obtain ⟨t, u, v, e⟩ := x; exact ⟨t, u, v, k _ _ (.inl rfl) e⟩
  | frz ob u ih => obtain ⟨e, q⟩ := x; exact ⟨k _ _ (.inl rfl) e, ih q⟩
  | tbl ps =>
    have e : h.get? a = some { cls := .none, data := .fields ps } := x
    show h'.get? a = some { cls := .none, data := .fields ps }
    exact k a _ (.inl rfl) e
  | met f y =>
    have e : h.get? a = some (PySem.W.methodObj (.ref f) (.ref y)) := x
    show h'.get? a = some (PySem.W.methodObj (.ref f) (.ref y))
    exact k a _ (.inl rfl) e
  | ext φ => obtain ⟨p, ⟨o, e⟩, st⟩ := x; exact ⟨st _ _ p fun o q => k _ _ (.inl rfl) q, ⟨o, k _ _ (.inl rfl) e⟩, st⟩
theorem HOk.lt (x : HOk P w H h) (e : H a = some o) : a < h.objs.size := (x a o e).lt
theorem HOk.fresh (x : HOk P w H h) (e : h.objs.size ≤ a) : H a = none := by
  cases q : H a with
  | none => rfl
  | some u => exact absurd (Nat.lt_of_lt_of_le (x.lt q) e) (Nat.lt_irrefl _)
theorem HOk.kept (x : HOk P w H h) (k : ∀ b u, h.get? b = some u → h'.get? b = some u) : HOk P w H h' := fun a o e =>
  (x a o e).stay (fun b u _ q => k b u q) (fun _ q => q) fun _ _ q => q
theorem HOk.laid (x : HOk P w H h) (k : ∀ b u, h.get? b = some u → h'.get? b = some u) (hp : h.objs.size ≤ a) (new : ObjOk P w (upd H a o) h' a o) : HOk P w (upd H a o) h' := fun b u e => by
  have hn := x.fresh hp
  by_cases hb : b = a
  · subst hb; rw [upd_same] at e; cases e; exact new
  · rw [upd_ne hb] at e
    exact (x b u e).stay (fun c v _ q => k c v q) (fun c q => by rw [upd_ne (ne_of_none q hn)]; exact q) fun c xs q => by rw [upd_ne (ne_of_none q hn)]; exact q
end
noncomputable def Rd (H : Hp) (a : Addr) (u : HO) : Prop := H a = some u ∨ ∃ o, H a = some (.frz o u)
theorem Rd.ok {P : Program} {w : World} {H : Hp} {h : Heap} {a : Addr} {u : HO} (r : Rd H a u) (x : HOk P w H h) : ObjOk P w H h a u := by
  rcases r with r | ⟨o, r⟩
  · exact x a u r
  · obtain ⟨_, q⟩ := x a _ r
    exact q
noncomputable def Mut : Option HO → Prop
  | some (.lst _) => True
  | some (.dK _) => True
  | some (.dT _) => True
  | some (.set _ _) => True
  | some (.ins _ _ _) => True
  | some (.ext _) => True
  | _ => False
section
variable {P : Program} {w : World} {H : Hp} {h h' : Heap} {x e : Addr} {o' : HO}
theorem HOk.write (ok : HOk P w H h) (mu : Mut (H x)) (he : e = x ∨ H e = some (.own x)) (k : ∀ b u, b ≠ e → h.get? b = some u → h'.get? b = some u) (heo : ∃ u, h'.get? e = some u)
    (new : ObjOk P w (upd H x o') h' x o') : HOk P w (upd H x o') h' := fun b u q => by
  have nown : ∀ c y, H c = some (.own y) → c ≠ x := fun c y r z => by subst z; rw [r] at mu; exact mu
  have ntup : ∀ c xs, H c = some (.tup xs) → c ≠ x := fun c xs r z => by subst z; rw [r] at mu; exact mu
  by_cases hb : b = x
  · subst hb; rw [upd_same] at q; cases q; exact new
  · rw [upd_ne hb] at q
    by_cases hbe : b = e
    · have q' : H b = some (.own x) := by
        rcases he with z | z
        · exact absurd (hbe.trans z) hb
        · rw [hbe]; exact z
      rw [q] at q'; cases q'
      obtain ⟨v, hv⟩ := heo
      exact ⟨v, by rw [hbe]; exact hv⟩
    · refine (ok b u q).stay (fun c v hc r => k c v ?_ r) (fun c r => by rw [upd_ne (nown c b r)]; exact r) fun c xs r => by rw [upd_ne (ntup c xs r)]; exact r
      rcases hc with rfl | hc
      · exact hbe
      · rintro rfl
        rcases he with z | z
        · exact nown c b hc z
        · rw [hc] at z; cases z; exact hb rfl
end
structure Un (fs ex : List Addr) (H H' : Hp) (h h' : Heap) : Prop where
  keep : ∀ b o, h.get? b = some o → H b = none → b ∉ fs → b ∉ ex → h'.get? b = some o
  slot : ∀ b o, h.get? b = some o → H b = none → b ∈ fs → b ∉ ex → ∃ sl, h'.get? b = some { o with slots := sl }
  free : ∀ b o, h.get? b = some o → H b = none → b ∉ ex → H' b = none
  there : ∀ b o, h.get? b = some o → b ∉ ex → ∃ o', h'.get? b = some o'
  tups : ∀ b xs, H b = some (.tup xs) → H' b = some (.tup xs)
  frzs : ∀ b o u, H b = some (.frz o u) → H' b = some (.frz o u)
  tbls : ∀ b ps, H b = some (.tbl ps) → ∃ more, H' b = some (.tbl (ps ++ more))
section
variable {fs fs' ex ex' : List Addr} {H H1 H2 : Hp} {h h1 h2 h' : Heap} {a x e : Addr} {o : HO}
theorem Un.any (u : Un fs ex H H1 h h1) {b : Addr} {ob : Obj} (q : h.get? b = some ob) (n : H b = none) (hx : b ∉ ex) : ∃ sl, h1.get? b = some { ob with slots := sl } := by
  by_cases hb : b ∈ fs
  · exact u.slot b ob q n hb hx
  · exact ⟨ob.slots, u.keep b ob q n hb hx⟩
theorem Un.kept (k : ∀ b u, h.get? b = some u → h'.get? b = some u) : Un fs ex H H h h' :=
  ⟨fun b ob q _ _ _ => k b ob q, fun b ob q _ _ _ => ⟨ob.slots, k b ob q⟩, fun _ _ _ n _ => n, fun b ob q _ => ⟨ob, k b ob q⟩, fun _ _ q => q, fun _ _ _ q => q, fun _ ps q => ⟨#[], by rw [q]; simp⟩⟩
theorem Un.refl : Un fs ex H H h h := Un.kept fun _ _ q => q
theorem Un.laid (k : ∀ b u, h.get? b = some u → h'.get? b = some u) (hp : h.objs.size ≤ a) (hn : H a = none) : Un fs ex H (upd H a o) h h' where
  keep := fun b u q _ _ _ => k b u q
  slot := fun b u q _ _ _ => ⟨u.slots, k b u q⟩
  free := fun b u q n _ => by rw [upd_ne (Nat.ne_of_lt (Nat.lt_of_lt_of_le (Heap.lt_size q) hp))]; exact n
  there := fun b u q _ => ⟨u, k b u q⟩
  tups := fun b xs q => by rw [upd_ne (ne_of_none q hn)]; exact q
  frzs := fun b u xs q => by rw [upd_ne (ne_of_none q hn)]; exact q
  tbls := fun b ps q => ⟨#[], by rw [upd_ne (ne_of_none q hn), q]; simp⟩
theorem Un.write (mu : Mut (H x)) (he : e = x ∨ H e = some (.own x)) (k : ∀ b u, b ≠ e → h.get? b = some u → h'.get? b = some u) (heo : ∃ u, h'.get? e = some u) : Un fs ex H (upd H x o) h h' := by
  have hx : ∀ b, H b = none → b ≠ x := fun b n z => by subst z; rw [n] at mu; exact mu
  have hb : ∀ b, H b = none → b ≠ e := fun b n z => by
    subst z
    rcases he with r | r
    · exact hx b n r
    · rw [n] at r; cases r
  have hm : ∀ b u, H b = some u → ¬ Mut (some u) → b ≠ x := fun b u q nm z => by subst z; rw [q] at mu; exact nm mu
  refine ⟨fun b u q n _ _ => k b u (hb b n) q, fun b u q n _ _ => ⟨u.slots, k b u (hb b n) q⟩, fun b u q n _ => by rw [upd_ne (hx b n)]; exact n, fun b u q _ => ?_,
    fun b xs q => by rw [upd_ne (hm b _ q fun z => z)]; exact q, fun b u xs q => by rw [upd_ne (hm b _ q fun z => z)]; exact q, fun b ps q => ⟨#[], by rw [upd_ne (hm b _ q fun z => z), q]; simp⟩⟩
  by_cases hbe : b = e
  · subst hbe; exact heo
  · exact ⟨u, k b u hbe q⟩
end
noncomputable def trk (h : Heap) (H : Hp) : List Addr := (List.range h.objs.size).filter fun a => (H a).isSome
noncomputable def hidT (h : Heap) (H : Hp) : Heap := PySem.W.hideAll h (trk h H)
theorem hidT_size (h : Heap) (H : Hp) : (hidT h H).objs.size = h.objs.size := PySem.W.hideAll_size _ _
theorem hidT_get {h : Heap} {H : Hp} {b : Addr} {o : Obj} (e : h.get? b = some o) (n : H b = none) : (hidT h H).get? b = some o :=
  PySem.W.hideAll_get _ e fun hm => by
    have q : (H b).isSome = true := (List.mem_filter.mp hm).2
    rw [n] at q; simp at q
theorem of_hidT {h : Heap} {H : Hp} {b : Addr} {o : Obj} (e : (hidT h H).get? b = some o) : h.get? b = some o ∧ H b = none := by
  have e' : h.get? b = some o := PySem.W.of_hideAll (trk h H) e
  refine ⟨e', ?_⟩
  cases q : H b with
  | none => rfl
  | some x =>
    have hm : b ∈ trk h H := List.mem_filter.mpr ⟨List.mem_range.mpr (Heap.lt_size e'), by simp [q]⟩
    have z : (hidT h H).get? b = none := PySem.W.hideAll_none (trk h H) hm
    rw [z] at e; cases e
end L2
namespace L2
open PySem PySem.Spec PyProof.Rows
structure Mod (K : PySem.W.Frag) (mg : Str → Option Value) (base : Heap) : Prop where
  kin : K.In base
  glob : base.Ns mainGlobals mg
  blt : ∃ mb, base.Ns builtinsNs mb ∧ ∀ x : Str, x ≠ "__name__" → mb x = bootBuiltins x
  nolimit : base.NoLimit
/-- the context: a def's body (or a comprehension's block) running. base: fixed through the whole law; s₀, H₀: the entry; outer: the frames whose slots others may change (a def's callers); stack: all frames that run;
   ex: iterators that were made ahead of the entry and are walked here (a comprehension's); fn: the names whose cells were made at the entry (a def: all; a comprehension's block: its own); calm: not within an except suite; pn: pins that every state bears; xe: what is wanted of an exception that leaves the code -/
structure Cx where
  prog : Program
  w : World
  K : PySem.W.Frag
  mg : Str → Option Value
  base : Heap
  A : Around
  N : List Str
  s₀ : Shared
  H₀ : Hp
  env : Env
  outer : List Env
  stack : List Env
  ex : List Addr
  fn : Str → Bool
  calm : Bool
  pn : List (Addr × Obj)
  xe : Value → Shared → Prop
noncomputable def frs (l : List Env) : List Addr := l.filterMap (·.frame)
noncomputable abbrev Cx.fs (X : Cx) : List Addr := frs X.outer
noncomputable def Vis (sc : Scope) (x : Str) : Prop := sc.names.lookup x = some .local ∨ sc.names.lookup x = some .cell ∨ sc.names.lookup x = some .free
noncomputable def Loc (sc : Scope) (x : Str) : Prop := sc.names.lookup x = some .local ∨ sc.names.lookup x = some .cell
noncomputable def Look (env : Env) (h : Heap) (m : Str → Option Value) (x : Str) (u : Value) : Prop :=
  (env.kindOf x = some .local ∧ m x = some u) ∨ ((env.kindOf x = some .cell ∨ env.kindOf x = some .free) ∧ ∃ c, env.cells.lookup x = some c ∧ h.IsCell c (some u))
structure Cx.Ok (X : Cx) : Prop where
  mod : Mod X.K X.mg X.base
  kind : X.env.scope.kind = .function
  glob : X.env.globals = mainGlobals
  blt : X.env.builtins = builtinsNs
  above : X.s₀.heap.objs.size ≤ X.env.locals
  inj : ∀ x y c, X.env.cells.lookup x = some c → X.env.cells.lookup y = some c → x = y
  has : ∀ x, (X.env.kindOf x = some .cell ∨ X.env.kindOf x = some .free) → ∃ c, X.env.cells.lookup x = some c
  cab : ∀ x c, X.fn x = true → X.env.cells.lookup x = some c → X.s₀.heap.objs.size ≤ c
  hd : X.calm = true → X.A.handled = none
  frames : X.A.frames = some X.stack
  stk : X.stack = X.outer ∨ (X.stack = X.env :: X.outer ∧ X.env.frame = some X.env.locals)
  exf : ∀ b ∈ X.ex, b ≠ X.env.locals ∧ ∀ x c, X.env.cells.lookup x = some c → c ≠ b
  bs : ∀ b o, X.base.get? b = some o → X.s₀.heap.get? b = some o ∧ X.H₀ b = none
  bsz : X.base.objs.size ≤ X.s₀.heap.objs.size
  noex : ∀ b o, X.base.get? b = some o → b ∉ X.ex
  exfs : ∀ b ∈ X.ex, b ∉ X.fs
  funs : X.s₀.heap.FunFrames X.base X.outer
  frf : ∀ b ∈ X.fs, X.H₀ b = none
structure Inv (X : Cx) (pins : List (Addr × Obj)) (σ : List (Option V)) (H : Hp) (s : Shared) : Prop where
  ok : X.Ok
  os : s.os = X.s₀.os
  bare : AllBare s.gens
  base : Un X.fs X.ex X.H₀ H X.s₀.heap s.heap
  loc : ∃ m, s.heap.Ns X.env.locals m ∧ ∀ (i : Nat) (x : Str) (v : V), X.N[i]? = some x → σ[i]? = some (some v) → Vis X.env.scope x → ∃ u, RelV v u ∧ Look X.env s.heap m x u
  cell : ∀ x c, X.env.cells.lookup x = some c → ∃ v, s.heap.IsCell c v
  free : H X.env.locals = none
  freeC : ∀ x c, X.env.cells.lookup x = some c → H c = none
  pin : ∀ p ∈ X.pn ++ pins, s.heap.get? p.1 = some p.2 ∧ H p.1 = none ∧ p.1 ≠ X.env.locals ∧ p.1 ∉ X.fs ∧ ∀ v, p.2.data ≠ .cell v
  hok : HOk X.prog X.w H s.heap
  len : σ.length = X.N.length
section
variable {X : Cx} {pins : List (Addr × Obj)} {σ : List (Option V)} {H H' : Hp} {s : Shared} {h' : Heap}
theorem Cx.Ok.nofr (ok : X.Ok) {b : Addr} {o : Obj} (e : X.base.get? b = some o) : b ∉ X.fs := fun hb => by
  have := (ok.funs.mem hb).1
  rw [e] at this; cases this
theorem Inv.bs (I : Inv X pins σ H s) : ∀ b o, X.base.get? b = some o → s.heap.get? b = some o ∧ H b = none := fun b o e =>
  ⟨I.base.keep b o (I.ok.bs b o e).1 (I.ok.bs b o e).2 (I.ok.nofr e) (I.ok.noex b o e), I.base.free b o (I.ok.bs b o e).1 (I.ok.bs b o e).2 (I.ok.noex b o e)⟩
theorem Inv.bk (I : Inv X pins σ H s) : ∀ b o, X.base.get? b = some o → s.heap.get? b = some o := fun b o e => (I.bs b o e).1
theorem Inv.mod (I : Inv X pins σ H s) : Mod X.K X.mg X.base := I.ok.mod
theorem Inv.kIn (I : Inv X pins σ H s) : X.K.In s.heap := I.ok.mod.kin.keeps I.bk
theorem Inv.lt (I : Inv X pins σ H s) : X.env.locals < s.heap.objs.size := let ⟨_, hn, _⟩ := I.loc; hn.lt
theorem Inv.sz (I : Inv X pins σ H s) : X.s₀.heap.objs.size ≤ s.heap.objs.size := Nat.le_trans I.ok.above (Nat.le_of_lt I.lt)
theorem Inv.nofs (I : Inv X pins σ H s) {a : Addr} (h : s.heap.objs.size ≤ a) : a ∉ X.fs := fun hb => by
  obtain ⟨_, o, ho, _⟩ := I.ok.funs.mem hb
  exact absurd (Nat.lt_of_lt_of_le (Heap.lt_size ho) (Nat.le_trans I.sz h)) (Nat.lt_irrefl _)
theorem Inv.cne (I : Inv X pins σ H s) : ∀ x c, X.env.cells.lookup x = some c → c ≠ X.env.locals := fun x c e z => by
  obtain ⟨v, o, ho, hd⟩ := I.cell x c e
  obtain ⟨m, ⟨o', es, ep, ho', hd', _⟩, _⟩ := I.loc
  rw [z, ho'] at ho; cases ho; rw [hd'] at hd; cases hd
theorem Inv.funs (I : Inv X pins σ H s) : s.heap.FunFrames X.base X.outer := by
  have all : ∀ (l : List Env), (∀ b ∈ frs l, b ∈ X.fs) → X.s₀.heap.FunFrames X.base l → s.heap.FunFrames X.base l := by
    intro l
    induction l with
    | nil => intro _ _; trivial
    | cons env r ih =>
      intro hs hl
      obtain ⟨hk, ⟨L, o, hf, hn, ho, hd⟩, hr⟩ := hl
      have hL : L ∈ X.fs := hs L (by unfold frs; rw [List.filterMap_cons, hf]; exact List.mem_cons_self)
      obtain ⟨sl, e⟩ := I.base.slot L o ho (I.ok.frf L hL) hL fun z => I.ok.exfs L z hL
      exact ⟨hk, ⟨L, _, hf, hn, e, hd⟩, ih (fun b hb => hs b (by unfold frs; rw [List.filterMap_cons, hf]; exact List.mem_cons_of_mem _ hb)) hr⟩
  exact all X.outer (fun _ hb => hb) I.ok.funs
theorem Inv.stack (I : Inv X pins σ H s) : s.heap.FunFrames X.base X.stack := by
  rcases I.ok.stk with e | ⟨e, hf⟩
  · rw [e]; exact I.funs
  · rw [e]
    obtain ⟨m, hn, _⟩ := I.loc
    refine .cons (by rw [I.ok.kind]; decide) hf hn ?_ I.funs
    exact Heap.get?_none_of_le (Nat.le_trans I.ok.bsz I.ok.above)
theorem Inv.stkSub (I : Inv X pins σ H s) : ∀ b ∈ frs X.stack, b ∈ X.env.locals :: X.fs := fun b hb => by
  rcases I.ok.stk with e | ⟨e, hf⟩
  · rw [e] at hb; exact List.mem_cons_of_mem _ hb
  · rw [e] at hb
    unfold frs at hb
    rw [List.filterMap_cons, hf] at hb
    exact hb
theorem Inv.stkFree (I : Inv X pins σ H s) : ∀ b ∈ frs X.stack, H b = none := fun b hb => by
  rcases List.mem_cons.mp (I.stkSub b hb) with e | hb
  · rw [e]; exact I.free
  · obtain ⟨_, o, ho, _⟩ := I.ok.funs.mem hb
    exact I.base.free b o ho (I.ok.frf b hb) fun z => I.ok.exfs b z hb
theorem Inv.step {g' : Array GenState} {t' : Nat} {d' : Drawn} {ch : List Addr} (I : Inv X pins σ H s)
    (hch : ∀ b ∈ ch, (b ∈ X.ex ∨ X.s₀.heap.objs.size ≤ b) ∧ b ≠ X.env.locals ∧ (∀ x c, X.env.cells.lookup x = some c → c ≠ b) ∧ ∀ p ∈ X.pn ++ pins, p.1 ≠ b)
    (keep : ∀ b o, b ≠ X.env.locals → b ∉ X.fs → b ∉ ch → s.heap.get? b = some o → H b = none → h'.get? b = some o)
    (slot : ∀ b o, b ≠ X.env.locals → b ∈ X.fs → b ∉ ch → s.heap.get? b = some o → H b = none → ∃ sl, h'.get? b = some { o with slots := sl }) (free : ∀ b o, b ∉ ch → s.heap.get? b = some o → H b = none → H' b = none)
    (there : ∀ b o, b ∉ ch → s.heap.get? b = some o → ∃ o', h'.get? b = some o')
    (tups : ∀ b xs, H b = some (.tup xs) → H' b = some (.tup xs)) (frzs : ∀ b o u, H b = some (.frz o u) → H' b = some (.frz o u)) (tbls : ∀ b ps, H b = some (.tbl ps) → ∃ more, H' b = some (.tbl (ps ++ more)))
    (ns : ∀ m, s.heap.Ns X.env.locals m → h'.Ns X.env.locals m) (hok : HOk X.prog X.w H' h') (hg : AllBare g') :
    Inv X pins σ H' { s with heap := h', gens := g', drawn := d', toks := t' } := by
  have neL : ∀ b o, X.s₀.heap.get? b = some o → b ≠ X.env.locals := fun b o e => Nat.ne_of_lt (Nat.lt_of_lt_of_le (Heap.lt_size e) I.ok.above)
  have neC : ∀ b o, X.s₀.heap.get? b = some o → b ∉ X.ex → b ∉ ch := fun b o e hx hb => by
    rcases (hch b hb).1 with z | z
    · exact hx z
    · exact absurd (Nat.lt_of_lt_of_le (Heap.lt_size e) z) (Nat.lt_irrefl _)
  have cellK : ∀ x c, X.env.cells.lookup x = some c → ∀ v, s.heap.IsCell c v → h'.IsCell c v := fun x c e v ⟨o, ho, hd⟩ => by
    have nch : c ∉ ch := fun z => (hch c z).2.2.1 x c e rfl
    by_cases hc : c ∈ X.fs
    · obtain ⟨sl, q⟩ := slot c o (I.cne x c e) hc nch ho (I.freeC x c e)
      exact ⟨_, q, hd⟩
    · exact ⟨o, keep c o (I.cne x c e) hc nch ho (I.freeC x c e), hd⟩
  refine ⟨I.ok, I.os, hg, ⟨fun b o e n hb hx => ?_, fun b o e n hb hx => ?_, fun b o e n hx => ?_, fun b o e hx => ?_, fun b xs e => tups b xs (I.base.tups b xs e), fun b o xs e => frzs b o xs (I.base.frzs b o xs e), fun b ps e => ?_⟩, ?_, fun x c e => ?_, ?_, fun x c e => ?_, fun p hp => ?_, hok, I.len⟩
  · exact keep b o (neL b o e) hb (neC b o e hx) (I.base.keep b o e n hb hx) (I.base.free b o e n hx)
  · obtain ⟨sl, e1⟩ := I.base.slot b o e n hb hx
    obtain ⟨sl', e2⟩ := slot b _ (neL b o e) hb (neC b o e hx) e1 (I.base.free b o e n hx)
    exact ⟨sl', e2⟩
  · obtain ⟨o', e1⟩ := I.base.there b o e hx
    exact free b o' (neC b o e hx) e1 (I.base.free b o e n hx)
  · obtain ⟨o', e1⟩ := I.base.there b o e hx
    exact there b o' (neC b o e hx) e1
  · obtain ⟨m1, e1⟩ := I.base.tbls b ps e
    obtain ⟨m2, e2⟩ := tbls b _ e1
    exact ⟨m1 ++ m2, by rw [e2, Array.append_assoc]⟩
  · obtain ⟨m, hn, hl⟩ := I.loc
    refine ⟨m, ns m hn, fun i x v e1 e2 e3 => ?_⟩
    obtain ⟨u, r, l⟩ := hl i x v e1 e2 e3
    refine ⟨u, r, ?_⟩
    rcases l with l | ⟨k, c, e, z⟩
    · exact .inl l
    · exact .inr ⟨k, c, e, cellK x c e _ z⟩
  · obtain ⟨v, z⟩ := I.cell x c e
    exact ⟨v, cellK x c e v z⟩
  · obtain ⟨m, ⟨o, _, _, ho, _⟩, _⟩ := I.loc
    exact free _ o (fun z => (hch _ z).2.1 rfl) ho I.free
  · obtain ⟨v, o, ho, hd⟩ := I.cell x c e
    exact free c o (fun z => (hch c z).2.2.1 x c e rfl) ho (I.freeC x c e)
  · obtain ⟨e, n, ne, nf, d⟩ := I.pin p hp
    have nch : p.1 ∉ ch := fun z => (hch p.1 z).2.2.2 p hp rfl
    exact ⟨keep p.1 p.2 ne nf nch e n, free p.1 p.2 nch e n, ne, nf, d⟩
theorem Inv.un {t' : Nat} (I : Inv X pins σ H s) (u : Un X.fs [] H H' s.heap h') (hok : HOk X.prog X.w H' h') : Inv X pins σ H' { s with heap := h', toks := t' } := by
  obtain ⟨m, ⟨o, es, ep, ho, r⟩, _⟩ := id I.loc
  obtain ⟨sl, hL⟩ := u.any ho I.free (by simp)
  exact I.step (g' := s.gens) (d' := s.drawn) (ch := []) (fun _ z => nomatch z) (fun b o _ hb _ e n => u.keep b o e n hb (by simp)) (fun b o _ hb _ e n => u.slot b o e n hb (by simp)) (fun b o _ e n => u.free b o e n (by simp)) (fun b o _ e => u.there b o e (by simp)) u.tups u.frzs u.tbls (fun m' hm => by
    obtain ⟨o', es', ep', ho', r'⟩ := hm
    rw [ho] at ho'; cases ho'
    exact ⟨_, es', ep', hL, r'⟩) hok I.bare
theorem Inv.call {g' : Array GenState} {t' : Nat} {d' : Drawn} {ch : List Addr} (I : Inv X pins σ H s) (u : Un (frs X.stack) ch H H' s.heap h') (hok : HOk X.prog X.w H' h') (hg : AllBare g')
    (hch : ∀ b ∈ ch, (b ∈ X.ex ∨ X.s₀.heap.objs.size ≤ b) ∧ b ≠ X.env.locals ∧ (∀ x c, X.env.cells.lookup x = some c → c ≠ b) ∧ ∀ p ∈ X.pn ++ pins, p.1 ≠ b) :
    Inv X pins σ H' { s with heap := h', gens := g', drawn := d', toks := t' } := by
  obtain ⟨m, ⟨o, es, ep, ho, r⟩, _⟩ := id I.loc
  obtain ⟨sl, hL⟩ := u.any ho I.free fun z => (hch _ z).2.1 rfl
  exact I.step (ch := ch) hch (fun b o hL hb hc e n => u.keep b o e n (fun z => (List.mem_cons.mp (I.stkSub b z)).elim hL hb) hc) (fun b o _ _ hc e n => u.any e n hc) (fun b o hc e n => u.free b o e n hc) (fun b o hc e => u.there b o e hc) u.tups u.frzs u.tbls (fun m' hm => by
    obtain ⟨o', es', ep', ho', r'⟩ := hm
    rw [ho] at ho'; cases ho'
    exact ⟨_, es', ep', hL, r'⟩) hok hg
theorem Inv.turned {t' : Nat} {it : Addr} (I : Inv X pins σ H s) (k : ∀ b o, b ≠ it → s.heap.get? b = some o → h'.get? b = some o) (hn : H it = none) (hL : it ≠ X.env.locals)
    (h1 : it ∈ X.ex ∨ X.s₀.heap.objs.size ≤ it) (h2 : ∀ x c, X.env.cells.lookup x = some c → c ≠ it) (h3 : ∀ p ∈ X.pn ++ pins, p.1 ≠ it) : Inv X pins σ H { s with heap := h', toks := t' } := by
  have nit : ∀ b u, H b = some u → b ≠ it := fun b u e z => by rw [z, hn] at e; cases e
  refine I.step (g' := s.gens) (d' := s.drawn) (ch := [it]) (fun b hb => ?_) (fun b o _ _ hc e _ => k b o (fun z => hc (by simp [z])) e) (fun b o _ _ hc e _ => ⟨o.slots, k b o (fun z => hc (by simp [z])) e⟩) (fun _ _ _ _ n => n)
    (fun b o hc e => ⟨o, k b o (fun z => hc (by simp [z])) e⟩) (fun _ _ e => e) (fun _ _ _ e => e) (fun b ps e => ⟨#[], by rw [e]; simp⟩) (fun m hm => ?_) (fun b u e => ?_) I.bare
  · have e : b = it := by simpa using hb
    subst e
    exact ⟨h1, hL, h2, h3⟩
  · obtain ⟨o, es, ep, ho, r⟩ := hm
    exact ⟨o, es, ep, k _ o (Ne.symm hL) ho, r⟩
  · refine (I.hok b u e).stay (fun c v hc q => k c v ?_ q) (fun _ q => q) fun _ _ q => q
    rcases hc with z | z
    · rw [z]; exact nit b u e
    · exact nit c _ z
theorem Inv.tok (I : Inv X pins σ H s) (t : Nat) : Inv X pins σ H { s with toks := t } := I.un (h' := s.heap) (t' := t) Un.refl I.hok
theorem Inv.kept {t' : Nat} (I : Inv X pins σ H s) (k : ∀ b u, s.heap.get? b = some u → h'.get? b = some u) : Inv X pins σ H { s with heap := h', toks := t' } := I.un (Un.kept k) (I.hok.kept k)
theorem Inv.laid {a : Addr} {o : HO} {t' : Nat} (I : Inv X pins σ H s) (k : ∀ b u, s.heap.get? b = some u → h'.get? b = some u) (hp : s.heap.objs.size ≤ a) (new : ObjOk X.prog X.w (upd H a o) h' a o) :
    Inv X pins σ (upd H a o) { s with heap := h', toks := t' } := I.un (Un.laid k hp (I.hok.fresh hp)) (I.hok.laid k hp new)
theorem Inv.write {x e : Addr} {o : HO} {t' : Nat} (I : Inv X pins σ H s) (mu : Mut (H x)) (he : e = x ∨ H e = some (.own x)) (k : ∀ b u, b ≠ e → s.heap.get? b = some u → h'.get? b = some u) (heo : ∃ u, h'.get? e = some u)
    (new : ObjOk X.prog X.w (upd H x o) h' x o) : Inv X pins σ (upd H x o) { s with heap := h', toks := t' } := I.un (Un.write mu he k heo) (I.hok.write mu he k heo new)
theorem Inv.pins_of {pins' : List (Addr × Obj)} (I : Inv X pins σ H s) (h : ∀ p ∈ pins', s.heap.get? p.1 = some p.2 ∧ H p.1 = none ∧ p.1 ≠ X.env.locals ∧ p.1 ∉ X.fs ∧ ∀ v, p.2.data ≠ .cell v) : Inv X pins' σ H s :=
  ⟨I.ok, I.os, I.bare, I.base, I.loc, I.cell, I.free, I.freeC, fun p hp => (List.mem_append.mp hp).elim (fun z => I.pin p (List.mem_append_left _ z)) (h p), I.hok, I.len⟩
theorem nodup_ix {N : List Str} (hN : N.Nodup) {i j : Nat} {x : Str} (a : N[i]? = some x) (b : N[j]? = some x) : i = j := by
  obtain ⟨h1, e1⟩ := List.getElem?_eq_some_iff.mp a
  obtain ⟨h2, e2⟩ := List.getElem?_eq_some_iff.mp b
  exact (List.getElem_inj hN).mp (e1.trans e2.symm)
theorem store_ok2 {M : Model} {A : Around} {E : Value → Shared → Prop} {i : Nat} {x : Str} {v : V} {u : Value} {Q : Unit → Shared → Prop} (I : Inv X pins σ H s) (hN : X.N.Nodup) (hi : X.N[i]? = some x) (hx : Loc X.env.scope x) (r : RelV v u)
    (h : ∀ s', Inv X pins (σ.set i (some v)) H s' → (∃ a, Heap.SameBut a s.heap s'.heap ∧ (a = X.env.locals ∨ X.env.cells.lookup x = some a)) → Q () s') (hf : X.fn x = true ∨ X.env.scope.names.lookup x = some .local := by first | exact .inl rfl | exact .inr rfl | assumption) : wpAny M A (storeName X.env x u) Q E s := by
  obtain ⟨m, hn, hl⟩ := id I.loc
  have hcls : (X.env.scope.kind == .class || (X.env.scope.kind == .module && X.env.locals != X.env.globals)) = false := by rw [I.ok.kind]; rfl
  have hiσ : i < σ.length := by rw [I.len]; exact (List.getElem?_eq_some_iff.mp hi).1
  have cne := I.cne
  have tracked : ∀ {a : Addr} {h' : Heap}, (∃ o, s.heap.get? a = some o ∧ H a = none) → Heap.SameBut a s.heap h' → HOk X.prog X.w H h' := fun {a h'} ha hs b ob e => by
    obtain ⟨_, _, hfree⟩ := ha
    refine (I.hok b ob e).stay (fun c w' hc q => (hs.2 c ?_).trans q) (fun _ q => q) fun _ _ q => q
    rintro rfl
    rcases hc with rfl | hc
    · rw [hfree] at e; cases e
    · rw [hfree] at hc; cases hc
  rcases hx with hk | hk
  · refine wpAny_storeName_local hk hn (fun h' hn' hs => ?_) hcls
    obtain ⟨oL, _, _, hoL, _⟩ := id hn
    refine h _ ⟨I.ok, I.os, I.bare, ⟨fun b o e n hb hx => ?_, fun b o e n hb hx => ?_, I.base.free, fun b o e hx => ?_, I.base.tups, I.base.frzs, I.base.tbls⟩, ⟨_, hn', fun j y v' e1 e2 e3 => ?_⟩, fun y c e => ?_, I.free, I.freeC, fun p hp => ?_, tracked ⟨oL, hoL, I.free⟩ hs, by simpa using I.len⟩ ⟨_, hs, .inl rfl⟩
    · exact (hs.2 b (Nat.ne_of_lt (Nat.lt_of_lt_of_le (Heap.lt_size e) I.ok.above))).trans (I.base.keep b o e n hb hx)
    · obtain ⟨sl, e1⟩ := I.base.slot b o e n hb hx
      exact ⟨sl, (hs.2 b (Nat.ne_of_lt (Nat.lt_of_lt_of_le (Heap.lt_size e) I.ok.above))).trans e1⟩
    · obtain ⟨o', e1⟩ := I.base.there b o e hx
      exact ⟨o', (hs.2 b (Nat.ne_of_lt (Nat.lt_of_lt_of_le (Heap.lt_size e) I.ok.above))).trans e1⟩
    · by_cases hj : j = i
      · subst hj
        rw [hi] at e1; cases e1
        rw [List.getElem?_set_self hiσ] at e2
        cases e2
        exact ⟨u, r, .inl ⟨hk, by simp⟩⟩
      · rw [List.getElem?_set_ne (Ne.symm hj)] at e2
        obtain ⟨u', r', q⟩ := hl j y v' e1 e2 e3
        refine ⟨u', r', ?_⟩
        rcases q with ⟨k, e⟩ | ⟨k, c, e, z⟩
        · refine .inl ⟨k, ?_⟩
          have : y ≠ x := fun e => hj (nodup_ix hN e1 (e ▸ hi))
          simp [this, e]
        · exact .inr ⟨k, c, e, z.sameBut hs (cne y c e)⟩
    · obtain ⟨w', z⟩ := I.cell y c e
      exact ⟨w', z.sameBut hs (cne y c e)⟩
    · obtain ⟨e, n, ne, nf, d⟩ := I.pin p hp
      exact ⟨(hs.2 p.1 ne).trans e, n, ne, nf, d⟩
  · have hfn : X.fn x = true := by
      rcases hf with z | z
      · exact z
      · rw [z] at hk; cases hk
    obtain ⟨c, hc⟩ := I.ok.has x (.inl hk)
    obtain ⟨w', z⟩ := I.cell x c hc
    refine wpAny_storeName_cell I.ok.kind hk hc z (fun h' hc' hs => ?_)
    obtain ⟨oc, hoc, hocd⟩ := id z
    refine h { s with heap := h' } ⟨I.ok, I.os, I.bare, ⟨fun b o e n hb hx => ?_, fun b o e n hb hx => ?_, I.base.free, fun b o e hx => ?_, I.base.tups, I.base.frzs, I.base.tbls⟩, ⟨m, hn.sameBut hs (Ne.symm (cne x c hc)), fun j y v' e1 e2 e3 => ?_⟩, fun y c' e => ?_, I.free, I.freeC, fun p hp => ?_, tracked ⟨oc, hoc, I.freeC x c hc⟩ hs, by simpa using I.len⟩ ⟨c, hs, .inr hc⟩
    · exact (hs.2 b (Nat.ne_of_lt (Nat.lt_of_lt_of_le (Heap.lt_size e) (I.ok.cab x c hfn hc)))).trans (I.base.keep b o e n hb hx)
    · obtain ⟨sl, e1⟩ := I.base.slot b o e n hb hx
      exact ⟨sl, (hs.2 b (Nat.ne_of_lt (Nat.lt_of_lt_of_le (Heap.lt_size e) (I.ok.cab x c hfn hc)))).trans e1⟩
    · obtain ⟨o', e1⟩ := I.base.there b o e hx
      exact ⟨o', (hs.2 b (Nat.ne_of_lt (Nat.lt_of_lt_of_le (Heap.lt_size e) (I.ok.cab x c hfn hc)))).trans e1⟩
    · by_cases hj : j = i
      · subst hj
        rw [hi] at e1; cases e1
        rw [List.getElem?_set_self hiσ] at e2
        cases e2
        exact ⟨u, r, .inr ⟨.inl hk, c, hc, hc'⟩⟩
      · rw [List.getElem?_set_ne (Ne.symm hj)] at e2
        obtain ⟨u', r', q⟩ := hl j y v' e1 e2 e3
        refine ⟨u', r', ?_⟩
        rcases q with q | ⟨k, c', e, z'⟩
        · exact .inl q
        · refine .inr ⟨k, c', e, z'.sameBut hs ?_⟩
          rintro rfl
          exact hj (nodup_ix hN e1 (I.ok.inj _ _ _ e hc ▸ hi))
    · by_cases hcc : c' = c
      · subst hcc; exact ⟨_, hc'⟩
      · obtain ⟨w2, z2⟩ := I.cell y c' e
        exact ⟨w2, z2.sameBut hs hcc⟩
    · obtain ⟨e, n, ne, nf, d⟩ := I.pin p hp
      refine ⟨(hs.2 p.1 ?_).trans e, n, ne, nf, d⟩
      intro q
      rw [q, hoc] at e
      have q' : oc = p.2 := Option.some.inj e
      exact d w' (by rw [← q']; exact hocd)
theorem store_ok {M : Model} {A : Around} {E : Value → Shared → Prop} {i : Nat} {x : Str} {v : V} {u : Value} {Q : Unit → Shared → Prop} (I : Inv X pins σ H s) (hN : X.N.Nodup) (hi : X.N[i]? = some x) (hx : Loc X.env.scope x) (r : RelV v u)
    (h : ∀ s', Inv X pins (σ.set i (some v)) H s' → Q () s') (hf : X.fn x = true ∨ X.env.scope.names.lookup x = some .local := by first | exact .inl rfl | exact .inr rfl | assumption) : wpAny M A (storeName X.env x u) Q E s :=
  store_ok2 I hN hi hx r (fun s' I' _ => h s' I') hf
theorem Inv.call' {s' : Shared} {ch : List Addr} (I : Inv X pins σ H s) (ho : s'.os = s.os) (u : Un (frs X.stack) ch H H' s.heap s'.heap) (hok : HOk X.prog X.w H' s'.heap) (hg : AllBare s'.gens)
    (hch : ∀ b ∈ ch, (b ∈ X.ex ∨ X.s₀.heap.objs.size ≤ b) ∧ b ≠ X.env.locals ∧ (∀ x c, X.env.cells.lookup x = some c → c ≠ b) ∧ ∀ p ∈ X.pn ++ pins, p.1 ≠ b) : Inv X pins σ H' s' := by
  obtain ⟨h', g', d', t', o'⟩ := s'
  have e : o' = s.os := ho
  subst e
  exact I.call (g' := g') (t' := t') (d' := d') u hok hg hch
end
noncomputable abbrev XK := Value → Option Addr → Hp → Prop
noncomputable abbrev St := List (Option V)
noncomputable abbrev VK := V → Hp → Prop
noncomputable abbrev TE := St → Hp → VK → Prop
noncomputable abbrev TT := St → Hp → (Bool → Hp → Prop) → Prop
noncomputable abbrev TA := St → Hp → (List V → Hp → Prop) → Prop
structure Ends where
  nx : St → Hp → Prop
  rt : VK
  bk : St → Hp → Prop := fun _ _ => False
  ct : St → Hp → Prop := fun _ _ => False
noncomputable abbrev TS := Ends → St → Hp → Prop
noncomputable def EP (X : Cx) (pins : List (Addr × Obj)) (σ : St) (Q : VK) (u : Value) (s' : Shared) : Prop := ∃ v H', Inv X pins σ H' s' ∧ RelV v u ∧ Q v H'
noncomputable def TP (X : Cx) (pins : List (Addr × Obj)) (σ : St) (Q : Bool → Hp → Prop) (b : Bool) (s' : Shared) : Prop := ∃ H', Inv X pins σ H' s' ∧ Q b H'
noncomputable def AP (X : Cx) (pins : List (Addr × Obj)) (σ : St) (Q : List V → Hp → Prop) (us : List Value) (s' : Shared) : Prop := ∃ vs H', Inv X pins σ H' s' ∧ Vals vs us ∧ Q vs H'
noncomputable def SP (X : Cx) (pins : List (Addr × Obj)) (D : Ends) (f : Flow) (s' : Shared) : Prop :=
  match f with
  | .next => ∃ σ' H', Inv X pins σ' H' s' ∧ D.nx σ' H'
  | .brk => ∃ σ' H', Inv X pins σ' H' s' ∧ D.bk σ' H'
  | .cont => ∃ σ' H', Inv X pins σ' H' s' ∧ D.ct σ' H'
  | .ret u => ∃ v σ' H', Inv X pins σ' H' s' ∧ RelV v u ∧ D.rt v H'
noncomputable def PE (X : Cx) (e : Expr) (t : TE) : Prop :=
  ∀ (pins : List (Addr × Obj)) (s : Shared) (σ : St) (H : Hp) (Q : VK), Inv X pins σ H s → t σ H Q → wpAny (model X.prog X.w) X.A (eval e X.env) (EP X pins σ Q) X.xe s
noncomputable def PT (X : Cx) (e : Expr) (t : TT) : Prop :=
  ∀ (pins : List (Addr × Obj)) (s : Shared) (σ : St) (H : Hp) (Q : Bool → Hp → Prop), Inv X pins σ H s → t σ H Q → wpAny (model X.prog X.w) X.A (isTrue e X.env (eval e X.env)) (TP X pins σ Q) X.xe s
noncomputable def PW (X : Cx) (e : Expr) (t : TT) : Prop :=
  ∀ (whole : Sem Value) (pins : List (Addr × Obj)) (s : Shared) (σ : St) (H : Hp) (Q : Bool → Hp → Prop), Inv X pins σ H s → t σ H Q → wpAny (model X.prog X.w) X.A (isTrue e X.env whole) (TP X pins σ Q) X.xe s
theorem PW.pt {X : Cx} {e : Expr} {t : TT} (h : PW X e t) : PT X e t := h _
noncomputable def PA (X : Cx) (es : List Expr) (t : TA) : Prop :=
  ∀ (pos : Pos) (pins : List (Addr × Obj)) (s : Shared) (σ : St) (H : Hp) (Q : List V → Hp → Prop), Inv X pins σ H s → t σ H Q → wpAny (model X.prog X.w) X.A (spliced (backTo pos (starEach es X.env))) (AP X pins σ Q) X.xe s
noncomputable def PS (X : Cx) (st : Stmt) (t : TS) : Prop :=
  ∀ (pins : List (Addr × Obj)) (s : Shared) (σ : St) (H : Hp) (D : Ends), Inv X pins σ H s → t D σ H → wpAny (model X.prog X.w) X.A (exec st X.env) (SP X pins D) X.xe s
noncomputable def PSs (X : Cx) (st : List Stmt) (t : TS) : Prop :=
  ∀ (pins : List (Addr × Obj)) (s : Shared) (σ : St) (H : Hp) (D : Ends), Inv X pins σ H s → t D σ H → wpAny (model X.prog X.w) X.A (execs st X.env) (SP X pins D) X.xe s
theorem thn {α : Type} {t : Sem α} {Q Q' : α → Shared → Prop} {M : Model} {A : Around} {E : Value → Shared → Prop} {s : Shared} (h : wpAny M A t Q E s) (hQ : ∀ a s, Q a s → Q' a s) : wpAny M A t Q' E s := wpAny_mono h hQ fun _ _ x => x
end L2
namespace L2
open PySem PySem.Spec PyProof.Rows
section
variable {X : Cx}
noncomputable def tVar (i : Nat) : TE := fun σ H Q => ∃ v, σ[i]? = some (some v) ∧ Q v H
noncomputable def tC (v : V) : TE := fun _ H Q => Q v H
theorem pe_var {i : Nat} {x : Str} {pos : Pos} (hN : X.N[i]? = some x) (hv : Vis X.env.scope x) (hd : (x == ("__debug__" : Str)) = false := by decide) (hcd : (x == ("__classdict__" : Str)) = false := by decide) : PE X (.Name x pos) (tVar i) := by
  intro pins s σ H Q I h
  obtain ⟨v, e, h⟩ := h
  obtain ⟨m, hn, hl⟩ := I.loc
  obtain ⟨u, r, l⟩ := hl i x v hN e hv
  have fin : EP X pins σ Q u s := ⟨v, H, I, r, h⟩
  rcases l with ⟨hk, hm⟩ | ⟨hk, c, hc, hcell⟩
  · exact wpAny_Name (wpAny_loadName_local I.ok.kind hk hn hm fin) hd
  · rcases hk with hk | hk
    · exact wpAny_Name (wpAny_loadName_cell I.ok.kind hk hc hcell fin) hd
    · exact wpAny_Name (wpAny_loadName_free I.ok.kind hk hc hcell fin hcd) hd
theorem pe_int {i j pos} : PE X (.Constant (.int i) j pos) (tC (.int i)) := fun _ _ _ H _ I h => wpAny_Constant_int ⟨.int i, H, I.tok _, ⟨_, rfl⟩, h⟩
theorem pe_bl {b j pos} : PE X (.Constant (.bool b) j pos) (tC (.bl b)) := fun _ _ _ H _ I h => Constant_bool ⟨.bl b, H, I, rfl, h⟩
theorem pe_non {j pos} : PE X (.Constant .none j pos) (tC .non) := fun _ _ _ H _ I h => Constant_none ⟨.non, H, I, rfl, h⟩
theorem pe_str {x j pos} : PE X (.Constant (.str x) j pos) (tC (.str x)) := fun _ _ _ H _ I h => Calls.Constant_str ⟨.str x, H, I.tok _, ⟨_, rfl⟩, h⟩
noncomputable def Gl (X : Cx) (x : Str) : Prop := X.env.kindOf x = some .globalImplicit
theorem ld_glob {E : Value → Shared → Prop} {pins : List (Addr × Obj)} {s : Shared} {σ : St} {H : Hp} {x : Str} {u : Value} {pos : Pos} {Q : Value → Shared → Prop} (I : Inv X pins σ H s) (hg : Gl X x) (hm : X.mg x = some u) (h : Q u s)
    (hd : (x == ("__debug__" : Str)) = false := by decide) : wpAny (model X.prog X.w) X.A (eval (.Name x pos) X.env) Q E s :=
  Calls.Name_function_global I.ok.kind hg (Calls.loadGlobal_global (by rw [I.ok.glob]; exact I.mod.glob.keeps I.bk) hm h) hd
theorem ld_blt {E : Value → Shared → Prop} {pins : List (Addr × Obj)} {s : Shared} {σ : St} {H : Hp} {x : Str} {u : Value} {pos : Pos} {Q : Value → Shared → Prop} (I : Inv X pins σ H s) (hg : Gl X x) (hm : X.mg x = none) (hv : bootBuiltins x = some u) (h : Q u s)
    (hn : x ≠ "__name__" := by decide) (hd : (x == ("__debug__" : Str)) = false := by decide) : wpAny (model X.prog X.w) X.A (eval (.Name x pos) X.env) Q E s := by
  obtain ⟨mb, h1, h2⟩ := I.mod.blt
  exact Calls.Name_function_global I.ok.kind hg (Calls.loadGlobal_builtin (by rw [I.ok.glob]; exact I.mod.glob.keeps I.bk) hm (by rw [I.ok.blt]; exact h1.keeps I.bk) ((h2 x hn).trans hv) h) hd
theorem pe_glob {x : Str} {v : V} {u : Value} {pos : Pos} (hg : Gl X x) (hm : X.mg x = some u) (r : RelV v u) (hd : (x == ("__debug__" : Str)) = false := by decide) : PE X (.Name x pos) (tC v) :=
  fun _ _ _ H _ I h => ld_glob I hg hm ⟨v, H, I, r, h⟩ hd
theorem pe_bltn {x : Str} {v : V} {u : Value} {pos : Pos} (hg : Gl X x) (hm : X.mg x = none) (hv : bootBuiltins x = some u) (r : RelV v u) (hn : x ≠ "__name__" := by decide) (hd : (x == ("__debug__" : Str)) = false := by decide) : PE X (.Name x pos) (tC v) :=
  fun _ _ _ H _ I h => ld_blt I hg hm hv ⟨v, H, I, r, h⟩ hn hd
variable {a b : Expr} {ta tb : TE} {pos : Pos}
noncomputable def tB (t : TE) : TT := fun σ H Q => t σ H fun x H1 => ∃ c, x = .bl c ∧ Q c H1
theorem pt_val {e : Expr} {t : TE} (h : PE X e t) (he : ∀ whole, isTrue e X.env whole = (do let v ← whole; standAt e.pos; holding [v] (truthy v)) := by intro _; rfl) : PT X e (tB t) := by
  intro pins s σ H Q I hw
  refine isTrue_plain (thn (h pins s σ H _ I hw) fun v s1 ⟨x, H1, I1, r1, q1⟩ => ?_) (he _)
  obtain ⟨d, rfl, q⟩ := q1
  cases r1
  exact wpAny_truthy_bool ⟨H1, I1, q⟩
variable {tA tB' : TT} {rest : List Expr}
noncomputable def tAnd (t u : TT) : TT := fun σ H Q => t σ H fun c H1 => if c = true then u σ H1 Q else Q false H1
noncomputable def tOr (t u : TT) : TT := fun σ H Q => t σ H fun c H1 => if c = true then Q true H1 else u σ H1 Q
noncomputable def tNot (t : TT) : TT := fun σ H Q => t σ H fun c H1 => Q (!c) H1
theorem pw_and1 (ha : PT X a tA) : PW X (.BoolOp .And [a] pos) tA := by
  intro wh pins s σ H Q I h
  refine isTrue_and (thn (ha pins s σ H Q I h) fun c s1 e => ?_)
  cases c with
  | true => exact isTrue_and_nil e
  | false => exact e
theorem pw_or1 (ha : PT X a tA) : PW X (.BoolOp .Or [a] pos) tA := by
  intro wh pins s σ H Q I h
  refine isTrue_or (thn (ha pins s σ H Q I h) fun c s1 e => ?_)
  cases c with
  | false => exact isTrue_or_nil e
  | true => exact e
theorem pw_and (ha : PT X a tA) (hb : PW X (.BoolOp .And (b :: rest) pos) tB') : PW X (.BoolOp .And (a :: b :: rest) pos) (tAnd tA tB') := by
  intro wh pins s σ H Q I h
  refine isTrue_and (thn (ha pins s σ H _ I h) fun c s1 ⟨H1, I1, q1⟩ => ?_)
  cases c with
  | true => exact hb wh pins s1 σ H1 Q I1 q1
  | false => exact ⟨H1, I1, q1⟩
theorem pw_or (ha : PT X a tA) (hb : PW X (.BoolOp .Or (b :: rest) pos) tB') : PW X (.BoolOp .Or (a :: b :: rest) pos) (tOr tA tB') := by
  intro wh pins s σ H Q I h
  refine isTrue_or (thn (ha pins s σ H _ I h) fun c s1 ⟨H1, I1, q1⟩ => ?_)
  cases c with
  | true => exact ⟨H1, I1, q1⟩
  | false => exact hb wh pins s1 σ H1 Q I1 q1
theorem pt_not (ha : PT X a tA) : PT X (.UnaryOp .Not a pos) (tNot tA) := by
  intro pins s σ H Q I h
  exact isTrue_not (ha pins s σ H (fun c H1 => Q (!c) H1) I h)
end
end L2
namespace L2
open PySem PySem.Spec PyProof.Rows
noncomputable def SqL (K : PySem.W.Frag) (H : Hp) (a : Addr) (xs : List V) : Prop :=
  Rd H a (.lst xs) ∨
    ∃ (o : Obj) (its : Array Value) (n : Nat), K.lookup a = some o ∧ o.cls = .type "list" ∧ o.dict = none ∧ o.data = .seq its n ∧ its.size ≤ sizeLine ∧ Vals xs its.toList
noncomputable def SqT (K : PySem.W.Frag) (H : Hp) (a : Addr) (xs : List V) : Prop :=
  Rd H a (.tup xs) ∨
    ∃ (o : Obj) (its : Array Value) (n : Nat), K.lookup a = some o ∧ o.cls = .type "tuple" ∧ o.data = .seq its n ∧ its.size ≤ sizeLine ∧ Vals xs its.toList
noncomputable def absV : Value → Option V
  | .none => some .non
  | .bool b => some (.bl b)
  | .int i _ => some (.int i)
  | .str x _ => some (.str x)
  | .bytes b _ => some (.byt b)
  | .float b _ => some (.flt b)
  | .ref a => some (.ref a)
  | .type n => some (.ty n)
  | _ => none
theorem RelV.abs {x : V} {u : Value} (r : RelV x u) : absV u = some x := by
  cases x with
  | non => cases r; rfl
  | bl _ => cases r; rfl
  | int _ => obtain ⟨t, rfl⟩ := r; rfl
  | str _ => obtain ⟨t, rfl⟩ := r; rfl
  | byt _ => obtain ⟨t, rfl⟩ := r; rfl
  | flt _ => obtain ⟨t, rfl⟩ := r; rfl
  | ref _ => cases r; rfl
  | ty _ => cases r; rfl
theorem RelV.inj {x y : V} {u : Value} (r : RelV x u) (q : RelV y u) : x = y := Option.some.inj (r.abs.symm.trans q.abs)
theorem Vals.inj : ∀ {xs ys : List V} {us : List Value}, Vals xs us → Vals ys us → xs = ys
  | _, _, _, .nil, .nil => rfl
  | _, _, _, .cons r t, .cons r' t' => by rw [r.inj r', Vals.inj t t']
section
variable {X : Cx} {pins : List (Addr × Obj)} {σ : St} {H : Hp} {s : Shared} {a : Addr} {xs ys : List V}
theorem SqL.of {K : PySem.W.Frag} (h : H a = some (.lst xs)) : SqL K H a xs := .inl (.inl h)
theorem SqT.of {K : PySem.W.Frag} (h : H a = some (.tup xs)) : SqT K H a xs := .inl (.inl h)
theorem Inv.list (I : Inv X pins σ H s) (h : SqL X.K H a xs) : ∃ its : List Value, Vals xs its ∧ PlainL s.heap a its.toArray ∧ xs.length ≤ sizeLine := by
  rcases h with h | ⟨o, its, n, hk, hc, hd, hs, hz, r⟩
  · obtain ⟨z, its, n, r, e⟩ := h.ok I.hok
    exact ⟨its, r, ⟨_, n, e, rfl, rfl, rfl⟩, z⟩
  · refine ⟨its.toList, r, ⟨o, n, I.kIn a o hk, hc, hd, by simpa using hs⟩, ?_⟩
    have e := r.length
    simp only [Array.length_toList] at e
    ((try clear hc hd hk hs); omega)
theorem Inv.tuple (I : Inv X pins σ H s) (h : SqT X.K H a xs) : ∃ its : List Value, Vals xs its ∧ IsTup s.heap a its.toArray ∧ xs.length ≤ sizeLine := by
  rcases h with h | ⟨o, its, n, hk, hc, hs, hz, r⟩
  · obtain ⟨z, its, r, p⟩ := h.ok I.hok
    exact ⟨its, r, p, z⟩
  · refine ⟨its.toList, r, ⟨o, I.kIn a o hk, hc, n, by simpa using hs⟩, ?_⟩
    have e := r.length
    simp only [Array.length_toList] at e
    ((try clear hc hk hs); omega)
theorem Inv.list_inj (I : Inv X pins σ H s) (h : SqL X.K H a xs) (h' : SqL X.K H a ys) : xs = ys := by
  obtain ⟨its, r, ⟨o, n, e, _, _, d⟩, _⟩ := I.list h
  obtain ⟨its', r', ⟨o', n', e', _, _, d'⟩, _⟩ := I.list h'
  rw [e] at e'; cases e'
  rw [d] at d'
  injection d' with d1 _
  have : its = its' := by simpa using congrArg Array.toList d1
  subst this
  exact r.inj r'
end
noncomputable abbrev Cx.wish (X : Cx) (E : Value → Shared → Prop) : Cx := { X with xe := E }
noncomputable abbrev Cx.nox (X : Cx) : Cx := X.wish fun _ _ => False
theorem Cx.Ok.wish {X : Cx} (ok : X.Ok) (E : Value → Shared → Prop) : (X.wish E).Ok :=
  ⟨ok.mod, ok.kind, ok.glob, ok.blt, ok.above, ok.inj, ok.has, ok.cab, ok.hd, ok.frames, ok.stk, ok.exf, ok.bs, ok.bsz, ok.noex, ok.exfs, ok.funs, ok.frf⟩
theorem Cx.Ok.unwish {X : Cx} {E : Value → Shared → Prop} (ok : (X.wish E).Ok) : X.Ok :=
  ⟨ok.mod, ok.kind, ok.glob, ok.blt, ok.above, ok.inj, ok.has, ok.cab, ok.hd, ok.frames, ok.stk, ok.exf, ok.bs, ok.bsz, ok.noex, ok.exfs, ok.funs, ok.frf⟩
section
variable {X : Cx} {pins : List (Addr × Obj)} {σ : St} {H : Hp} {s : Shared} {E : Value → Shared → Prop}
theorem Inv.wish (I : Inv X pins σ H s) (E : Value → Shared → Prop) : Inv (X.wish E) pins σ H s := ⟨I.ok.wish E, I.os, I.bare, I.base, I.loc, I.cell, I.free, I.freeC, I.pin, I.hok, I.len⟩
theorem Inv.unwish (I : Inv (X.wish E) pins σ H s) : Inv X pins σ H s := ⟨I.ok.unwish, I.os, I.bare, I.base, I.loc, I.cell, I.free, I.freeC, I.pin, I.hok, I.len⟩
theorem SP.unwish {D : Ends} {f : Flow} {s' : Shared} (h : SP (X.wish E) pins D f s') : SP X pins D f s' := by
  cases f with
  | next => obtain ⟨σ', H', I, q⟩ := h; exact ⟨σ', H', I.unwish, q⟩
  | brk => obtain ⟨σ', H', I, q⟩ := h; exact ⟨σ', H', I.unwish, q⟩
  | cont => obtain ⟨σ', H', I, q⟩ := h; exact ⟨σ', H', I.unwish, q⟩
  | ret u => obtain ⟨v, σ', H', I, r, q⟩ := h; exact ⟨v, σ', H', I.unwish, r, q⟩
theorem PSs.nox {st : List Stmt} {t : TS} (h : PSs X.nox st t) : PSs X st t := fun pins s σ H D I hw =>
  wpAny_mono (h pins s σ H D (I.wish _) hw) (fun _ _ q => q.unwish) fun _ _ z => False.elim z
end
section
variable {X : Cx} {st : Stmt} {rest : List Stmt} {t u : TS} {e : Expr} {te : TE} {pos : Pos}
noncomputable def tNext : TS := fun D σ H => D.nx σ H
noncomputable def tSeq (t u : TS) : TS := fun D σ H => t { D with nx := u D } σ H
theorem pss_nil : PSs X [] tNext := fun _ _ σ H _ I h => wpAny_execs_nil ⟨σ, H, I, h⟩
theorem pss_cons (h1 : PS X st t) (h2 : PSs X rest u) : PSs X (st :: rest) (tSeq t u) := by
  intro pins s σ H D I h
  refine wpAny_execs_cons (thn (h1 pins s σ H { D with nx := u D } I h) fun f s1 q => ?_)
  cases f with
  | next =>
    obtain ⟨σ', H', I', q⟩ := q
    exact h2 pins s1 σ' H' D I' q
  | ret v => exact q
  | brk => exact q
  | cont => exact q
theorem pss_one (h1 : PS X st t) : PSs X [st] t := by
  intro pins s σ H D I h
  refine wpAny_execs_cons (thn (h1 pins s σ H D I h) fun f s1 q => ?_)
  cases f with
  | next => exact wpAny_execs_nil q
  | ret v => exact q
  | brk => exact q
  | cont => exact q
theorem Inv.quiet {pins : List (Addr × Obj)} {σ : St} {H : Hp} {s : Shared} (I : Inv X pins σ H s) : interactive X.env = false := by simp [interactive, I.ok.kind]
noncomputable def tDrop (te : TE) : TS := fun D σ H => te σ H fun _ H1 => D.nx σ H1
theorem ps_expr (he : PE X e te) (hs : swapsWith e none pos.line X.env = pure false := by rfl) : PS X (.Expr e pos) (tDrop te) := by
  intro pins s σ H D I h
  exact wpAny_Expr_any (thn (he pins s σ H _ I h) fun v s1 ⟨x, H1, I1, r1, q1⟩ => ⟨σ, H1, I1, q1⟩) I.quiet hs
noncomputable def tRet (te : TE) : TS := fun D σ H => te σ H D.rt
theorem ps_ret (he : PE X e te) : PS X (.Return (some e) pos) (tRet te) := by
  intro pins s σ H D I h
  exact wpAny_Return_some (thn (he pins s σ H _ I h) fun v s1 ⟨x, H1, I1, r1, q1⟩ => ⟨x, σ, H1, I1, r1, q1⟩)
noncomputable def tIfS (c : TT) (t u : TS) : TS := fun D σ H => c σ H fun b H1 => if b = true then t D σ H1 else u D σ H1
theorem ps_if {c : Expr} {a b : List Stmt} {tc : TT} (hc : PT X c tc) (ha : PSs X a t) (hb : PSs X b u) : PS X (.If c a b pos) (tIfS tc t u) := by
  intro pins s σ H D I h
  refine wpAny_If (thn (hc pins s σ H _ I h) fun d s1 ⟨H1, I1, q1⟩ => ?_)
  cases d with
  | true => exact ha pins s1 σ H1 D I1 q1
  | false => exact hb pins s1 σ H1 D I1 q1
noncomputable def tNever : TS := fun _ _ _ => False
theorem ps_never : PS X st tNever := fun _ _ _ _ _ _ h => h.elim
end
noncomputable abbrev TG := V → St → Hp → (St → Hp → Prop) → Prop
noncomputable abbrev TGs := List V → St → Hp → (St → Hp → Prop) → Prop
noncomputable def PG (X : Cx) (target : Expr) (t : TG) : Prop :=
  ∀ (pins : List (Addr × Obj)) (s : Shared) (σ : St) (H : Hp) (v : V) (u : Value) (Q : St → Hp → Prop), Inv X pins σ H s → RelV v u → t v σ H Q →
    wpAny (model X.prog X.w) X.A (assign target X.env u) (fun _ s' => ∃ σ' H', Inv X pins σ' H' s' ∧ Q σ' H') X.xe s
noncomputable def PGs (X : Cx) (ts : List Expr) (t : TGs) : Prop :=
  ∀ (pins : List (Addr × Obj)) (s : Shared) (σ : St) (H : Hp) (vs : List V) (us : List Value) (Q : St → Hp → Prop), Inv X pins σ H s → Vals vs us → t vs σ H Q →
    wpAny (model X.prog X.w) X.A (assignInOrder ((assignEach ts X.env).map (·.2)) us) (fun _ s' => ∃ σ' H', Inv X pins σ' H' s' ∧ Q σ' H') X.xe s
noncomputable abbrev TSet := V → V → V → Hp → (Hp → Prop) → Prop
noncomputable def PSet (X : Cx) (t : TSet) : Prop :=
  ∀ (pins : List (Addr × Obj)) (s : Shared) (σ : St) (H : Hp) (o i v : V) (ov iv u : Value) (Q : Hp → Prop), Inv X pins σ H s → RelV o ov → RelV i iv → RelV v u → t o i v H Q →
    wpAny (model X.prog X.w) X.A (setItem ov iv u) (fun _ s' => ∃ H', Inv X pins σ H' s' ∧ Q H') X.xe s
noncomputable abbrev TIp := V → V → Hp → VK → Prop
noncomputable def PIp (X : Cx) (op : Operator) (t : TIp) : Prop :=
  ∀ (pins : List (Addr × Obj)) (s : Shared) (σ : St) (H : Hp) (x y : V) (v u : Value) (Q : VK), Inv X pins σ H s → RelV x v → RelV y u → t x y H Q →
    wpAny (model X.prog X.w) X.A (inplaceOp op v u) (EP X pins σ Q) X.xe s
section
variable {X : Cx} {pos : Pos}
noncomputable def gName (i : Nat) : TG := fun v σ H Q => Q (σ.set i (some v)) H
theorem pg_name {i : Nat} {x : Str} (hN : X.N.Nodup) (hi : X.N[i]? = some x) (hx : Loc X.env.scope x) (hf : X.fn x = true ∨ X.env.scope.names.lookup x = some .local := by first | exact .inl rfl | exact .inr rfl | assumption) : PG X (.Name x pos) (gName i) := by
  intro pins s σ H v u Q I r h
  exact wpAny_assign_Name (store_ok I hN hi hx r (fun s' I' => ⟨_, H, I', h⟩) hf)
noncomputable def gNil : TGs := fun vs σ H Q => vs = [] ∧ Q σ H
noncomputable def gCons (t : TG) (u : TGs) : TGs := fun vs σ H Q => ∃ v r, vs = v :: r ∧ t v σ H fun σ' H' => u r σ' H' Q
theorem pgs_nil : PGs X [] gNil := by
  intro pins s σ H vs us Q I r h
  obtain ⟨e, h⟩ := h
  subst e
  cases r
  exact assignInOrder_nil ⟨σ, H, I, h⟩
theorem pgs_cons {e : Expr} {es : List Expr} {t : TG} {u : TGs} (h1 : PG X e t) (h2 : PGs X es u)
    (hs : (assignEach (e :: es) X.env).map (·.2) = assign e X.env :: (assignEach es X.env).map (·.2) := by rfl) : PGs X (e :: es) (gCons t u) := by
  intro pins s σ H vs us Q I r h
  obtain ⟨v, vr, e1, h⟩ := h
  subst e1
  cases r with
  | cons r rr =>
    rw [hs]
    refine assignInOrder_cons (thn (h1 pins s σ H _ _ _ I r h) fun _ s1 ⟨σ1, H1, I1, q1⟩ => ?_)
    exact h2 pins s1 σ1 H1 _ _ Q I1 rr q1
noncomputable def gTup (K : PySem.W.Frag) (n : Nat) (t : TGs) : TG := fun v σ H Q => ∃ a xs, v = .ref a ∧ SqT K H a xs ∧ xs.length = n ∧ t xs σ H Q
theorem pg_tup {es : List Expr} {k : Nat} {t : TGs} {n : Nat} (hc : X.calm = true) (h : PGs X es t)
    (hn : (assignEach es X.env).length = n := by rfl) (hst : (assignEach es X.env).findIdx? (·.1) = none := by rfl) : PG X (.Tuple es k pos) (gTup X.K n t) := by
  intro pins s σ H v u Q I r hw
  obtain ⟨a, xs, e1, hq, hl, hw⟩ := hw
  subst e1
  cases r
  obtain ⟨its, rv, ht, hz⟩ := I.tuple hq
  refine assign_Tuple_tuple (I.ok.hd hc) ht (by simp [hn, ← hl, rv.length]) hst fun h' hx => ?_
  have I1 : Inv X pins σ H { s with heap := h' } := I.kept (t' := s.toks) fun b o e => hx b o (Nat.ne_of_lt (Heap.lt_size e)) e
  exact h pins _ σ H xs _ Q I1 (by simpa using rv) hw
noncomputable def gSub (to ti : TE) (t : TSet) : TG := fun v σ H Q => to σ H fun o H1 => ti σ H1 fun i H2 => t o i v H2 fun H3 => Q σ H3
theorem pg_sub {o i : Expr} {to ti : TE} {t : TSet} (ho : PE X o to) (hi : PE X i ti) (hs : PSet X t)
    (ha : ∀ v, assign (.Subscript o i pos) X.env v = (do
      let ov ← holding [v] (eval o X.env)
      let iv ← holding [v, ov] (eval i X.env)
      standAt pos
      holding [v, ov, iv] (setItem ov iv v)
      release [v, ov, iv] []) := by intro _; rfl) : PG X (.Subscript o i pos) (gSub to ti t) := by
  intro pins s σ H v u Q I r h
  rw [ha]
  refine wpAny_bind (wpAny_holding (thn (ho pins s σ H _ I h) fun ov s1 ⟨x, H1, I1, r1, q1⟩ => ?_))
  refine wpAny_bind (wpAny_holding (thn (hi pins s1 σ H1 _ I1 q1) fun iv s2 ⟨y, H2, I2, r2, q2⟩ => ?_))
  refine wpAny_bind (wpAny_standAt (wpAny_bind (wpAny_holding (thn (hs pins s2 σ H2 x y v ov iv u _ I2 r1 r2 r q2) fun _ s3 ⟨H3, I3, q3⟩ => ?_))))
  exact wpAny_release ⟨σ, H3, I3, q3⟩
noncomputable def tAsg (te : TE) (g : TG) : TS := fun D σ H => te σ H fun x H1 => g x σ H1 D.nx
theorem ps_asg {tg e : Expr} {te : TE} {g : TG} (he : PE X e te) (hg : PG X tg g) (hs : swapsWithSole [tg] e pos.line X.env = pure false := by rfl) (hw : swappedStores [tg] e X.env = pure none := by rfl)
    (h1 : (assignEach [tg] X.env).map (·.2) = [assign tg X.env] := by rfl) : PS X (.Assign [tg] e pos) (tAsg te g) := by
  intro pins s σ H D I h
  refine wpAny_Assign_stores (thn (he pins s σ H _ I h) fun v s1 ⟨x, H1, I1, r1, q1⟩ => ?_) hs hw
  rw [h1]
  exact thn (hg pins s1 σ H1 x v _ I1 r1 q1) fun _ s2 q => q
theorem ps_set {i : Nat} {x : Str} {e : Expr} {te : TE} {pos' : Pos} (hN : X.N.Nodup) (hi : X.N[i]? = some x) (hx : Loc X.env.scope x) (he : PE X e te) (hs : swapsWith e (some (.Name x pos')) pos.line X.env = pure false := by rfl) (hf : X.fn x = true ∨ X.env.scope.names.lookup x = some .local := by first | exact .inl rfl | exact .inr rfl | assumption) :
    PS X (.Assign [.Name x pos'] e pos) (tAsg te (gName i)) := by
  intro pins s σ H D I h
  refine wpAny_Assign_Name (thn (he pins s σ H _ I h) fun v s1 ⟨y, H1, I1, r1, q1⟩ => ?_) hs
  exact store_ok I1 hN hi hx r1 (fun s2 I2 => ⟨_, H1, I2, q1⟩) hf
noncomputable def tAug (i : Nat) (te : TE) (ti : TIp) : TS := fun D σ H => ∃ x, σ[i]? = some (some x) ∧ te σ H fun y H1 => ti x y H1 fun z H2 => D.nx (σ.set i (some z)) H2
theorem ps_aug {i : Nat} {x : Str} {e : Expr} {te : TE} {op : Operator} {ti : TIp} {pos' : Pos} (hN : X.N.Nodup) (hi : X.N[i]? = some x) (hx : Loc X.env.scope x) (he : PE X e te) (ho : PIp X op ti) (hf : X.fn x = true ∨ X.env.scope.names.lookup x = some .local := by first | exact .inl rfl | exact .inr rfl | assumption) :
    PS X (.AugAssign (.Name x pos') op e pos) (tAug i te ti) := by
  intro pins s σ H D I h
  obtain ⟨v, e1, h⟩ := h
  obtain ⟨m, hn, hl⟩ := I.loc
  have vis : Vis X.env.scope x := by rcases hx with k | k; exact .inl k; exact .inr (.inl k)
  obtain ⟨u, r, l⟩ := hl i x v hi e1 vis
  refine wpAny_AugAssign_Name ?_
  have go : wpAny (model X.prog X.w) X.A (eval e X.env) (fun w s₂ => wpAny (model X.prog X.w) X.A (inplaceOp op u w) (fun r s₃ => wpAny (model X.prog X.w) X.A (storeName X.env x r) (fun _ => SP X pins D .next) X.xe s₃) X.xe s₂) X.xe s := by
    refine thn (he pins s σ H _ I h) fun w s1 ⟨y, H1, I1, r1, q1⟩ => ?_
    refine thn (ho pins s1 σ H1 v y u w _ I1 r r1 q1) fun z s2 ⟨zv, H2, I2, r2, q2⟩ => ?_
    exact store_ok I2 hN hi hx r2 (fun s3 I3 => ⟨_, H2, I3, q2⟩) hf
  rcases l with ⟨hk, hm⟩ | ⟨hk, c, hc, hcell⟩
  · exact wpAny_loadName_local I.ok.kind hk hn hm go
  · rcases hk with hk | hk
    · exact wpAny_loadName_cell I.ok.kind hk hc hcell go
    · rcases hx with k | k
      · have : X.env.scope.names.lookup x = some .free := hk
        rw [k] at this; cases this
      · have : X.env.scope.names.lookup x = some .free := hk
        rw [k] at this; cases this
noncomputable def tAugS (to ti te : TE) (tget : V → V → Hp → VK → Prop) (tip : TIp) (tset : TSet) : TS := fun D σ H => to σ H fun o H1 => ti σ H1 fun i H2 => tget o i H2 fun x H3 => te σ H3 fun y H4 => tip x y H4 fun z H5 => tset o i z H5 fun H6 => D.nx σ H6
noncomputable def PGet (X : Cx) (t : V → V → Hp → VK → Prop) : Prop :=
  ∀ (pins : List (Addr × Obj)) (s : Shared) (σ : St) (H : Hp) (o i : V) (ov iv : Value) (Q : VK), Inv X pins σ H s → RelV o ov → RelV i iv → t o i H Q →
    wpAny (model X.prog X.w) X.A (getItem ov iv) (EP X pins σ Q) X.xe s
theorem ps_augS {o i e : Expr} {to ti te : TE} {tget : V → V → Hp → VK → Prop} {tip : TIp} {tset : TSet} {op : Operator} {tpos : Pos} (ho : PE X o to) (hi : PE X i ti) (hg : PGet X tget) (he : PE X e te) (hp : PIp X op tip) (hs : PSet X tset)
    (ha : ∀ ov iv new, augStore i ov iv new = (do holding [new, ov, iv] (setItem ov iv new); release [new, ov, iv] []; pure .next) := by intros; rfl) : PS X (.AugAssign (.Subscript o i tpos) op e pos) (tAugS to ti te tget tip tset) := by
  intro pins s σ H D I h
  refine wpAny_AugAssign_SubscriptAny (thn (ho pins s σ H _ I h) fun ov s1 ⟨x1, H1, I1, r1, q1⟩ => ?_) ha
  refine thn (hi pins s1 σ H1 _ I1 q1) fun iv s2 ⟨x2, H2, I2, r2, q2⟩ => ?_
  refine thn (hg pins s2 σ H2 x1 x2 ov iv _ I2 r1 r2 q2) fun old s3 ⟨x3, H3, I3, r3, q3⟩ => ?_
  refine thn (he pins s3 σ H3 _ I3 q3) fun v s4 ⟨x4, H4, I4, r4, q4⟩ => ?_
  refine thn (hp pins s4 σ H4 x3 x4 old v _ I4 r3 r4 q4) fun new s5 ⟨x5, H5, I5, r5, q5⟩ => ?_
  exact thn (hs pins s5 σ H5 x1 x2 x5 ov iv new _ I5 r1 r2 r5 q5) fun _ s6 ⟨H6, I6, q6⟩ => ⟨σ, H6, I6, q6⟩
noncomputable def ipI (f : Int → Int → Int) : TIp := fun x y H Q => ∃ i j, x = .int i ∧ y = .int j ∧ Q (.int (f i j)) H
theorem ip_add : PIp X .Add (ipI fun i j => i + j) := by
  intro pins s σ H x y v u Q I r1 r2 h
  obtain ⟨i, j, e1, e2, q⟩ := h
  subst e1; subst e2
  obtain ⟨t, rfl⟩ := r1
  obtain ⟨t', rfl⟩ := r2
  exact iadd_int ⟨.int _, H, I.tok _, ⟨_, rfl⟩, q⟩
theorem ip_sub : PIp X .Sub (ipI fun i j => i - j) := by
  intro pins s σ H x y v u Q I r1 r2 h
  obtain ⟨i, j, e1, e2, q⟩ := h
  subst e1; subst e2
  obtain ⟨t, rfl⟩ := r1
  obtain ⟨t', rfl⟩ := r2
  exact isub_int ⟨.int _, H, I.tok _, ⟨_, rfl⟩, q⟩
end
section
variable {X : Cx} {pos : Pos}
noncomputable def tWhile (c : TT) (tb : TS) : TS := fun D σ H => ∃ W : Nat → St → Hp → Prop, (∃ m, W m σ H) ∧ ∀ m σ H, W m σ H →
  c σ H fun b H1 => if b = true then ∃ N : St → Hp → Prop, (∀ σ' H', N σ' H' → ∃ m', m' < m ∧ W m' σ' H') ∧ tb { D with nx := N, ct := N, bk := D.nx } σ H1 else D.nx σ H1
theorem ps_while {c : Expr} {body : List Stmt} {tc : TT} {tb : TS} (hp : PassesOwn (model X.prog X.w) X.A X.env X.xe) (hc : PT X c tc) (hb : PSs X body tb) : PS X (.While c body [] pos) (tWhile tc tb) := by
  intro pins s σ H D I h
  obtain ⟨W, ⟨m0, w0⟩, turn⟩ := h
  refine wpAny_While (codeAny_whileLoop (fun n s' => ∃ σ' H', Inv X pins σ' H' s' ∧ W n σ' H') ?_ m0 ⟨σ, H, I, w0⟩)
  rintro n s1 ⟨σ1, H1, I1, w1⟩
  refine wpAny_passesOwn hp (thn (hc pins s1 σ1 H1 _ I1 (turn n σ1 H1 w1)) fun b s2 ⟨H2, I2, q2⟩ => ?_)
  cases b with
  | true =>
    obtain ⟨N, hN, q2⟩ := q2
    rw [if_pos rfl]
    refine wpAny_passesOwn hp (thn (hb pins s2 σ1 H2 _ I2 q2) fun f s3 q3 => ?_)
    cases f with
    | next =>
      obtain ⟨σ3, H3, I3, n3⟩ := q3
      obtain ⟨m', hm, w3⟩ := hN σ3 H3 n3
      exact ⟨m', hm, σ3, H3, I3, w3⟩
    | cont =>
      obtain ⟨σ3, H3, I3, n3⟩ := q3
      obtain ⟨m', hm, w3⟩ := hN σ3 H3 n3
      exact ⟨m', hm, σ3, H3, I3, w3⟩
    | brk => exact q3
    | ret v => exact q3
  | false =>
    rw [if_neg Bool.false_ne_true]
    exact wpAny_execs_nil ⟨σ1, H2, I2, q2⟩
end
structure It where
  go : Nat → Hp → Prop
  yld : Nat → Hp → V → Hp → Prop
  stop : Nat → Hp → Prop
noncomputable def FpOk (X : Cx) (pins : List (Addr × Obj)) (H : Hp) (b : Addr) : Prop :=
  H b = none ∧ b ≠ X.env.locals ∧ b ∉ X.fs ∧ (b ∈ X.ex ∨ X.s₀.heap.objs.size ≤ b) ∧ (∀ x c, X.env.cells.lookup x = some c → c ≠ b) ∧ ∀ p ∈ X.pn ++ pins, p.1 ≠ b
theorem Inv.fpOk {X : Cx} {pins : List (Addr × Obj)} {σ : St} {H H' : Hp} {s : Shared} {b : Addr} (I : Inv X pins σ H s) (hb : s.heap.objs.size ≤ b) (hn : H' b = none) : FpOk X pins H' b := by
  refine ⟨hn, Nat.ne_of_gt (Nat.lt_of_lt_of_le I.lt hb), I.nofs hb, .inr (Nat.le_trans I.sz hb), fun x c e z => ?_, fun p hp z => ?_⟩
  · obtain ⟨v, q⟩ := I.cell x c e
    exact absurd (Nat.lt_of_lt_of_le q.lt (by rw [z]; exact hb)) (Nat.lt_irrefl _)
  · exact absurd (Nat.lt_of_lt_of_le (Heap.lt_size (I.pin p hp).1) (by rw [z]; exact hb)) (Nat.lt_irrefl _)
structure Turn (P : Program) (w : World) (K : PySem.W.Frag) (tg : Expr) (J : It) (fp : List Addr) (it : Addr) (tn : Nat → Heap → Prop) : Prop where
  mem : it ∈ fp
  obj : ∀ i h, tn i h → ∀ b ∈ fp, ∃ o, h.get? b = some o ∧ ∀ v, o.data ≠ .cell v
  keep : ∀ i h h', tn i h → (∀ b ∈ fp, ∀ o, h.get? b = some o → h'.get? b = some o) → tn i h'
  item : ∀ (X : Cx), X.prog = P → X.w = w → X.K = K → X.calm = true → ∀ (i : Nat) (pins : List (Addr × Obj)) (s : Shared) (σ : St) (H : Hp) (E : Value → Shared → Prop), Inv X pins σ H s → (∀ b ∈ fp, FpOk X pins H b) → tn i s.heap → J.go i H →
    wpAny (model P w) X.A (pyNext (.ref it)) (fun r s1 => ∃ u, r = some u ∧
      wpAny (model P w) X.A (letOwnedTupleGo tg (.ref it) u) (fun _ s2 => ∃ x H', Inv X pins σ H' s2 ∧ RelV x u ∧ J.yld i H x H' ∧ tn (i + 1) s2.heap ∧ ∀ b ∈ fp, H' b = none) E s1) E s
  done : ∀ (X : Cx), X.prog = P → X.w = w → X.K = K → X.calm = true → ∀ (i : Nat) (pins : List (Addr × Obj)) (s : Shared) (σ : St) (H : Hp) (E : Value → Shared → Prop), Inv X pins σ H s → (∀ b ∈ fp, FpOk X pins H b) → tn i s.heap → J.stop i H →
    wpAny (model P w) X.A (pyNext (.ref it)) (fun r s1 => r = none ∧ Inv X pins σ H s1) E s
  self : ∀ (A : Around) (i : Nat) (s : Shared) (Q : Value → Shared → Prop) (E : Value → Shared → Prop), tn i s.heap → Q (.ref it) s → wpAny (model P w) A (pyIter (.ref it)) Q E s
noncomputable abbrev TI := St → Hp → (It → Hp → Prop) → Prop
noncomputable def PIE (X : Cx) (pins : List (Addr × Obj)) (σ : St) (tg : Expr) (R : It → Hp → Prop) (itv : Value) (s2 : Shared) : Prop :=
  ∃ (it : Addr) (fp : List Addr) (tn : Nat → Heap → Prop) (J : It) (H' : Hp), itv = .ref it ∧ Inv X pins σ H' s2 ∧ Turn X.prog X.w X.K tg J fp it tn ∧ tn 0 s2.heap ∧ (∀ b ∈ fp, FpOk X pins H' b) ∧ R J H'
noncomputable def PI (X : Cx) (tg iter : Expr) (wi : TI) : Prop :=
  ∀ (pins : List (Addr × Obj)) (s : Shared) (σ : St) (H : Hp) (R : It → Hp → Prop), Inv X pins σ H s → wi σ H R →
    wpAny (model X.prog X.w) X.A (eval iter X.env) (fun v s1 => wpAny (model X.prog X.w) X.A (pyIter v) (PIE X pins σ tg R) X.xe s1) X.xe s
theorem go_of {M : Model} {A : Around} {E : Value → Shared → Prop} {s : Shared} {tg : Expr} {it : Addr} {u : Value} {o : Obj} {n : String} {vs : Array Value} {Q : Unit → Shared → Prop} (ho : s.heap.get? it = some o) (hc : o.cls = .type n) (hd : o.data = .fields vs)
    (hn : ["enumerate", "zip", "dict_itemiterator", "dict_reverseitemiterator", "odict_iterator", "itertools.zip_longest", "itertools.pairwise"].contains n = false) (hQ : Q () s) : wpAny M A (letOwnedTupleGo tg (.ref it) u) Q E s := by
  unfold letOwnedTupleGo
  cases tg <;> first
    | exact wpAny_pure hQ
    | (cases u <;> first
        | exact wpAny_pure hQ
        | (refine wpAny_bind (wpAny_load ho ?_)
           rw [hc, hd]
           show wpAny M A (if (["enumerate", "zip", "dict_itemiterator", "dict_reverseitemiterator", "odict_iterator", "itertools.zip_longest", "itertools.pairwise"].contains n && vs[0]? == some (rawInt _)) = true then _ else _) Q E s
           rw [if_neg (by intro h; rw [hn, Bool.false_and] at h; cases h)]
           exact wpAny_pure hQ))
noncomputable def Itl (K : PySem.W.Frag) (a : Addr) : It :=
  ⟨fun i H => ∃ xs x, SqL K H a xs ∧ xs[i]? = some x, fun i H x H' => H' = H ∧ ∀ xs, SqL K H a xs → xs[i]? = some x, fun i H => ∃ xs, SqL K H a xs ∧ xs.length ≤ i⟩
noncomputable def Itr (lo : Int) (n : Nat) : It := ⟨fun i _ => i < n, fun i H x H' => H' = H ∧ x = .int (lo + i), fun i _ => n ≤ i⟩
theorem turn_list {P : Program} {w : World} {K : PySem.W.Frag} {tg : Expr} (a it : Addr) : Turn P w K tg (Itl K a) [it] it (fun i h => h.IsListIter it a i) where
  mem := by simp
  obj := fun i h st b hb => by
    have e : b = it := by simpa using hb
    subst e
    obtain ⟨o, e, c, d⟩ := st
    exact ⟨o, e, fun v z => by rw [d] at z; cases z⟩
  keep := fun i h h' st k => st.at fun o e => k it (by simp) o e
  item := by
    intro X hP hw hK hc i pins s σ H E I hf st hg
    subst hP hw hK
    obtain ⟨xs, x, hq, hx⟩ := hg
    obtain ⟨its, rv, p, hz⟩ := I.list hq
    obtain ⟨u, hu, ru⟩ := rv.get hx
    obtain ⟨f0, f1, f2, f3, f4, f5⟩ := hf it (by simp)
    refine wpAny_pyNext_list_item st p.isList (x := u) (by simpa using hu) fun h' st' sb => ?_
    have I1 : Inv X pins σ H { s with heap := h' } := I.turned (t' := s.toks) (fun b o hb e => (sb.2 b hb).trans e) f0 f1 f3 f4 f5
    obtain ⟨o, e, c, d⟩ := id st'
    exact ⟨u, rfl, go_of (s := { s with heap := h' }) e c d (by decide) ⟨x, H, I1, ru, ⟨rfl, fun ys hy => by rw [I.list_inj hy hq]; exact hx⟩, st', fun b hb => (hf b hb).1⟩⟩
  done := by
    intro X hP hw hK hc i pins s σ H E I hf st hg
    subst hP hw hK
    obtain ⟨xs, hq, hx⟩ := hg
    obtain ⟨its, rv, p, hz⟩ := I.list hq
    obtain ⟨f0, f1, f2, f3, f4, f5⟩ := hf it (by simp)
    have hl := rv.length
    exact wpAny_pyNext_list_end (I.ok.hd hc) st p.isList (by simp; ((try clear f0 f1 f2 f3 hc hz); omega)) fun h' eb => ⟨rfl, I.turned (t' := s.toks) (fun b o hb e => eb b o hb e) f0 f1 f3 f4 f5⟩
  self := fun _ _ _ _ _ st h => wpAny_pyIter_listiter st h
theorem turn_range {P : Program} {w : World} {K : PySem.W.Frag} {tg : Expr} (it : Addr) (lo : Int) (n : Nat) : Turn P w K tg (Itr lo n) [it] it (fun i h => IsRangeIter h it (lo + (i : Nat) * 1) ((n : Int) - (i : Nat)) 1) where
  mem := by simp
  obj := fun i h st b hb => by
    have e : b = it := by simpa using hb
    subst e
    exact ⟨_, st, fun v z => by
      have z' : Data.fields _ = Data.cell v := z
      cases z'⟩
  keep := fun i h h' st k => k it (by simp) _ st
  item := by
    intro X hP hw hK hc i pins s σ H E I hf st hg
    subst hP hw hK
    obtain ⟨f0, f1, f2, f3, f4, f5⟩ := hf it (by simp)
    have W := Walks.range (prog := X.prog) (w := X.w) (I.ok.hd hc) it lo 1 n
    refine W.item i s _ _ hg st fun v h' tk hv st' kk => ?_
    obtain ⟨t, rfl⟩ := hv
    have I1 : Inv X pins σ H { s with heap := h', toks := tk } := I.turned (fun b o hb e => kk b o (by simpa using hb) e) f0 f1 f3 f4 f5
    refine ⟨_, rfl, go_of (s := { s with heap := h', toks := tk }) (n := "range_iterator") st' rfl rfl (by decide) ⟨.int (lo + i), H, I1, ⟨t, ?_⟩, ⟨rfl, rfl⟩, st', fun b hb => (hf b hb).1⟩⟩
    rw [Int.mul_one]
  done := by
    intro X hP hw hK hc i pins s σ H E I hf st hg
    subst hP hw hK
    obtain ⟨f0, f1, f2, f3, f4, f5⟩ := hf it (by simp)
    exact wpAny_pyNext_range_end (I.ok.hd hc) st (by have : n ≤ i := hg; ((try clear f0 f1 f2 f3 hc); omega)) fun h' eb => ⟨rfl, I.turned (t' := s.toks) (fun b o hb e => eb b o hb e) f0 f1 f3 f4 f5⟩
  self := fun _ _ _ _ _ st h => wpAny_pyIter_rangeiter st h
end L2
namespace L2
open PySem PySem.Spec PyProof.Rows
section
variable {X : Cx} {tg : Expr}
noncomputable def iList (K : PySem.W.Frag) (tl : TE) : TI := fun σ H R => tl σ H fun x H1 => ∃ a, x = .ref a ∧ (∃ xs, SqL K H1 a xs) ∧ R (Itl K a) H1
theorem pi_list {l : Expr} {tl : TE} (hl : PE X l tl) : PI X tg l (iList X.K tl) := by
  intro pins s σ H R I h
  refine thn (hl pins s σ H _ I h) fun v s1 ⟨x, H1, I1, r1, q1⟩ => ?_
  obtain ⟨a, e, ⟨xs, hq⟩, q⟩ := q1
  subst e
  cases r1
  obtain ⟨its, rv, p, hz⟩ := I1.list hq
  refine wpAny_pyIter_list p.isList ?_
  refine ⟨s1.heap.objs.size, [s1.heap.objs.size], _, _, H1, rfl, I1.kept (t' := s1.toks) fun b o e => Heap.get?_push_of_some _ e, turn_list a _, ⟨_, Heap.get?_push_size _ rfl, rfl, rfl⟩, fun b hb => ?_, q⟩
  have e : b = s1.heap.objs.size := by simpa using hb
  subst e
  exact I1.fpOk (Nat.le_refl _) (I1.hok.fresh (Nat.le_refl _))
theorem range_it {pins : List (Addr × Obj)} {σ : St} {H : Hp} {s : Shared} {R : It → Hp → Prop} {E : Value → Shared → Prop} {lo hi : Int} {t u v : Tok} {tk : Nat} (I : Inv X pins σ H s) (h1 : -(2 ^ 62) ≤ lo) (h2 : lo < 2 ^ 62) (h3 : -(2 ^ 62) ≤ hi) (h4 : hi < 2 ^ 62)
    (q : R (Itr lo (hi - lo).toNat) H) : wpAny (model X.prog X.w) X.A (pyIter (.ref s.heap.objs.size)) (PIE X pins σ tg R) E { s with heap := s.heap.push { cls := .type "range", data := .fields #[.int lo t, .int hi u, .int 1 v] }, toks := tk } := by
  refine wpAny_pyIter_range (IsRange.new ..) (small_one h1 h2 h3 h4) ?_
  have I1 : Inv X pins σ H { s with heap := s.heap.push { cls := .type "range", data := .fields #[.int lo t, .int hi u, .int 1 v] }, toks := tk } := I.kept fun b o e => Heap.get?_push_of_some _ e
  refine ⟨(s.heap.push { cls := .type "range", data := .fields #[.int lo t, .int hi u, .int 1 v] }).objs.size, [(s.heap.push { cls := .type "range", data := .fields #[.int lo t, .int hi u, .int 1 v] }).objs.size], _, _, H, rfl,
    I1.kept (t' := tk) fun b o e => Heap.get?_push_of_some _ e, turn_range _ lo (hi - lo).toNat, ?_, fun b hb => ?_, q⟩
  · have e1 : lo + ((0 : Nat) : Int) * 1 = lo := by simp
    have e2 : (((hi - lo).toNat : Nat) : Int) - ((0 : Nat) : Int) = Builtin.Range.rangeSize lo hi 1 := by rw [rangeSize_one]; split <;> ((try clear e1 h1 h2 h3 h4); omega)
    show IsRangeIter _ _ (lo + ((0 : Nat) : Int) * 1) ((((hi - lo).toNat : Nat) : Int) - ((0 : Nat) : Int)) 1
    rw [e1, e2]
    exact Heap.get?_push_size _ rfl
  · have e : b = (s.heap.push { cls := .type "range", data := .fields #[.int lo t, .int hi u, .int 1 v] }).objs.size := by simpa using hb
    subst e
    exact I1.fpOk (Nat.le_refl _) (I1.hok.fresh (Nat.le_refl _))
noncomputable def iRng1 (ta : TA) : TI := fun σ H R => ta σ H fun vs H1 => ∃ j : Int, vs = [.int j] ∧ -(2 ^ 62) ≤ j ∧ j < 2 ^ 62 ∧ R (Itr 0 j.toNat) H1
noncomputable def iRng2 (ta : TA) : TI := fun σ H R => ta σ H fun vs H1 => ∃ i j : Int, vs = [.int i, .int j] ∧ (-(2 ^ 62) ≤ i ∧ i < 2 ^ 62 ∧ -(2 ^ 62) ≤ j ∧ j < 2 ^ 62) ∧ R (Itr i (j - i).toNat) H1
theorem pi_range1 {a : Expr} {ta : TA} {p pos : Pos} (hg : Gl X "range") (hm : X.mg "range" = none) (ha : PA X [a] ta) (hs : starEach [a] X.env = [(false, eval a X.env)] := by rfl) : PI X tg (.Call (.Name "range" p) [a] [] pos) (iRng1 ta) := by
  intro pins s σ H R I h
  refine Call_ (ld_blt I hg hm boot_range (PyProof.Rows.callWith_type1 (thn (ha pos pins s σ H _ I h) fun us s1 ⟨vs, H1, I1, r1, q1⟩ => ?_) hs rfl))
  obtain ⟨j, e, q1, q2, q⟩ := q1
  subst e
  cases r1 with
  | cons r rr =>
    cases rr
    obtain ⟨t, rfl⟩ := r
    exact call_range_1 (range_it I1 (by ((try clear hm hs q1 q2); omega)) (by ((try clear hm hs q1 q2); omega)) q1 q2 (by simpa using q))
theorem pi_range2 {a b : Expr} {ta : TA} {p pos : Pos} (hg : Gl X "range") (hm : X.mg "range" = none) (ha : PA X [a, b] ta) (hs : starEach [a, b] X.env = [(false, eval a X.env), (false, eval b X.env)] := by rfl) (hs2 : starEach [b] X.env = [(false, eval b X.env)] := by rfl) :
    PI X tg (.Call (.Name "range" p) [a, b] [] pos) (iRng2 ta) := by
  intro pins s σ H R I h
  refine Call_ (ld_blt I hg hm boot_range (PyProof.Rows.callWith_type1 (thn (ha pos pins s σ H _ I h) fun us s1 ⟨vs, H1, I1, r1, q1⟩ => ?_) (by rw [hs, hs2]) (by rw [hs2]; rfl)))
  obtain ⟨i, j, e, ⟨q1, q2, q3, q4⟩, q⟩ := q1
  subst e
  cases r1 with
  | cons r rr =>
    cases rr with
    | cons r' rr =>
      cases rr
      obtain ⟨t, rfl⟩ := r
      obtain ⟨t', rfl⟩ := r'
      exact call_range_2 (range_it I1 q1 q2 q3 q4 q)
noncomputable def tFor (wi : TI) (g : TG) (tb : TS) : TS := fun D σ H => wi σ H fun J H1 => ∃ W : Nat → Nat → St → Hp → Prop, (∃ m, W 0 m σ H1) ∧ ∀ i m σ H, W i m σ H →
  (J.stop i H ∧ D.nx σ H) ∨ (J.go i H ∧ ∃ N : St → Hp → Prop, (∀ σ' H', N σ' H' → ∃ m', m' < m ∧ W (i + 1) m' σ' H') ∧ ∀ x H', J.yld i H x H' → g x σ H' fun σ2 H2 => tb { D with nx := N, ct := N, bk := D.nx } σ2 H2)
noncomputable def pinsAt (fp : List Addr) (h : Heap) : List (Addr × Obj) := fp.filterMap fun b => (h.get? b).map fun o => (b, o)
theorem mem_pinsAt {fp : List Addr} {h : Heap} {b : Addr} {o : Obj} (hb : b ∈ fp) (e : h.get? b = some o) : (b, o) ∈ pinsAt fp h := List.mem_filterMap.mpr ⟨b, hb, by rw [e]; rfl⟩
theorem of_pinsAt {fp : List Addr} {h : Heap} {p : Addr × Obj} (hp : p ∈ pinsAt fp h) : p.1 ∈ fp ∧ h.get? p.1 = some p.2 := by
  obtain ⟨b, hb, e⟩ := List.mem_filterMap.mp hp
  cases q : h.get? b with
  | none => rw [q] at e; cases e
  | some o =>
    rw [q] at e
    have e' : (b, o) = p := Option.some.inj e
    subst e'
    exact ⟨hb, q⟩
theorem Inv.pinned {pins : List (Addr × Obj)} {σ : St} {H : Hp} {s : Shared} {fp : List Addr} (I : Inv X pins σ H s) (hf : ∀ b ∈ fp, FpOk X pins H b) (ho : ∀ b ∈ fp, ∃ o, s.heap.get? b = some o ∧ ∀ v, o.data ≠ .cell v) : Inv X (pins ++ pinsAt fp s.heap) σ H s :=
  I.pins_of fun p hp => (List.mem_append.mp hp).elim (fun z => I.pin p (List.mem_append_right _ z)) fun z => by
    obtain ⟨hb, e⟩ := of_pinsAt z
    obtain ⟨f0, f1, f2, _⟩ := hf p.1 hb
    obtain ⟨o, e', d⟩ := ho p.1 hb
    rw [e] at e'; cases e'
    exact ⟨e, f0, f1, f2, d⟩
theorem Inv.unpinned {pins pl : List (Addr × Obj)} {σ : St} {H : Hp} {s : Shared} (I : Inv X (pins ++ pl) σ H s) : Inv X pins σ H s := I.pins_of fun p hp => I.pin p (List.mem_append_right _ (List.mem_append_left _ hp))
theorem ps_for {iter : Expr} {body : List Stmt} {wi : TI} {g : TG} {tb : TS} {pos : Pos} (hp : PassesOwn (model X.prog X.w) X.A X.env X.xe) (hc : X.calm = true) (hi : PI X tg iter wi) (hg : PG X tg g) (hb : PSs X body tb)
    (hs : ∀ x, foldedSetIterable iter X.env x = pure x := by intro _; rfl) : PS X (.For tg iter body [] pos) (tFor wi g tb) := by
  intro pins s σ H D I h
  refine wpAny_For (thn (hi pins s σ H _ I h) fun v s1 h1 => thn h1 fun itv s2 h2 => ?_) hs
  obtain ⟨it, fp, tn, J, H2, e, I2, T, st2, f2, W, ⟨m0, w0⟩, turn⟩ := h2
  subst e
  have stat : ∀ {H' : Hp}, (∀ b ∈ fp, H' b = none) → ∀ b ∈ fp, FpOk X pins H' b := fun hn b hb => ⟨hn b hb, (f2 b hb).2⟩
  refine codeAny_forLoop_any (fun n s' => ∃ i σ' H', Inv X pins σ' H' s' ∧ tn i s'.heap ∧ (∀ b ∈ fp, H' b = none) ∧ W i n σ' H') ?_ m0 ⟨0, σ, H2, I2, st2, fun b hb => (f2 b hb).1, w0⟩
  rintro n s3 ⟨i, σ3, H3, I3, st3, fr3, w3⟩
  rcases turn i n σ3 H3 w3 with ⟨stop, qn⟩ | ⟨go, N, hN, step⟩
  · refine wpAny_passesOwn hp (thn (T.done X rfl rfl rfl hc i pins s3 σ3 H3 X.xe I3 (stat fr3) st3 stop) fun r s4 ⟨hr, I4⟩ => ?_)
    subst hr
    exact wpAny_execs_nil ⟨σ3, H3, I4, qn⟩
  · refine wpAny_passesOwn hp (thn (T.item X rfl rfl rfl hc i pins s3 σ3 H3 X.xe I3 (stat fr3) st3 go) fun r s4 ⟨u, hr, h4⟩ => ?_)
    subst hr
    refine wpAny_passesOwn hp (thn h4 fun _ s5 ⟨x, H5, I5, r5, y5, st5, fr5⟩ => ?_)
    have I5' := I5.pinned (stat fr5) (T.obj _ _ st5)
    refine wpAny_passesOwn hp (thn (hg _ s5 σ3 H5 x u _ I5' r5 (step x H5 y5)) fun _ s6 ⟨σ6, H6, I6, q6⟩ => ?_)
    refine wpAny_passesOwn hp (thn (hb _ s6 σ6 H6 _ I6 q6) fun f s7 q7 => ?_)
    have again : ∀ {σ7 : St} {H7 : Hp}, Inv X (pins ++ pinsAt fp s5.heap) σ7 H7 s7 → N σ7 H7 → ∃ m, m < n ∧ ∃ i σ' H', Inv X pins σ' H' s7 ∧ tn i s7.heap ∧ (∀ b ∈ fp, H' b = none) ∧ W i m σ' H' := fun {σ7 H7} I7 n7 => by
      obtain ⟨m', hm, w7⟩ := hN σ7 H7 n7
      refine ⟨m', hm, i + 1, σ7, H7, I7.unpinned, T.keep _ _ _ st5 fun b hb o e => (I7.pin (b, o) (List.mem_append_right _ (List.mem_append_right _ (mem_pinsAt hb e)))).1, fun b hb => ?_, w7⟩
      obtain ⟨o, e, d⟩ := T.obj _ _ st5 b hb
      exact (I7.pin (b, o) (List.mem_append_right _ (List.mem_append_right _ (mem_pinsAt hb e)))).2.1
    cases f with
    | next => obtain ⟨σ7, H7, I7, n7⟩ := q7; exact again I7 n7
    | cont => obtain ⟨σ7, H7, I7, n7⟩ := q7; exact again I7 n7
    | brk => obtain ⟨σ7, H7, I7, q7⟩ := q7; exact ⟨σ7, H7, I7.unpinned, q7⟩
    | ret v => obtain ⟨x7, σ7, H7, I7, r7, q7⟩ := q7; exact ⟨x7, σ7, H7, I7.unpinned, r7, q7⟩
end
theorem for_range {lo : Int} {n : Nat} {g : TG} {tb : TS} {D : Ends} {σ : St} {H : Hp} (Pv : Nat → St → Hp → Prop) (h0 : Pv 0 σ H)
    (hs : ∀ i σ H, i < n → Pv i σ H → g (.int (lo + i)) σ H fun σ2 H2 => tb { D with nx := Pv (i + 1), ct := Pv (i + 1), bk := D.nx } σ2 H2) (hd : ∀ σ H, Pv n σ H → D.nx σ H) :
    ∃ W : Nat → Nat → St → Hp → Prop, (∃ m, W 0 m σ H) ∧ ∀ i m σ H, W i m σ H →
      ((Itr lo n).stop i H ∧ D.nx σ H) ∨ ((Itr lo n).go i H ∧ ∃ N : St → Hp → Prop, (∀ σ' H', N σ' H' → ∃ m', m' < m ∧ W (i + 1) m' σ' H') ∧ ∀ x H', (Itr lo n).yld i H x H' → g x σ H' fun σ2 H2 => tb { D with nx := N, ct := N, bk := D.nx } σ2 H2) := by
  refine ⟨fun i m σ H => m = n - i ∧ i ≤ n ∧ Pv i σ H, ⟨n, by simp, Nat.zero_le _, h0⟩, ?_⟩
  rintro i m σ H ⟨rfl, hi, p⟩
  by_cases hlt : i < n
  · refine .inr ⟨hlt, Pv (i + 1), fun σ' H' p' => ⟨n - (i + 1), by ((try clear hi); omega), rfl, hlt, p'⟩, fun x H' y => ?_⟩
    obtain ⟨e, y⟩ := y
    subst e y
    exact hs i σ _ hlt p
  · have e : i = n := by omega
    subst e
    exact .inl ⟨Nat.le_refl _, hd σ H p⟩
end L2
namespace L2
open PySem PySem.Spec PyProof.Rows
noncomputable abbrev R2 := V → V → Hp → VK → Prop
noncomputable def OpR (X : Cx) (f : Value → Value → Sem Value) (r : R2) : Prop :=
  ∀ (pins : List (Addr × Obj)) (s : Shared) (σ : St) (H : Hp) (x y : V) (v u : Value) (Q : VK), Inv X pins σ H s → RelV x v → RelV y u → r x y H Q →
    wpAny (model X.prog X.w) X.A (f v u) (EP X pins σ Q) X.xe s
noncomputable def UnR (X : Cx) (f : Value → Sem Value) (r : V → Hp → VK → Prop) : Prop :=
  ∀ (pins : List (Addr × Obj)) (s : Shared) (σ : St) (H : Hp) (x : V) (v : Value) (Q : VK), Inv X pins σ H s → RelV x v → r x H Q →
    wpAny (model X.prog X.w) X.A (f v) (EP X pins σ Q) X.xe s
noncomputable def CallR (X : Cx) (f : Value) (r : List V → Hp → VK → Prop) : Prop :=
  ∀ (pins : List (Addr × Obj)) (s : Shared) (σ : St) (H : Hp) (xs : List V) (us : List Value) (Q : VK), Inv X pins σ H s → Vals xs us → r xs H Q →
    wpAny (model X.prog X.w) X.A (call f us) (EP X pins σ Q) X.xe s
noncomputable def tOp (r : R2) (ta tb : TE) : TE := fun σ H Q => ta σ H fun x H1 => tb σ H1 fun y H2 => r x y H2 Q
noncomputable def tUn (r : V → Hp → VK → Prop) (ta : TE) : TE := fun σ H Q => ta σ H fun x H1 => r x H1 Q
noncomputable def rI (C : Int → Int → Prop) (g : Int → Int → V) : R2 := fun x y H Q => ∃ i j, x = .int i ∧ y = .int j ∧ C i j ∧ Q (g i j) H
noncomputable def rI0 (g : Int → Int → V) : R2 := fun x y H Q => ∃ i j, x = .int i ∧ y = .int j ∧ Q (g i j) H
noncomputable def rU (g : Int → V) : V → Hp → VK → Prop := fun x H Q => ∃ i, x = .int i ∧ Q (g i) H
section
variable {X : Cx} {a b c : Expr} {ta tb tc : TE} {pos : Pos}
theorem binT (ha : PE X a ta) (hb : PE X b tb) {pins : List (Addr × Obj)} {s : Shared} {σ : St} {H : Hp} {R : V → V → Hp → Prop} (I : Inv X pins σ H s)
    (h : ta σ H fun x H1 => tb σ H1 fun y H2 => R x y H2) {Q : Value → Shared → Prop} {f : Value → Value → Sem Value}
    (hf : ∀ v u s2 x y H2, Inv X pins σ H2 s2 → RelV x v → RelV y u → R x y H2 → wpAny (model X.prog X.w) X.A (f v u) Q X.xe s2) :
    wpAny (model X.prog X.w) X.A (eval a X.env) (fun v s₁ => wpAny (model X.prog X.w) X.A (eval b X.env) (fun u s₂ => wpAny (model X.prog X.w) X.A (f v u) Q X.xe s₂) X.xe s₁) X.xe s := by
  refine thn (ha pins s σ H _ I h) fun v s1 ⟨x, H1, I1, r1, q1⟩ => ?_
  refine thn (hb pins s1 σ H1 _ I1 q1) fun u s2 ⟨y, H2, I2, r2, q2⟩ => ?_
  exact hf v u s2 x y H2 I2 r1 r2 q2
theorem pe_op {op : Operator} {r : R2} (ho : OpR X (binaryOp op) r) (ha : PE X a ta) (hb : PE X b tb) : PE X (.BinOp a op b pos) (tOp r ta tb) := by
  intro pins s σ H Q I h
  exact wpAny_BinOp (binT ha hb I h fun v u s2 x y H2 I2 rx ry q => ho pins s2 σ H2 x y v u Q I2 rx ry q)
theorem pe_un {op : UnaryOp} {r : V → Hp → VK → Prop} (ho : UnR X (unaryOp op) r) (ha : PE X a ta) : PE X (.UnaryOp op a pos) (tUn r ta) := by
  intro pins s σ H Q I h
  exact UnaryOp_ (thn (ha pins s σ H _ I h) fun v s1 ⟨x, H1, I1, r1, q1⟩ => ho pins s1 σ H1 x v Q I1 r1 q1)
theorem opI {f : Value → Value → Sem Value} {C : Int → Int → Prop} {g : Int → Int → Int}
    (rule : ∀ (i j : Int) (t u : Tok) (s : Shared) (Q : Value → Shared → Prop) (E : Value → Shared → Prop), C i j → Q (.int (g i j) s.toks) { s with toks := s.toks + 1 } → wpAny (model X.prog X.w) X.A (f (.int i t) (.int j u)) Q E s) :
    OpR X f (rI C fun i j => .int (g i j)) := by
  intro pins s σ H x y v u Q I rx ry h
  obtain ⟨i, j, rfl, rfl, hc, q⟩ := h
  obtain ⟨t, rfl⟩ := rx
  obtain ⟨t', rfl⟩ := ry
  exact rule i j t t' s _ _ hc ⟨.int (g i j), H, I.tok _, ⟨_, rfl⟩, q⟩
theorem opI0 {f : Value → Value → Sem Value} {g : Int → Int → Int}
    (rule : ∀ (i j : Int) (t u : Tok) (s : Shared) (Q : Value → Shared → Prop) (E : Value → Shared → Prop), Q (.int (g i j) s.toks) { s with toks := s.toks + 1 } → wpAny (model X.prog X.w) X.A (f (.int i t) (.int j u)) Q E s) :
    OpR X f (rI0 fun i j => .int (g i j)) := by
  intro pins s σ H x y v u Q I rx ry h
  obtain ⟨i, j, rfl, rfl, q⟩ := h
  obtain ⟨t, rfl⟩ := rx
  obtain ⟨t', rfl⟩ := ry
  exact rule i j t t' s _ _ ⟨.int (g i j), H, I.tok _, ⟨_, rfl⟩, q⟩
theorem opB0 {f : Value → Value → Sem Value} {g : Int → Int → Bool}
    (rule : ∀ (i j : Int) (t u : Tok) (s : Shared) (Q : Value → Shared → Prop) (E : Value → Shared → Prop), Q (.bool (g i j)) s → wpAny (model X.prog X.w) X.A (f (.int i t) (.int j u)) Q E s) :
    OpR X f (rI0 fun i j => .bl (g i j)) := by
  intro pins s σ H x y v u Q I rx ry h
  obtain ⟨i, j, rfl, rfl, q⟩ := h
  obtain ⟨t, rfl⟩ := rx
  obtain ⟨t', rfl⟩ := ry
  exact rule i j t t' s _ _ ⟨.bl (g i j), H, I, rfl, q⟩
theorem op_add : OpR X (binaryOp .Add) (rI0 fun i j => .int (i + j)) := opI0 fun _ _ _ _ _ _ _ q => add_int q
theorem op_sub : OpR X (binaryOp .Sub) (rI0 fun i j => .int (i - j)) := opI0 fun _ _ _ _ _ _ _ q => sub_int q
theorem op_mod : OpR X (binaryOp .Mod) (rI (fun _ j => 0 < j) fun i j => .int (i % j)) := opI fun i j _ _ _ _ _ hc q => by
  have h1 : (0 : Int) < j := hc
  exact mod_int' (by ((try clear h1); omega)) (by rw [Int.fmod_eq_emod_of_nonneg i (by ((try clear h1); omega))]; exact q)
theorem unI {f : Value → Sem Value} {g : Int → Int}
    (rule : ∀ (i : Int) (t : Tok) (s : Shared) (Q : Value → Shared → Prop) (E : Value → Shared → Prop), Q (.int (g i) s.toks) { s with toks := s.toks + 1 } → wpAny (model X.prog X.w) X.A (f (.int i t)) Q E s) :
    UnR X f (rU fun i => .int (g i)) := by
  intro pins s σ H x v Q I rx h
  obtain ⟨i, rfl, q⟩ := h
  obtain ⟨t, rfl⟩ := rx
  exact rule i t s _ _ ⟨.int (g i), H, I.tok _, ⟨_, rfl⟩, q⟩
theorem un_neg : UnR X (unaryOp .USub) (rU fun i => .int (-i)) := unI fun _ _ _ _ _ q => neg_int q
end
noncomputable def scal : V → V → Bool
  | .non, .non => true | .non, .int _ => true | .int _, .non => true | .non, .bl _ => true | .bl _, .non => true | .non, .str _ => true | .str _, .non => true
  | .int _, .int _ => true | .bl _, .bl _ => true | .str _, .str _ => true | .byt _, .byt _ => true
  | .int _, .str _ => true | .str _, .int _ => true | .bl _, .str _ => true | .str _, .bl _ => true
  | _, _ => false
noncomputable def rEq : R2 := fun x y H Q => scal x y = true ∧ Q (.bl (decide (x = y))) H
noncomputable def rNe : R2 := fun x y H Q => scal x y = true ∧ Q (.bl (!decide (x = y))) H
theorem dec_int {i j : Int} : decide (V.int i = V.int j) = (i == j) := by
  rw [Bool.eq_iff_iff]
  simp
theorem dec_bl {i j : Bool} : decide (V.bl i = V.bl j) = (i == j) := by
  rw [Bool.eq_iff_iff]
  simp
theorem dec_str {i j : Str} : decide (V.str i = V.str j) = (i == j) := by
  rw [Bool.eq_iff_iff]
  simp
theorem dec_byt {i j : Array UInt8} : decide (V.byt i = V.byt j) = (i.toList == j.toList) := by
  rw [Bool.eq_iff_iff]
  cases i
  cases j
  simp
section
variable {X : Cx} {a b c : Expr} {ta tb tc : TE} {pos : Pos}
theorem fin_bl {pins : List (Addr × Obj)} {σ : St} {H : Hp} {s : Shared} {Q : VK} {k k' : Bool} (I : Inv X pins σ H s) (q : Q (.bl k) H) (e : k = k') : EP X pins σ Q (.bool k') s := by
  subst e
  exact ⟨.bl k, H, I, rfl, q⟩
theorem op_eq : OpR X (compareOp .Eq) rEq := by
  intro pins s σ H x y v u Q I rx ry h
  obtain ⟨hs, q⟩ := h
  cases x with
  | non =>
    cases rx
    cases y with
    | non => cases ry; exact PySem.EqNone.eq_none_none (fin_bl I q (by simp))
    | bl j => cases ry; exact PySem.EqNone.eq_none_bool (fin_bl I q (by simp))
    | int j => obtain ⟨t', rfl⟩ := ry; exact PySem.EqNone.eq_none_int (fin_bl I q (by simp))
    | str j => obtain ⟨t', rfl⟩ := ry; exact PySem.EqNone.eq_none_str (fin_bl I q (by simp))
    | _ => exact absurd (show false = true from hs) Bool.false_ne_true
  | bl i =>
    cases rx
    cases y with
    | non => cases ry; exact PySem.EqNone.eq_bool_none (fin_bl I q (by simp))
    | bl j => cases ry; exact eq_bool (fin_bl I q dec_bl)
    | str j => obtain ⟨t', rfl⟩ := ry; exact PySem.EqMixed.eq_bool_str (fin_bl I q (by simp))
    | _ => exact absurd (show false = true from hs) Bool.false_ne_true
  | int i =>
    obtain ⟨t, rfl⟩ := rx
    cases y with
    | non => cases ry; exact PySem.EqNone.eq_int_none (fin_bl I q (by simp))
    | int j => obtain ⟨t', rfl⟩ := ry; exact eq_int (fin_bl I q dec_int)
    | str j => obtain ⟨t', rfl⟩ := ry; exact PySem.EqMixed.eq_int_str (fin_bl I q (by simp))
    | _ => exact absurd (show false = true from hs) Bool.false_ne_true
  | str i =>
    obtain ⟨t, rfl⟩ := rx
    cases y with
    | non => cases ry; exact PySem.EqNone.eq_str_none (fin_bl I q (by simp))
    | bl j => cases ry; exact PySem.EqMixed.eq_str_bool (fin_bl I q (by simp))
    | int j => obtain ⟨t', rfl⟩ := ry; exact PySem.EqMixed.eq_str_int (fin_bl I q (by simp))
    | str j => obtain ⟨t', rfl⟩ := ry; exact eq_str (fin_bl I q dec_str)
    | _ => exact absurd (show false = true from hs) Bool.false_ne_true
  | byt i =>
    obtain ⟨t, rfl⟩ := rx
    cases y with
    | byt j => obtain ⟨t', rfl⟩ := ry; exact PySem.W.eq_bytes (fin_bl I q dec_byt)
    | _ => exact absurd (show false = true from hs) Bool.false_ne_true
  | _ => cases y <;> exact absurd (show false = true from hs) Bool.false_ne_true
theorem op_ne : OpR X (compareOp .NotEq) rNe := by
  intro pins s σ H x y v u Q I rx ry h
  obtain ⟨hs, q⟩ := h
  cases x with
  | non =>
    cases rx
    cases y with
    | non => cases ry; exact PySem.EqNone.ne_none_none (fin_bl I q (by simp))
    | bl j => cases ry; exact PySem.EqNone.ne_none_bool (fin_bl I q (by simp))
    | int j => obtain ⟨t', rfl⟩ := ry; exact PySem.EqNone.ne_none_int (fin_bl I q (by simp))
    | str j => obtain ⟨t', rfl⟩ := ry; exact PySem.EqNone.ne_none_str (fin_bl I q (by simp))
    | _ => exact absurd (show false = true from hs) Bool.false_ne_true
  | bl i =>
    cases rx
    cases y with
    | non => cases ry; exact PySem.EqNone.ne_bool_none (fin_bl I q (by simp))
    | bl j => cases ry; exact ne_bool (fin_bl I q (congrArg not dec_bl))
    | str j => obtain ⟨t', rfl⟩ := ry; exact PySem.EqMixed.ne_bool_str (fin_bl I q (by simp))
    | _ => exact absurd (show false = true from hs) Bool.false_ne_true
  | int i =>
    obtain ⟨t, rfl⟩ := rx
    cases y with
    | non => cases ry; exact PySem.EqNone.ne_int_none (fin_bl I q (by simp))
    | int j => obtain ⟨t', rfl⟩ := ry; exact ne_int (fin_bl I q (congrArg not dec_int))
    | str j => obtain ⟨t', rfl⟩ := ry; exact PySem.EqMixed.ne_int_str (fin_bl I q (by simp))
    | _ => exact absurd (show false = true from hs) Bool.false_ne_true
  | str i =>
    obtain ⟨t, rfl⟩ := rx
    cases y with
    | non => cases ry; exact PySem.EqNone.ne_str_none (fin_bl I q (by simp))
    | bl j => cases ry; exact PySem.EqMixed.ne_str_bool (fin_bl I q (by simp))
    | int j => obtain ⟨t', rfl⟩ := ry; exact PySem.EqMixed.ne_str_int (fin_bl I q (by simp))
    | str j => obtain ⟨t', rfl⟩ := ry; exact ne_str (fin_bl I q (congrArg not dec_str))
    | _ => exact absurd (show false = true from hs) Bool.false_ne_true
  | byt i =>
    obtain ⟨t, rfl⟩ := rx
    cases y with
    | byt j => obtain ⟨t', rfl⟩ := ry; exact PySem.W.ne_bytes (fin_bl I q (congrArg not dec_byt))
    | _ => exact absurd (show false = true from hs) Bool.false_ne_true
  | _ => cases y <;> exact absurd (show false = true from hs) Bool.false_ne_true
theorem op_lt : OpR X (compareOp .Lt) (rI0 fun i j => .bl (decide (i < j))) := opB0 fun _ _ _ _ _ _ _ q => lt_int q
theorem op_gt : OpR X (compareOp .Gt) (rI0 fun i j => .bl (decide (j < i))) := opB0 fun _ _ _ _ _ _ _ q => gt_int q
theorem op_ge : OpR X (compareOp .GtE) (rI0 fun i j => .bl (decide (j ≤ i))) := opB0 fun _ _ _ _ _ _ _ q => ge_int q
theorem op_isN : OpR X (compareOp .Is) (fun x y H Q => y = .non ∧ Q (.bl (decide (x = .non))) H) := by
  intro pins s σ H x y v u Q I rx ry h
  obtain ⟨rfl, q⟩ := h
  cases ry
  refine is_none_gen (fin_bl I q ?_)
  cases x <;> first
    | (cases rx; rfl)
    | (obtain ⟨t, rfl⟩ := rx; rfl)
theorem nomark (b : Expr) {op : CmpOp} (h : op ≠ .In := by decide) (h2 : op ≠ .NotIn := by decide) : behindInMarks op b = false := by
  have e1 : (op == CmpOp.In) = false := by cases op <;> first | rfl | exact absurd rfl h
  have e2 : (op == CmpOp.NotIn) = false := by cases op <;> first | rfl | exact absurd rfl h2
  cases b <;> simp [behindInMarks, e1, e2]
theorem pe_cmpR {op : CmpOp} {r : R2} (ho : OpR X (compareOp op) r) (ha : PE X a ta) (hb : PE X b tb) (hm : behindInMarks op b = false) : PE X (.Compare a [op] [b] pos) (tOp r ta tb) := by
  intro pins s σ H Q I h
  exact wpAny_Compare1 (binT ha hb I h fun v u s2 x y H2 I2 rx ry q => ho pins s2 σ H2 x y v u Q I2 rx ry q) hm
noncomputable def tTest (t : TE) : TT := fun σ H Q => t σ H fun x H' => ∃ k, x = .bl k ∧ Q k H'
theorem pt_cmpR {op : CmpOp} {r : R2} (ho : OpR X (compareOp op) r) (ha : PE X a ta) (hb : PE X b tb) (hm : behindInMarks op b = false) : PT X (.Compare a [op] [b] pos) (tTest (tOp r ta tb)) := by
  intro pins s σ H Q I h
  refine wpAny_isTrue_Compare1 (thn (ha pins s σ H _ I h) fun v s1 ⟨x, H1, I1, r1, q1⟩ => thn (hb pins s1 σ H1 _ I1 q1) fun u s2 ⟨y, H2, I2, r2, q2⟩ =>
    thn (ho pins s2 σ H2 x y v u _ I2 r1 r2 q2) fun c s3 ⟨z, H3, I3, r3, k, e, q3⟩ => ?_) hm
  subst e
  cases r3
  exact wpAny_truthy_bool ⟨H3, I3, q3⟩
theorem line63 : (sizeLine : Nat) < 2 ^ 63 := by rw [sizeLine_eq]; decide
theorem vals1 {x : V} {us : List Value} (r : Vals [x] us) : ∃ u, us = [u] ∧ RelV x u := by
  cases r with
  | cons r1 r2 => cases r2; exact ⟨_, rfl, r1⟩
theorem vals2 {x y : V} {us : List Value} (r : Vals [x, y] us) : ∃ u w', us = [u, w'] ∧ RelV x u ∧ RelV y w' := by
  cases r with
  | cons r1 r2 =>
    cases r2 with
    | cons r3 r4 => cases r4; exact ⟨_, _, rfl, r1, r3⟩
theorem call_max2 (hc : X.calm = true) : CallR X (.builtin "max") (fun xs H Q => ∃ i j, xs = [.int i, .int j] ∧ Q (.int (if j > i then j else i)) H) := by
  intro pins s σ H xs us Q I r h
  obtain ⟨i, j, rfl, q⟩ := h
  obtain ⟨u, w', rfl, ⟨t, rfl⟩, ⟨t', rfl⟩⟩ := vals2 r
  refine max_two_ints (I.ok.hd hc) fun h' tk k => ⟨_, H, I.kept k, ?_, q⟩
  by_cases hj : j > i
  · rw [if_pos hj, if_pos hj]; exact ⟨_, rfl⟩
  · rw [if_neg hj, if_neg hj]; exact ⟨_, rfl⟩
theorem call_min2 (hc : X.calm = true) : CallR X (.builtin "min") (fun xs H Q => ∃ i j, xs = [.int i, .int j] ∧ Q (.int (if j < i then j else i)) H) := by
  intro pins s σ H xs us Q I r h
  obtain ⟨i, j, rfl, q⟩ := h
  obtain ⟨u, w', rfl, ⟨t, rfl⟩, ⟨t', rfl⟩⟩ := vals2 r
  refine min_two_ints (I.ok.hd hc) fun h' tk k => ⟨_, H, I.kept k, ?_, q⟩
  by_cases hj : j < i
  · rw [if_pos hj, if_pos hj]; exact ⟨_, rfl⟩
  · rw [if_neg hj, if_neg hj]; exact ⟨_, rfl⟩
end
end L2
namespace L2
open PySem PySem.Spec PyProof.Rows
section
variable {prog : Program} {w : World} {A : Around} {E : Value → Shared → Prop} {s : Shared} {K : PySem.W.Frag} {x dx C f : Addr} {mA : Str → Option Value} {name : Str} {v : Value}
end
section
variable {P : Program} {w : World} {H H' : Hp} {h h' : Heap} {a C dx : Addr} {fs fs' : List (Str × V)}
end
section
variable {X : Cx} {pins : List (Addr × Obj)} {σ : St} {H : Hp} {s : Shared} {a C dx : Addr} {fs : List (Str × V)} {f : Str} {v : V} {A : Around} {E : Value → Shared → Prop}
end
section
variable {X : Cx} {o e value : Expr} {f : Str} {pos pos' tpos : Pos} {ta tv : TE}
end
section
variable {X : Cx} {pins : List (Addr × Obj)} {σ : St} {H : Hp} {s : Shared} {A : Around} {E : Value → Shared → Prop} {Q : Value → Shared → Prop} {c : Value} {b : Bool}
end
end L2
namespace L2
open PySem PySem.Spec PyProof.Rows
structure Room (k : Nat) (A : Around) : Prop where
  hd : A.handled = none
  dp : A.depth + 3 * k + 5 < recursionLimit
  un : A.units + 16 * k + 200 < cLine
theorem Room.mono {j k : Nat} {A : Around} (r : Room k A) (h : j ≤ k) : Room j A := ⟨r.hd, by have := r.dp; omega, by have := r.un; omega⟩
theorem Room.deeper {k : Nat} {A : Around} (r : Room (k + 1) A) (env : Env) : Room k (A.deeper env) :=
  ⟨r.hd, by have := r.dp; show A.depth + 1 + 3 * k + 5 < _; omega, by have := r.un; show A.units + 3 + 16 * k + 200 < _; omega⟩
theorem Room.depth {k : Nat} {A : Around} (r : Room k A) : A.depth < recursionLimit := by have := r.dp; omega
theorem Room.units {k : Nat} {A : Around} (r : Room k A) : A.units + 64 < cLine := by have := r.un; omega
noncomputable def tNil : TA := fun _ H Q => Q [] H
noncomputable def tCons (ta : TE) (tr : TA) : TA := fun σ H Q => ta σ H fun x H1 => tr σ H1 fun xs H2 => Q (x :: xs) H2
section
variable {X : Cx} {e : Expr} {es : List Expr} {te : TE} {t : TA} {pos : Pos}
theorem pa_nil : PA X [] tNil := fun _ _ _ _ H Q I h => Calls.spliced_nil ⟨[], H, I, .nil, h⟩
theorem pa_cons (ha : PE X e te) (hr : PA X es t) (hs : starEach (e :: es) X.env = (false, eval e X.env) :: starEach es X.env := by rfl) : PA X (e :: es) (tCons te t) := by
  intro pos pins s σ H Q I h
  rw [hs]
  show wpAny _ _ (spliced ((false, eval e X.env) :: backTo pos (starEach es X.env))) _ _ s
  refine Calls.spliced_cons (thn (ha pins s σ H _ I h) fun u s1 ⟨x, H1, I1, r1, q1⟩ => ?_)
  exact thn (hr pos pins s1 σ H1 _ I1 q1) fun us s2 ⟨xs, H2, I2, r2, q2⟩ => ⟨x :: xs, H2, I2, .cons r1 r2, q2⟩
noncomputable def tTup (t : TA) : TE := fun σ H Q => t σ H fun xs H1 => xs.length ≤ sizeLine ∧ ∀ p, H1 p = none → Q (.ref p) (upd H1 p (.tup xs))
noncomputable def tLst (t : TA) : TE := fun σ H Q => t σ H fun xs H1 => xs.length ≤ sizeLine ∧ ∀ p, H1 p = none → Q (.ref p) (upd H1 p (.lst xs))
theorem pe_tup {x1} (h : PA X es t) : PE X (.Tuple es x1 pos) (tTup t) := by
  intro pins s σ H Q I hq
  refine wpAny_Tuple_spliced (thn (h pos pins s σ H _ I hq) fun us s1 ⟨xs, H1, I1, r, z, q⟩ => ⟨by rw [← r.length]; exact z, ?_⟩)
  have hf : H1 s1.heap.objs.size = none := I1.hok.fresh (Nat.le_refl _)
  refine ⟨.ref s1.heap.objs.size, upd H1 s1.heap.objs.size (.tup xs), I1.laid (t' := s1.toks) (fun b u e => Heap.get?_push_of_some _ e) (Nat.le_refl _) ?_, rfl, q _ hf⟩
  exact ⟨z, us, r, ⟨_, Heap.get?_push_size _ rfl, rfl, _, rfl⟩⟩
theorem pe_lst (h : PA X es t) : PE X (.List es pos) (tLst t) := by
  intro pins s σ H Q I hq
  refine wpAny_List_spliced (thn (h pos pins s σ H _ I hq) fun us s1 ⟨xs, H1, I1, r, z, q⟩ => ⟨by rw [← r.length]; exact z, ?_⟩)
  have hf : H1 s1.heap.objs.size = none := I1.hok.fresh (Nat.le_refl _)
  refine ⟨.ref s1.heap.objs.size, upd H1 s1.heap.objs.size (.lst xs), I1.laid (t' := s1.toks) (fun b u e => Heap.get?_push_of_some _ e) (Nat.le_refl _) ?_, rfl, q _ hf⟩
  exact ⟨z, us, 0, r, Heap.get?_push_size _ rfl⟩
end
noncomputable abbrev Sp := List V → Hp → VK → XK → Prop
noncomputable abbrev CXT := List Env → Hp → Shared → XK → Value → Shared → Prop
structure Env0 (P : Program) (w : World) (K : PySem.W.Frag) (mg : Str → Option Value) (base : Heap) (A : Around) (outer : List Env) (s : Shared) (H : Hp) : Prop where
  frames : A.frames = some outer
  mod : Mod K mg base
  bs : ∀ b o, base.get? b = some o → s.heap.get? b = some o ∧ H b = none
  bsz : base.objs.size ≤ s.heap.objs.size
  funs : s.heap.FunFrames base outer
  frf : ∀ b ∈ frs outer, H b = none
  hok : HOk P w H s.heap
  bare : AllBare s.gens
noncomputable def CE (outer : List Env) (P : Program) (w : World) (H : Hp) (s : Shared) (Q : VK) (u : Value) (s' : Shared) : Prop :=
  ∃ v H', s'.os = s.os ∧ AllBare s'.gens ∧ Un (frs outer) [] H H' s.heap s'.heap ∧ HOk P w H' s'.heap ∧ RelV v u ∧ Q v H'
noncomputable def CR (CX : CXT) (outer : List Env) (P : Program) (w : World) (H : Hp) (s : Shared) (Q : VK) (E : XK) (r : Result) (s' : Shared) : Prop :=
  match r with
  | .ok (.ret u) => CE outer P w H s Q u s'
  | .ok _ => False
  | .error e => CX outer H s E e s'
structure FnOk (P : Program) (w : World) (K : PySem.W.Frag) (mg : Str → Option Value) (base : Heap) (CX : CXT) (k : Nat) (f : Addr) (fd : FuncData) (ps : List Str) (sp : Sp) : Prop where
  len : ∀ vs H Q E, sp vs H Q E → vs.length = ps.length
  run : ∀ (A : Around) (outer : List Env) (s : Shared) (H : Hp) (args : Args) (us : List Value) (vs : List V) (Q : VK) (E : XK), Room k A → Env0 P w K mg base A outer s H → BindsTo s fd args (ps.zip us) → Vals vs us → sp vs H Q E →
    codeAny (model P w) A (.call (.ref f) args) (CR CX outer P w H s Q E) s
section
variable {X : Cx} {pins : List (Addr × Obj)} {σ : St} {H : Hp} {s s' : Shared}
theorem Inv.env0 (I : Inv X pins σ H s) : Env0 X.prog X.w X.K X.mg X.base X.A X.stack s H :=
  ⟨I.ok.frames, I.ok.mod, I.bs, Nat.le_trans I.ok.bsz I.sz, I.stack, I.stkFree, I.hok, I.bare⟩
theorem Inv.after {Q : VK} {u : Value} (I : Inv X pins σ H s) (h : CE X.stack X.prog X.w H s Q u s') : EP X pins σ Q u s' := by
  obtain ⟨v, H', os, bare, un, hok, r, q⟩ := h
  obtain ⟨hh, g, d, t, os'⟩ := s'
  obtain rfl : os' = s.os := os
  exact ⟨v, H', I.call (h' := hh) (g' := g) (d' := d) (t' := t) (ch := []) un hok bare (fun b z => absurd z (by simp)), r, q⟩
end
noncomputable def tCall (sp : Sp) (dvs : List V) (E : XK) (t : TA) : TE := fun σ H Q => t σ H fun vs H1 => sp (vs ++ dvs) H1 Q E
noncomputable def Binds (K : PySem.W.Frag) (fd : FuncData) (ps : List Str) (ds : List Value) : Prop :=
  ∀ (s : Shared) (us : List Value), K.In s.heap → (us ++ ds).length = ps.length → BindsTo s fd ⟨us, []⟩ (ps.zip (us ++ ds))
theorem Binds.all {K : PySem.W.Frag} {fd : FuncData} {ps : List Str} (h : ∀ us : List Value, us.length = ps.length → bindArgs fd ⟨us, []⟩ = pure (ps.zip us)) : Binds K fd ps [] := fun s us _ hl => by
  rw [List.append_nil] at hl ⊢
  exact .of_eq (h us hl)
noncomputable def Passes (CX : CXT) (X : Cx) (E : XK) : Prop := ∀ (pins : List (Addr × Obj)) (σ : St) (H : Hp) (s : Shared) (e : Value) (s' : Shared), Inv X pins σ H s → CX X.stack H s E e s' → X.xe e s'
section
variable {X : Cx} {CX : CXT} {k : Nat} {f C : Addr} {fd : FuncData} {ps : List Str} {sp : Sp} {dvs : List V} {ds : List Value} {E : XK} {x m : Str} {p pos apos : Pos} {e o : Expr} {es : List Expr} {ta : TE} {t : TA}
theorem run_fn {pins : List (Addr × Obj)} {σ : St} {H : Hp} {s : Shared} {Q : VK} {us : List Value} {vs : List V} (F : FnOk X.prog X.w X.K X.mg X.base CX k f fd ps sp) (hr : Room k X.A) (hb : Binds X.K fd ps ds) (hd : Vals dvs ds) (hx : Passes CX X E)
    (I : Inv X pins σ H s) (r : Vals vs us) (h : sp (vs ++ dvs) H Q E) : wpAny (model X.prog X.w) X.A (call (.ref f) us) (EP X pins σ Q) X.xe s := by
  have r2 : Vals (vs ++ dvs) (us ++ ds) := r.append hd
  have hl : (us ++ ds).length = ps.length := by rw [← r2.length]; exact F.len _ _ _ _ h
  refine wpAny_call (codeAny_mono (F.run X.A X.stack s H ⟨us, []⟩ (us ++ ds) (vs ++ dvs) Q E hr I.env0 (hb s us I.kIn hl) r2 h) fun r s' hq => ?_)
  cases r with
  | error e => exact hx pins σ H s e s' I hq
  | ok fl =>
    cases fl with
    | ret u => exact I.after hq
    | next => exact False.elim hq
    | brk => exact False.elim hq
    | cont => exact False.elim hq
theorem pe_call (F : FnOk X.prog X.w X.K X.mg X.base CX k f fd ps sp) (hr : Room k X.A) (hg : Gl X x) (hm : X.mg x = some (.ref f)) (hk : PySem.W.keepIn X.K (.ref f) = true) (hb : Binds X.K fd ps ds) (hd : Vals dvs ds) (hx : Passes CX X E)
    (ha : PA X (e :: es) t) (hdb : (x == ("__debug__" : Str)) = false := by decide) (he : starEach (e :: es) X.env = (false, eval e X.env) :: starEach es X.env := by rfl) (hpl : (backTo pos (starEach es X.env)).any (·.1) = false := by rfl) :
    PE X (.Call (.Name x p) (e :: es) [] pos) (tCall sp dvs E t) := by
  intro pins s σ H Q I h
  refine wpAny_Call_Name_kw (ld_glob I hg hm ?_ hdb)
  refine PySem.W.callWith_K (h₀ := X.base) I.ok.mod.kin hk (thn (ha pos pins s σ H _ I h) fun us s1 ⟨vs, H1, I1, r, q⟩ => ⟨I1.kIn, ?_⟩) he hpl
  exact run_fn F hr hb hd hx I1 r q
end
section
variable {X : Cx} {CX : CXT} {k : Nat} {f C : Addr} {fd : FuncData} {ps ks : List Str} {sp : Sp} {E : XK} {x m : Str} {p pos apos kpos : Pos} {e o : Expr} {es : List Expr} {kws : List Keyword} {te ta : TE} {t tk : TA} {nm : Option Str}
variable {g : List Value → List Value → List Value} {gV : List V → List V → List V}
end
structure FnScope (N P : List Str) (sc : Scope) : Prop where
  kind : sc.kind = .function
  co : sc.isCoroutine = false
  gen : sc.isGenerator = false
  nd : N.Nodup
  pre : N.take P.length = P
  par : ∀ x ∈ P, sc.names.lookup x = some .local ∨ sc.names.lookup x = some .cell
  nofree : ∀ y ∈ sc.names, y.2 ≠ .free
theorem bindL_out {kindOf : Str → Option NameKind} {x : Str} : ∀ {binds : List (Str × Value)} {m : Str → Option Value}, (∀ v, (x, v) ∉ binds) → bindL kindOf binds m x = m x
  | [], _, _ => rfl
  | (n, v) :: r, m, h => by
    unfold bindL
    rw [bindL_out fun w hw => h w (List.mem_cons_of_mem _ hw)]
    split
    · have : x ≠ n := by rintro rfl; exact h v List.mem_cons_self
      simp [this]
    · rfl
theorem bindC_out {kindOf : Str → Option NameKind} {x : Str} : ∀ {binds : List (Str × Value)} {m : Str → Option Value}, (∀ v, (x, v) ∉ binds) → bindC kindOf binds m x = m x
  | [], _, _ => rfl
  | (n, v) :: r, m, h => by
    unfold bindC
    rw [bindC_out fun w hw => h w (List.mem_cons_of_mem _ hw)]
    split
    · rfl
    · have : x ≠ n := by rintro rfl; exact h v List.mem_cons_self
      simp [this]
theorem bindL_get {kindOf : Str → Option NameKind} {x : Str} {v : Value} : ∀ {P : List Str} {vs : List Value} {i : Nat} {m : Str → Option Value}, P.Nodup → P[i]? = some x → vs[i]? = some v → kindOf x = some .local →
    bindL kindOf (P.zip vs) m x = some v
  | [], _, _, _, _, h, _, _ => by simp at h
  | _ :: _, [], _, _, _, _, h, _ => by simp at h
  | p :: P, w :: vs, 0, m, nd, h1, h2, hk => by
    simp at h1 h2; subst h1; subst h2
    show bindL kindOf ((p, w) :: P.zip vs) m p = _
    unfold bindL
    rw [bindL_out fun v hv => (List.nodup_cons.mp nd).1 (List.of_mem_zip hv).1, if_pos hk]
    simp
  | p :: P, w :: vs, i + 1, m, nd, h1, h2, hk => by
    show bindL kindOf ((p, w) :: P.zip vs) m x = _
    unfold bindL
    exact bindL_get (i := i) (List.nodup_cons.mp nd).2 (by simpa using h1) (by simpa using h2) hk
theorem bindC_get {kindOf : Str → Option NameKind} {x : Str} {v : Value} : ∀ {P : List Str} {vs : List Value} {i : Nat} {m : Str → Option Value}, P.Nodup → P[i]? = some x → vs[i]? = some v → kindOf x ≠ some .local →
    bindC kindOf (P.zip vs) m x = some v
  | [], _, _, _, _, h, _, _ => by simp at h
  | _ :: _, [], _, _, _, _, h, _ => by simp at h
  | p :: P, w :: vs, 0, m, nd, h1, h2, hk => by
    simp at h1 h2; subst h1; subst h2
    show bindC kindOf ((p, w) :: P.zip vs) m p = _
    unfold bindC
    rw [bindC_out fun v hv => (List.nodup_cons.mp nd).1 (List.of_mem_zip hv).1, if_neg hk]
    simp
  | p :: P, w :: vs, i + 1, m, nd, h1, h2, hk => by
    show bindC kindOf ((p, w) :: P.zip vs) m x = _
    unfold bindC
    exact bindC_get (i := i) (List.nodup_cons.mp nd).2 (by simpa using h1) (by simpa using h2) hk
noncomputable def start (N : List Str) (vs : List V) : St := vs.map some ++ List.replicate (N.length - vs.length) none
noncomputable def cxOf (CX : CXT) (P : Program) (w : World) (K : PySem.W.Frag) (mg : Str → Option Value) (base : Heap) (N : List Str) (qual : Str) (scope : Scope) (f : Addr) (cd : Value) (A : Around) (outer : List Env) (s : Shared) (H : Hp) (E : XK) : Cx where
  prog := P
  w := w
  K := K
  mg := mg
  base := base
  A := A.deeper (envOfC qual scope s.heap.objs.size f cd)
  N := N
  s₀ := s
  H₀ := H
  env := envOfC qual scope s.heap.objs.size f cd
  outer := outer
  stack := envOfC qual scope s.heap.objs.size f cd :: outer
  ex := []
  calm := true
  fn := fun _ => true
  pn := []
  xe := fun e s' => wpAny (model P w) (A.deeper (envOfC qual scope s.heap.objs.size f cd)) (leaving (envOfC qual scope s.heap.objs.size f cd) e) (fun _ s'' => CX outer H s E e s'') (fun e' s'' => CX outer H s E e' s'') s'
theorem cell_has {sc : Scope} {n : Nat} {x : Str} (h : sc.names.lookup x = some .cell) : ∃ c, (cellsFrom n sc.names []).lookup x = some c := by
  have q := PySem.W.cellsFrom_some sc.names n [] (.inl h)
  exact Option.isSome_iff_exists.mp q
theorem inv_start {CX : CXT} {P : Program} {w : World} {K : PySem.W.Frag} {mg : Str → Option Value} {base : Heap} {N ps : List Str} {qual : Str} {scope : Scope} {f : Addr} {cd : Value} {A : Around} {outer : List Env} {s s1 : Shared} {H : Hp} {E : XK} {us : List Value} {vs : List V}
    (S : FnScope N ps scope) (hd : A.handled = none) (e0 : Env0 P w K mg base A outer s H) (hl : vs.length = ps.length) (r : Vals vs us)
    (x : InCallC s s.heap.objs.size (bindL (envOfC qual scope s.heap.objs.size f cd).kindOf (ps.zip us) fun _ => none) (cellsFrom (s.heap.objs.size + 1) scope.names []) (bindC (envOfC qual scope s.heap.objs.size f cd).kindOf (ps.zip us) fun _ => none) s1) :
    Inv (cxOf CX P w K mg base N qual scope f cd A outer s H E) [] (start N vs) H s1 := by
  have hpl : ps.length ≤ N.length := by have := congrArg List.length S.pre; rw [List.length_take] at this; ((try clear hd hl); omega)
  obtain ⟨h1, tk, rfl, hk⟩ := x.done
  have noA : ∀ b : Addr, b ∉ (cxOf CX P w K mg base N qual scope f cd A outer s H E).ex := fun b z => absurd (show b ∈ ([] : List Addr) from z) (by simp)
  refine ⟨⟨e0.mod, S.kind, rfl, rfl, Nat.le_refl _, fun y z c h1 h2 => ?_, fun y hy => ?_, fun y c _ h => ?_, fun _ => hd, Around.frames_deeper e0.frames, .inr ⟨rfl, rfl⟩, fun b z => absurd z (noA b), e0.bs, e0.bsz, fun b _ _ => noA b, fun b z => absurd z (noA b), e0.funs, e0.frf⟩,
    rfl, e0.bare, Un.kept hk, ⟨_, x.toInCall.ns, fun i y v h1 h2 h3 => ?_⟩, fun y c h => ⟨_, x.cell y c h⟩, e0.hok.fresh (Nat.le_refl _), fun y c h => ?_, fun p hp => absurd (show p ∈ ([] : List (Addr × Obj)) from hp) (by simp), e0.hok.kept hk, ?_⟩
  · exact name_of_addr x.apart (PySem.mem_of_lookup h1) (PySem.mem_of_lookup h2)
  · have hy : scope.names.lookup y = some .cell ∨ scope.names.lookup y = some .free := hy
    rcases hy with hy | hy
    · exact cell_has hy
    · exact absurd rfl (S.nofree _ (PySem.mem_of_lookup hy))
  · exact Nat.le_of_lt (x.above y c (PySem.mem_of_lookup h))
  · have hi : i < vs.length := by
      unfold start at h2
      by_cases hi : i < vs.length
      · exact hi
      · rw [List.getElem?_append_right (by simpa using hi)] at h2
        rw [List.getElem?_replicate] at h2
        split at h2 <;> cases h2
    have ha : vs[i]? = some v := by
      unfold start at h2
      rw [List.getElem?_append_left (by simpa using hi), List.getElem?_map] at h2
      cases e : vs[i]? with
      | none => rw [e] at h2; cases h2
      | some a => rw [e] at h2; cases h2; rfl
    obtain ⟨u, hu, rv⟩ := r.get ha
    have hp : ps[i]? = some y := by
      rw [← S.pre, List.getElem?_take_of_lt (by ((try clear h1 h2 ha hd hpl hu); omega))]; exact h1
    have ndP : ps.Nodup := by rw [← S.pre]; exact S.nd.sublist (List.take_sublist _ _)
    refine ⟨u, rv, ?_⟩
    rcases S.par y (List.mem_of_getElem? hp) with k | k
    · exact .inl ⟨k, bindL_get ndP hp hu k⟩
    · obtain ⟨c, e⟩ := cell_has (n := s.heap.objs.size + 1) k
      refine .inr ⟨.inl k, c, e, ?_⟩
      have q := x.cell y c e
      rw [bindC_get ndP hp hu (by show scope.names.lookup y ≠ _; rw [k]; decide)] at q
      exact q
  · exact e0.hok.fresh (Nat.le_of_lt (x.above y c (PySem.mem_of_lookup h)))
  · unfold start
    show _ = N.length
    rw [List.length_append, List.length_map, List.length_replicate]
    ((try clear hd); omega)
theorem fn_of {CX : CXT} {P : Program} {w : World} {K : PySem.W.Frag} {mg : Str → Option Value} {base : Heap} {k : Nat} {f : Addr} {name qual : Str} {params : Arguments} {body : List Stmt} {scope : Scope} {dV kV doc pm cdv ct oc : Value} {an od : Option Addr}
    {osl : Array (Option Value)} {N ps : List Str} {sp : Sp} (lk : K.lookup f = some ⟨oc, od, .func (PySem.W.fnOf name qual params body scope dV kV doc pm an cdv ct), osl⟩) (hcd : PySem.W.codeIn K cdv qual = true) (S : FnScope N ps scope)
    (len : ∀ vs H Q E, sp vs H Q E → vs.length = ps.length)
    (hbody : ∀ (A : Around) (outer : List Env) (s : Shared) (H : Hp) (vs : List V) (Q : VK) (E : XK), Room k (A.deeper (envOfC qual scope s.heap.objs.size f cdv)) → sp vs H Q E →
      ∃ t, PSs (cxOf CX P w K mg base N qual scope f cdv A outer s H E) body t ∧ t { nx := fun _ H' => Q .non H', rt := Q } (start N vs) H) :
    FnOk P w K mg base CX (k + 1) f (PySem.W.fnOf name qual params body scope dV kV doc pm an cdv ct) ps sp := by
  refine ⟨len, fun A outer s H args us vs Q E hr e0 hb r hsp => ?_⟩
  have hl := len _ _ _ _ hsp
  have KX : K.In s.heap := e0.mod.kin.keeps fun b o e => (e0.bs b o e).1
  have lim : s.heap.NoLimit := e0.mod.nolimit.keeps fun b o e => (e0.bs b o e).1
  have hkind : ∀ y ∈ ps.zip us, scope.names.lookup y.1 = some .local ∨ (scope.names.lookup y.1 = some .cell ∧ ((cellsFrom (s.heap.objs.size + 1) scope.names []).lookup y.1).isSome = true) := fun ⟨n, v⟩ hy => by
    rcases S.par n (List.of_mem_zip hy).1 with q | q
    · exact .inl q
    · exact .inr ⟨q, PySem.W.cellsFrom_some _ _ _ (.inl q)⟩
  refine codeAny_call_function hr.depth (KX _ _ lk) rfl S.co S.gen rfl (PySem.W.codeRec_of KX hcd) (hb _ _ _ _ ?_)
  refine wpAny_newFunctionEnv_cells S.kind hkind fun env he s1 x => ?_
  subst he
  refine ⟨lim.keeps x.toInCall.keep, codeAny_func ?_⟩
  obtain ⟨t, ht, hq⟩ := hbody A outer s H vs Q E (hr.deeper _) hsp
  have I : Inv (cxOf CX P w K mg base N qual scope f cdv A outer s H E) [] (start N vs) H s1 := inv_start S hr.hd e0 hl r x
  refine wpAny_mono (ht [] s1 (start N vs) H _ I hq) (fun fl s' hs => ?_) fun e s' hs => hs
  have fin : ∀ {σ' : St} {H' : Hp} {v : V} {u : Value}, Inv (cxOf CX P w K mg base N qual scope f cdv A outer s H E) [] σ' H' s' → RelV v u → Q v H' → CE outer P w H s Q u s' :=
    fun {σ' H' v u} J rv q => ⟨v, H', J.os, J.bare, J.base, J.hok, rv, q⟩
  cases fl with
  | ret u =>
    obtain ⟨v, σ', H', J, rv, q⟩ := hs
    exact fin J rv q
  | next =>
    obtain ⟨σ', H', J, q⟩ := hs
    exact fin (v := V.non) (u := Value.none) J rfl q
  | brk =>
    obtain ⟨_, _, _, q⟩ := hs
    exact False.elim q
  | cont =>
    obtain ⟨_, _, _, q⟩ := hs
    exact False.elim q
end L2
namespace L2
open PySem PySem.Spec PyProof.Rows
section
variable {X : Cx} {x : Str} {p pos : Pos} {e : Expr} {es : List Expr} {t : TA} {id T : String} {r : List V → Hp → VK → Prop}
noncomputable def tCB (r : List V → Hp → VK → Prop) (t : TA) : TE := fun σ H Q => t σ H fun vs H1 => r vs H1 Q
theorem pe_callB (hc : CallR X (.builtin id) r) (hg : Gl X x) (hm : X.mg x = none) (hv : bootBuiltins x = some (.builtin id)) (ha : PA X (e :: es) t) (hn : x ≠ "__name__" := by decide) (hdb : (x == ("__debug__" : Str)) = false := by decide)
    (he : starEach (e :: es) X.env = (false, eval e X.env) :: starEach es X.env := by rfl) (hpl : (backTo pos (starEach es X.env)).any (·.1) = false := by rfl) : PE X (.Call (.Name x p) (e :: es) [] pos) (tCB r t) := by
  intro pins s σ H Q I h
  refine wpAny_Call_Name_kw (ld_blt I hg hm hv ?_ hn hdb)
  exact PyProof.Rows.callWith_builtin1 (thn (ha pos pins s σ H _ I h) fun us s1 ⟨vs, H1, I1, r1, q1⟩ => hc pins s1 σ H1 vs us Q I1 r1 q1) he hpl
theorem pe_callTy (hc : CallR X (.type T) r) (hg : Gl X x) (hm : X.mg x = none) (hv : bootBuiltins x = some (.type T)) (ha : PA X (e :: es) t) (hn : x ≠ "__name__" := by decide) (hdb : (x == ("__debug__" : Str)) = false := by decide)
    (he : starEach (e :: es) X.env = (false, eval e X.env) :: starEach es X.env := by rfl) (hpl : (backTo pos (starEach es X.env)).any (·.1) = false := by rfl) : PE X (.Call (.Name x p) (e :: es) [] pos) (tCB r t) := by
  intro pins s σ H Q I h
  refine wpAny_Call_Name_kw (ld_blt I hg hm hv ?_ hn hdb)
  exact PyProof.Rows.callWith_type1 (thn (ha pos pins s σ H _ I h) fun us s1 ⟨vs, H1, I1, r1, q1⟩ => hc pins s1 σ H1 vs us Q I1 r1 q1) he hpl
end
end L2
namespace HT
open PySem PyProof.Rows
section
open PySem.SeqAt
open PySem.AutoSeq1 (wpAny_loadPart')
open PySem.MeetsSeq PySem.MeetsSeq2 PySem.MeetsSeq3
end
section
variable {prog : Program} {w : World} {A : Around} {E : Value → Shared → Prop} {s : Shared}
noncomputable def sIx (n d : Nat) : Option Int → Nat
  | none => d
  | some v => if v < 0 then (v + (n : Int)).toNat else min v.toNat n
theorem sIx_none (n d : Nat) : sIx n d none = d := rfl
theorem sIx_nat (n d k : Nat) : sIx n d (some (k : Int)) = min k n := by
  show (if (k : Int) < 0 then ((k : Int) + (n : Int)).toNat else min (k : Int).toNat n) = min k n
  rw [if_neg (by omega), Int.toNat_natCast]
end
end HT
namespace L2
open PySem PySem.Spec PyProof.Rows
noncomputable abbrev TO := St → Hp → (Option Int → Hp → Prop) → Prop
noncomputable def PO (X : Cx) (e : Option Expr) (t : TO) : Prop :=
  ∀ (pins : List (Addr × Obj)) (s : Shared) (σ : St) (H : Hp) (Q : Option Int → Hp → Prop), Inv X pins σ H s → t σ H Q →
    wpAny (model X.prog X.w) X.A (evalPart e X.env) (fun u s' => ∃ o H', Inv X pins σ H' s' ∧ IsPart u o ∧ Q o H') X.xe s
noncomputable def tNoPart : TO := fun _ H Q => Q none H
noncomputable def tPart (t : TE) : TO := fun σ H Q => t σ H fun x H1 => ∃ i, x = .int i ∧ Q (some i) H1
section
variable {X : Cx} {e : Expr} {te : TE} {lo hi : Option Expr} {tl th : TO} {pos p2 : Pos}
theorem po_none : PO X none tNoPart := by
  intro pins s σ H Q I h
  rw [evalPart_none]
  exact wpAny_pure ⟨none, H, I, .none, h⟩
theorem po_some (h : PE X e te) : PO X (some e) (tPart te) := by
  intro pins s σ H Q I hw
  rw [evalPart_some]
  refine thn (h pins s σ H _ I hw) fun u s1 ⟨x, H1, I1, r1, q1⟩ => ?_
  obtain ⟨i, rfl, q⟩ := q1
  obtain ⟨t, rfl⟩ := r1
  exact ⟨some i, H1, I1, .int i t, q⟩
noncomputable def SlR (X : Cx) (r : V → Option Int → Option Int → Hp → VK → Prop) : Prop :=
  ∀ (pins : List (Addr × Obj)) (s : Shared) (σ : St) (H : Hp) (x : V) (v vl vu : Value) (lo hi : Option Int) (sl : Addr) (Q : VK), Inv X pins σ H s → RelV x v → s.heap.IsSliceOf sl vl vu .none → IsPart vl lo → IsPart vu hi → r x lo hi H Q →
    ∃ T id, typeLookup (.type T) "__getitem__" = pure (some (.builtin id)) ∧ s.TypeIs v T ∧ wpAny (model X.prog X.w) X.A (getItem v (.ref sl)) (EP X pins σ Q) X.xe s
noncomputable def tSl (r : V → Option Int → Option Int → Hp → VK → Prop) (te : TE) (tl th : TO) : TE := fun σ H Q => te σ H fun x H1 => tl σ H1 fun l H2 => th σ H2 fun u H3 => r x l u H3 Q
theorem pe_slice {r : V → Option Int → Option Int → Hp → VK → Prop} (hr : SlR X r) (he : PE X e te) (hl : PO X lo tl) (hu : PO X hi th) : PE X (.Subscript e (.Slice lo hi none p2) pos) (tSl r te tl th) := by
  intro pins s σ H Q I h
  refine Subscript_ (thn (he pins s σ H _ I h) fun v s1 ⟨x, H1, I1, r1, q1⟩ => ?_)
  refine wpAny_Slice (thn (hl pins s1 σ H1 _ I1 q1) fun vl s2 ⟨l, H2, I2, pl, q2⟩ => thn (hu pins s2 σ H2 _ I2 q2) fun vu s3 ⟨u, H3, I3, pu, q3⟩ => ?_)
  rw [evalPart_none]
  refine wpAny_pure ?_
  have I4 : Inv X pins σ H3 { s3 with heap := s3.heap.push { cls := .type "slice", data := .fields #[vl, vu, .none] } } := I3.kept (t' := s3.toks) fun b ob q => Heap.get?_push_of_some _ q
  obtain ⟨T, id, hT, ht, hg⟩ := hr pins { s3 with heap := s3.heap.push { cls := .type "slice", data := .fields #[vl, vu, .none] } } σ H3 x v vl vu l u s3.heap.objs.size Q I4 r1 (Heap.IsSliceOf.new ..) pl pu q3
  show wpAny (model X.prog X.w) X.A (subscriptTail e (.Slice lo hi none p2) v (.ref s3.heap.objs.size)) (EP X pins σ Q) X.xe { s3 with heap := s3.heap.push { cls := .type "slice", data := .fields #[vl, vu, .none] } }
  exact tail_any (ops := [.ref s3.heap.objs.size, v]) ht hT hg (by with_unfolding_all rfl)
noncomputable def cutV (xs : List V) (lo hi : Option Int) : List V := (xs.drop (HT.sIx xs.length 0 lo)).take (HT.sIx xs.length xs.length hi - HT.sIx xs.length 0 lo)
theorem cutV_length (xs : List V) (lo hi : Option Int) : (cutV xs lo hi).length ≤ xs.length := by
  unfold cutV
  rw [List.length_take, List.length_drop]
  omega
end
end L2
namespace L2
open PySem PySem.Spec PyProof.Rows
noncomputable def ixN (n : Nat) (i : Int) : Option Nat := if 0 ≤ i then (if i < n then some i.toNat else none) else if -(n : Int) ≤ i then some (i + n).toNat else none
noncomputable def atI {α : Type} (xs : List α) (i : Int) : Option α := (ixN xs.length i).bind fun j => xs[j]?
theorem ixN_seq {n : Nat} {i : Int} {j : Nat} (h : ixN n i = some j) : seqIndex? i n = some j ∧ j < n ∧ -(n : Int) ≤ i ∧ i < n := by
  unfold ixN at h
  by_cases h0 : 0 ≤ i
  · rw [if_pos h0] at h
    by_cases h1 : i < n
    · rw [if_pos h1] at h
      have e : i.toNat = j := Option.some.inj h
      exact ⟨by rw [seqIndex_of h0 h1, e], by ((try clear h); omega), by ((try clear e h h1); omega), h1⟩
    · rw [if_neg h1] at h; cases h
  · rw [if_neg h0] at h
    by_cases h1 : -(n : Int) ≤ i
    · rw [if_pos h1] at h
      have e : (i + n).toNat = j := Option.some.inj h
      exact ⟨by rw [seqIndex_neg (by ((try clear e h h1); omega)) h1, e], by ((try clear h); omega), h1, by ((try clear e h); omega)⟩
    · rw [if_neg h1] at h; cases h
theorem atI_get {α : Type} {xs : List α} {i : Int} {v : α} (h : atI xs i = some v) : ∃ j, seqIndex? i xs.length = some j ∧ xs[j]? = some v ∧ j < xs.length ∧ -(xs.length : Int) ≤ i ∧ i < xs.length := by
  unfold atI at h
  cases e : ixN xs.length i with
  | none => rw [e] at h; cases h
  | some j =>
    rw [e] at h
    obtain ⟨h1, h2, h3, h4⟩ := ixN_seq e
    exact ⟨j, h1, h, h2, h3, h4⟩
theorem atI_nat {α : Type} {xs : List α} {j : Nat} {v : α} (h : xs[j]? = some v) : atI xs (j : Int) = some v := by
  have hj : j < xs.length := (List.getElem?_eq_some_iff.mp h).1
  have e : ixN xs.length (j : Int) = some j := by
    unfold ixN
    rw [if_pos (by ((try clear h hj); omega)), if_pos (by ((try clear h); omega))]; simp
  unfold atI; rw [e]; exact h
noncomputable def PlainIx (b : Expr) : Prop := ∀ o i, subscripted b false o i = operate [o, i] (getItem o i)
noncomputable def IxR (X : Cx) (r : R2) : Prop :=
  ∀ (value slice : Expr) (pins : List (Addr × Obj)) (s : Shared) (σ : St) (H : Hp) (x y : V) (v u : Value) (Q : VK), Inv X pins σ H s → RelV x v → RelV y u → r x y H Q →
    subscripted slice false v u = operate [v, u] (getItem v u) → wpAny (model X.prog X.w) X.A (subscriptTail value slice v u) (EP X pins σ Q) X.xe s
section
variable {X : Cx} {a b : Expr} {ta tb : TE} {pos : Pos}
theorem pe_ix {r : R2} (hr : IxR X r) (ha : PE X a ta) (hb : PE X b tb) (hs : PlainIx b) : PE X (.Subscript a b pos) (tOp r ta tb) := by
  intro pins s σ H Q I h
  exact Subscript_ (binT ha hb I h fun v u s2 x y H2 I2 rx ry q => hr a b pins s2 σ H2 x y v u Q I2 rx ry q (hs _ _))
noncomputable def rIxL (K : PySem.W.Frag) : R2 := fun x y H Q => ∃ p xs i v, x = .ref p ∧ y = .int i ∧ SqL K H p xs ∧ atI xs i = some v ∧ Q v H
noncomputable def rIxT (K : PySem.W.Frag) : R2 := fun x y H Q => ∃ p xs i v, x = .ref p ∧ y = .int i ∧ SqT K H p xs ∧ atI xs i = some v ∧ Q v H
theorem ix_list : IxR X (rIxL X.K) := by
  intro value slice pins s σ H x y v u Q I rx ry h hs
  obtain ⟨p, xs, i, z, rfl, rfl, hq, he, q⟩ := h
  cases rx
  obtain ⟨t, rfl⟩ := ry
  obtain ⟨its, r, pl, hz⟩ := I.list hq
  obtain ⟨j, h1, h2, h3, h4, h5⟩ := atI_get he
  obtain ⟨w, ew, rw'⟩ := r.get h2
  have hl := r.length
  have hn := line63
  have fin : EP X pins σ Q w s := ⟨z, H, I, rw', q⟩
  by_cases h0 : 0 ≤ i
  · have hj : i.toNat = j := by
      rw [seqIndex_of h0 h5] at h1
      exact Option.some.inj h1
    exact item_listR pl.isList h0 (by ((try clear ew h0 h1 h2 h3 h4 he hj hs); omega)) (by rw [hj]; simpa using ew) fin hs
  · have hj : (i + (its.toArray.size : Int)).toNat = j := by
      rw [seqIndex_neg (by ((try clear ew h1 h2 h3 h4 h5 he hl hn hs hz); omega)) h4] at h1
      rw [List.size_toArray, ← hl]
      exact Option.some.inj h1
    exact subscriptTail_builtinR (x := w) pl.isList.typeIs slot_list_getitem.lookup
      (wpAny_getItem_list_neg (Q := fun r s' => r = w ∧ EP X pins σ Q r s') pl.isList (by ((try clear ew h1 h2 h3 h4 h5 he hj hl hn hs hz); omega)) (by rw [List.size_toArray] <;> ((try clear ew h0 h1 h2 h3 h5 he hj hn hs hz); omega)) (by ((try clear ew h0 h1 h2 h3 h5 he hj hs); omega)) (by rw [hj]; simpa using ew) ⟨rfl, fin⟩) hs
theorem ix_tup : IxR X (rIxT X.K) := by
  intro value slice pins s σ H x y v u Q I rx ry h hs
  obtain ⟨p, xs, i, z, rfl, rfl, hq, he, q⟩ := h
  cases rx
  obtain ⟨t, rfl⟩ := ry
  obtain ⟨its, r, pl, hz⟩ := I.tuple hq
  obtain ⟨j, h1, h2, h3, h4, h5⟩ := atI_get he
  obtain ⟨w, ew, rw'⟩ := r.get h2
  have hl := r.length
  have hn := line63
  have fin : EP X pins σ Q w s := ⟨z, H, I, rw', q⟩
  exact subscriptTail_builtinR (x := w) pl.typeIs slot_tuple_getitem.lookup
    (getItem_tuple (j := j) (Q := fun r s' => r = w ∧ EP X pins σ Q r s') pl (by ((try clear ew h1 h2 h5 he hs); omega)) (by ((try clear ew h1 h2 h4 he hs); omega)) (by rw [List.size_toArray, ← hl]; exact h1) (by simpa using ew) ⟨rfl, fin⟩) hs
theorem mapSeq_set (its : List Value) (n j : Nat) (u : Value) : Obj.mapSeq (·.setIfInBounds j u) { cls := .type "list", data := .seq its.toArray n } = { cls := .type "list", data := .seq (its.set j u).toArray n } := by
  simp [Obj.mapSeq]
theorem Inv.lst {pins : List (Addr × Obj)} {σ : St} {H : Hp} {s : Shared} {p : Addr} {xs : List V} (I : Inv X pins σ H s) (h : H p = some (.lst xs)) :
    ∃ (its : List Value) (n : Nat), Vals xs its ∧ s.heap.get? p = some { cls := .type "list", data := .seq its.toArray n } ∧ xs.length ≤ sizeLine := by
  obtain ⟨z, its, n, r, e⟩ := I.hok p _ h
  exact ⟨its, n, r, e, z⟩
theorem Inv.lstUpd {pins : List (Addr × Obj)} {σ : St} {H : Hp} {s : Shared} {p : Addr} {xs ys : List V} {its its' : List Value} {n n' : Nat} {f : Obj → Obj} (I : Inv X pins σ H s) (h : H p = some (.lst xs))
    (ho : s.heap.get? p = some { cls := .type "list", data := .seq its.toArray n }) (hf : f { cls := .type "list", data := .seq its.toArray n } = { cls := .type "list", data := .seq its'.toArray n' }) (r : Vals ys its') (hz : ys.length ≤ sizeLine) (t : Nat) :
    Inv X pins σ (upd H p (.lst ys)) { s with heap := s.heap.update p f, toks := t } := by
  have e : (s.heap.update p f).get? p = some { cls := .type "list", data := .seq its'.toArray n' } := by
    rw [Heap.get?_update_self f ho (by rw [hf] <;> rfl), hf]
  refine I.write (x := p) (e := p) (by rw [h]; trivial) (.inl rfl) (fun b u hb q => (Heap.get?_update_other _ _ (Ne.symm hb)).trans q) ⟨_, e⟩ ?_
  exact ⟨hz, its', n', r, e⟩
noncomputable def rSetL : V → V → V → Hp → (Hp → Prop) → Prop := fun o i v H Q => ∃ p xs k j, o = .ref p ∧ i = .int k ∧ H p = some (.lst xs) ∧ ixN xs.length k = some j ∧ Q (upd H p (.lst (xs.set j v)))
theorem set_list : PSet X rSetL := by
  intro pins s σ H o i v ov iv u Q I ro ri rv h
  obtain ⟨p, xs, k, j, rfl, rfl, hp, hj, q⟩ := h
  cases ro
  obtain ⟨t, rfl⟩ := ri
  obtain ⟨its, n, r, ho, hz⟩ := I.lst hp
  obtain ⟨h1, h2, h3, h4⟩ := ixN_seq hj
  have hl := r.length
  have hn := line63
  have I' : Inv X pins σ (upd H p (.lst (xs.set j v))) { s with heap := s.heap.update p (Obj.mapSeq (·.setIfInBounds j u)) } :=
    I.lstUpd hp ho (mapSeq_set its n j u) (r.set rv j) (by rw [List.length_set]; exact hz) s.toks
  by_cases h0 : 0 ≤ k
  · have hk : k.toNat = j := by
      rw [seqIndex_of h0 h4] at h1
      exact Option.some.inj h1
    exact PySem.W.ki_setAt ho h0 (by ((try clear h0 h1 h2 h3 hj hk ho hp); omega)) (by rw [List.size_toArray, ← hl]; exact h4) (by rw [hk]; exact ⟨_, I', q⟩)
  · have hk : (k + (its.toArray.size : Int)).toNat = j := by
      rw [seqIndex_neg (by ((try clear h1 h2 h3 h4 hj hl hn ho hp hz); omega)) h3] at h1
      rw [List.size_toArray, ← hl]
      exact Option.some.inj h1
    exact PySem.W.ki_setBack ho (by ((try clear h1 h2 h3 h4 hj hk hl hn ho hp hz); omega)) (by rw [List.size_toArray, ← hl]; exact h3) (by ((try clear h0 h1 h2 h4 hj hk ho hp); omega)) (by rw [hk]; exact ⟨_, I', q⟩)
theorem slice_bounds (lo hi : Option Int) (n : Nat) : (sliceBounds lo hi none n).1 = ((HT.sIx n 0 lo : Nat) : Int) ∧ (sliceBounds lo hi none n).2.1 = ((HT.sIx n n hi : Nat) : Int) ∧ (sliceBounds lo hi none n).2.2 = 1 := by
  refine ⟨?_, ?_, rfl⟩
  · cases lo with
    | none => simp [sliceBounds, HT.sIx]
    | some i =>
      simp only [sliceBounds, HT.sIx, Option.getD_none, show (1 : Int) > 0 by decide, if_true]
      by_cases h : i < 0
      · simp only [h, if_true] <;> omega
      · simp only [h, if_false] <;> omega
  · cases hi with
    | none => simp [sliceBounds, HT.sIx]
    | some i =>
      simp only [sliceBounds, HT.sIx, Option.getD_none, show (1 : Int) > 0 by decide, if_true]
      by_cases h : i < 0
      · simp only [h, if_true] <;> omega
      · simp only [h, if_false] <;> omega
theorem slicePick_cut (its : List Value) (lo hi : Option Int) : slicePick its.toArray lo hi none = ((its.drop (HT.sIx its.length 0 lo)).take (HT.sIx its.length its.length hi - HT.sIx its.length 0 lo)).toArray := by
  obtain ⟨h1, h2, h3⟩ := slice_bounds lo hi its.toArray.size
  unfold slicePick
  rw [h1, h2, h3]
  simp only [sliceRange_one, pick_run, List.size_toArray] <;> rfl
noncomputable def rSlL (K : PySem.W.Frag) : V → Option Int → Option Int → Hp → VK → Prop := fun x lo hi H Q => ∃ a xs, x = .ref a ∧ SqL K H a xs ∧ ∀ p, H p = none → Q (.ref p) (upd H p (.lst (cutV xs lo hi)))
theorem sl_list : SlR X (rSlL X.K) := by
  intro pins s σ H x v vl vu lo hi sl Q I rx hs pl pu h
  obtain ⟨a, xs, rfl, hx, q⟩ := h
  cases rx
  obtain ⟨its, r, ht, hz⟩ := I.list hx
  have hlen := r.length
  refine ⟨"list", _, slot_list_getitem.lookup, ht.isList.typeIs, ?_⟩
  refine wpAny_getItem_list_slice ht.isList hs pl pu .none (by simp) ?_ (by rw [List.size_toArray] <;> omega)
  rw [slicePick_cut, ← hlen]
  refine ⟨.ref s.heap.objs.size, _, I.laid (t' := s.toks) (o := .lst (cutV xs lo hi)) (fun b ob q => Heap.get?_push_of_some _ q) (Nat.le_refl _) ?_, rfl, q _ (I.hok.fresh (Nat.le_refl _))⟩
  exact ⟨Nat.le_trans (cutV_length xs lo hi) hz, _, 0, (r.drop (HT.sIx xs.length 0 lo)).take (HT.sIx xs.length xs.length hi - HT.sIx xs.length 0 lo), Heap.get?_push_size _ rfl⟩
theorem call_len_seq : CallR X (.builtin "len") (fun xs H Q => ∃ p ys, xs = [.ref p] ∧ (SqL X.K H p ys ∨ SqT X.K H p ys) ∧ Q (.int ys.length) H) := by
  intro pins s σ H xs us Q I r h
  obtain ⟨p, ys, rfl, hq, q⟩ := h
  obtain ⟨u, rfl, rx⟩ := vals1 r
  cases rx
  have hn := line63
  rcases hq with hq | hq
  · obtain ⟨its, r', pl, hz⟩ := I.list hq
    have hlen := r'.length
    exact Calls.call_len_list pl.isList (by simp only [List.size_toArray] <;> omega) ⟨.int ys.length, H, I.tok _, ⟨s.toks + 1, by rw [List.size_toArray, hlen]⟩, q⟩
  · obtain ⟨its, r', pl, hz⟩ := I.tuple hq
    have hlen := r'.length
    exact len_tuple pl (by simp only [List.size_toArray] <;> omega) ⟨.int ys.length, H, I.tok _, ⟨s.toks + 1, by rw [List.size_toArray, hlen]⟩, q⟩
theorem call_list_of : CallR X (.type "list") (fun xs H Q => ∃ p ys, xs = [.ref p] ∧ (SqL X.K H p ys ∨ SqT X.K H p ys) ∧ ∀ l, H l = none → Q (.ref l) (upd H l (.lst ys))) := by
  intro pins s σ H xs us Q I r h
  obtain ⟨p, ys, rfl, hq, q⟩ := h
  obtain ⟨u, rfl, rx⟩ := vals1 r
  cases rx
  have fin : ∀ (its : List Value), Vals ys its → ys.length ≤ sizeLine → ∀ (h' : Heap) (c' : Nat), (∀ b o', s.heap.get? b = some o' → h'.get? b = some o') →
      h'.get? s.heap.objs.size = some { cls := .type "list", dict := none, data := .seq its.toArray c', slots := #[] } → EP X pins σ Q (.ref s.heap.objs.size) { s with heap := h' } := fun its r' hz h' c' kp e =>
    ⟨.ref s.heap.objs.size, _, I.laid (t' := s.toks) kp (Nat.le_refl _) (show ObjOk X.prog X.w _ h' _ (.lst ys) from ⟨hz, its, c', r', e⟩), rfl, q _ (I.hok.fresh (Nat.le_refl _))⟩
  rcases hq with hq | hq
  · obtain ⟨its, r', pl, hz⟩ := I.list hq
    have hlen := r'.length
    obtain ⟨o, ho, hc, n, hd⟩ := pl.isList
    exact call_list_seq p (.inl rfl) ho hc hd (fun h' c' kp e => fin its r' hz h' c' kp e) (by simp only [List.size_toArray] <;> ((try clear hc hd ho); omega))
  · obtain ⟨its, r', pl, hz⟩ := I.tuple hq
    have hlen := r'.length
    obtain ⟨o, ho, hc, n, hd⟩ := pl
    exact call_list_seq p (.inr rfl) ho hc hd (fun h' c' kp e => fin its r' hz h' c' kp e) (by simp only [List.size_toArray] <;> ((try clear hc hd ho); omega))
noncomputable def tyV (K : PySem.W.Frag) (T : String) (x : V) (H : Hp) : Prop := match x with
  | .str _ => T = "str"
  | .int _ => T = "int"
  | .ref p => (T = "list" ∧ ∃ xs, SqL K H p xs) ∨ (T = "tuple" ∧ ∃ o, K.lookup p = some o ∧ o.cls = .type "tuple" ∧ o.dict = none) ∨
      (T = "dict" ∧ ((∃ kvs, H p = some (.dK kvs)) ∨ ∃ kvs, H p = some (.dT kvs))) ∨ (T = "set" ∧ ∃ S n, H p = some (.set S n))
  | _ => False
variable {o e : Expr} {es : List Expr} {to : TE} {t : TA} {name : Str} {apos cpos : Pos} {T id : String} {r : V → List V → Hp → VK → Prop}
/- xs.append(e), list.index on a module's tuple .. are MtR facts of 06m -/
end
end L2
namespace L2
open PySem PySem.Spec PyProof.Rows
theorem Vals.rep {xs : List V} {us : List Value} (h : Vals xs us) : ∀ k : Nat, Vals (List.replicate k xs).flatten (List.replicate k us).flatten
  | 0 => .nil
  | k + 1 => by
    rw [List.replicate_succ, List.replicate_succ, List.flatten_cons, List.flatten_cons]
    exact Vals.append h (Vals.rep h k)
theorem foldl_rep (its : List Value) : ∀ (k : Nat) (acc : List Value),
    List.foldl (fun x1 x2 => x1 ++ x2) acc.toArray (List.replicate k its.toArray) = (acc ++ (List.replicate k its).flatten).toArray
  | 0, acc => by simp
  | k + 1, acc => by
    have e : acc.toArray ++ its.toArray = (acc ++ its).toArray := by simp
    have e2 : (acc ++ its) ++ (List.replicate k its).flatten = acc ++ (List.replicate (k + 1) its).flatten := by
      rw [List.replicate_succ, List.flatten_cons, List.append_assoc]
    rw [← e2, ← foldl_rep its k (acc ++ its), ← e, List.replicate_succ, List.foldl_cons]
section
variable {X : Cx} {pins : List (Addr × Obj)} {σ : St} {H : Hp} {s : Shared} {l b : Addr} {xs ys zs : List V}
theorem Inv.lnew {its : List Value} {t' : Nat} (I : Inv X pins σ H s) (hv : Vals ys its) (hz : ys.length ≤ sizeLine) :
    Inv X pins σ (upd H s.heap.objs.size (.lst ys)) { s with heap := s.heap.push { cls := .type "list", data := .seq its.toArray }, toks := t' } :=
  I.laid (fun _ _ q => Heap.get?_push_of_some _ q) (Nat.le_refl _) ⟨hz, its, 0, hv, Heap.get?_push_size _ rfl⟩
theorem Inv.fresh (I : Inv X pins σ H s) : H s.heap.objs.size = none := I.hok.fresh (Nat.le_refl _)
theorem Inv.lstM (I : Inv X pins σ H s) (hH : H l = some (.lst xs)) : xs.length ≤ sizeLine ∧ ∃ (its : List Value) (n : Nat), Vals xs its ∧ xs.length = its.length ∧ s.heap.get? l = some { cls := .type "list", data := .seq its.toArray n } := by
  obtain ⟨z, its, n, r, e⟩ := I.hok l _ hH
  exact ⟨z, its, n, r, r.length, e⟩
theorem notLongL {n : Nat} (h : n ≤ sizeLine) : Builtin.List.listTooLong n = false := by
  unfold Builtin.List.listTooLong
  exact decide_eq_false (by omega)
end
section
variable {X : Cx}
noncomputable def rCat : R2 := fun x y H Q => ∃ l b xs zs, x = .ref l ∧ y = .ref b ∧ H l = some (.lst xs) ∧ H b = some (.lst zs) ∧ xs.length + zs.length ≤ sizeLine ∧ ∀ p, H p = none → Q (.ref p) (upd H p (.lst (xs ++ zs)))
theorem op_cat : OpR X (binaryOp .Add) rCat := by
  intro pins s σ H x y v u Q I rx ry h
  obtain ⟨l, b, xs, zs, rfl, rfl, hH, hB, hz, q⟩ := h
  cases rx
  cases ry
  obtain ⟨z, its, n, r, hl, e⟩ := I.lstM hH
  obtain ⟨z2, its2, n2, r2, hl2, e2⟩ := I.lstM hB
  refine PySem.P.add_list e e2 ?_ (by rw [List.size_toArray, List.size_toArray]; ((try clear e e2 hB hH z z2); omega))
  have ea : its.toArray ++ its2.toArray = (its ++ its2).toArray := by simp
  rw [ea]
  exact ⟨.ref _, _, I.lnew (t' := s.toks) (r.append r2) (by rw [List.length_append]; ((try clear e e2 ea hB hH hl hl2 z z2); omega)), rfl, q _ I.fresh⟩
noncomputable def rRep : R2 := fun x y H Q => ∃ l k xs, x = .ref l ∧ y = .int k ∧ H l = some (.lst xs) ∧ -(2 ^ 63) ≤ k ∧ k < 2 ^ 63 ∧ xs.length * k.toNat ≤ sizeLine ∧
  ∀ p, H p = none → Q (.ref p) (upd H p (.lst (List.replicate k.toNat xs).flatten))
theorem len_rep {α : Type} (xs : List α) (k : Nat) : (List.replicate k xs).flatten.length = k * xs.length := by
  induction k with
  | zero => simp
  | succ k ih => rw [List.replicate_succ, List.flatten_cons, List.length_append, ih, Nat.succ_mul, Nat.add_comm]
theorem op_rep : OpR X (binaryOp .Mult) rRep := by
  intro pins s σ H x y v u Q I rx ry h
  obtain ⟨l, k, xs, rfl, rfl, hH, h1, h2, hz, q⟩ := h
  cases rx
  obtain ⟨t, rfl⟩ := ry
  obtain ⟨z, its, n, r, hl, e⟩ := I.lstM hH
  have hlen : its.toArray.size * k.toNat ≤ sizeLine := by rw [List.size_toArray, ← hl]; exact hz
  have hcap : ¬ its.toArray.size * k.toNat > (2 ^ 63 - 1) / 8 := by
    have : (sizeLine : Nat) ≤ (2 ^ 63 - 1) / 8 := by decide
    ((try clear e h1 h2 hH hl hz z); omega)
  have hfit : ¬ (!Builtin.List.listFitsIndex k) = true := by
    rw [fitsIndex_both h1 h2]
    exact Bool.false_ne_true
  have hlong : ¬ Builtin.List.listTooLong (its.toArray.size * k.toNat) = true := by
    rw [notLongL hlen]
    exact Bool.false_ne_true
  have hnew : List.foldl (fun x1 x2 => x1 ++ x2) #[] (List.replicate (if its.toArray.isEmpty = true then 0 else k.toNat) its.toArray) = (List.replicate k.toNat its).flatten.toArray := by
    have f0 : ∀ m : Nat, List.foldl (fun x1 x2 => x1 ++ x2) #[] (List.replicate m its.toArray) = (List.replicate m its).flatten.toArray := fun m => by
      have := foldl_rep its m []
      rw [List.nil_append] at this
      exact this
    rw [f0]
    cases its with
    | nil => simp
    | cons a r' => rw [if_neg (by simp)]
  refine wpAny_binaryOp_repeat_ref (T := "list") (U := "int") (by decide) ⟨_, e, rfl⟩ (fun s' => typeIs_int s' k t) noFill_list_mul F.fills_int_mul F.slot_int_rmul repeat_list F.slot_int_index.lookup
    (call_meets F.slot_int_rmul (typeIs_int s k t) F.entry_int_rmul (F.args_int_rmul_2 _ _) (int___rmul___int_list k t l its.toArray n)
      ⟨e, rfl, ⟨_, e, rfl⟩, call_meets F.slot_list_mul ⟨_, e, rfl⟩ F.entry_list_mul (F.args_list_mul_2 _ _) (AutoListH.list___mul___list_int_3 l its.toArray n k t hfit hcap hlong) ⟨e, ?_⟩⟩)
  rw [hnew]
  exact ⟨.ref _, _, I.lnew (t' := s.toks) (r.rep k.toNat) (by rw [len_rep, Nat.mul_comm]; exact hz), rfl, q _ I.fresh⟩
end
section
variable {prog : Program} {w : World} {A : Around} {E : Value → Shared → Prop} {s : Shared}
set_option maxRecDepth 100000 in
end
section
variable {X : Cx}
end
end L2
namespace Att
open PySem PySem.W PySem.Calls PyProof.Rows
theorem ints_of_wellAll {P : Params} {h : Heap} : ∀ (ns : List Int) (vs : List Value), WellAll P h vs (ns.map WData.int) → IntsAre vs ns := by
  intro ns
  induction ns with
  | nil =>
    intro vs w
    rw [List.map_nil] at w
    cases w
    exact .nil
  | cons n ns ih =>
    intro vs w
    rw [List.map_cons] at w
    cases w with
    | cons a b =>
      cases a
      exact .cons _ _ (ih _ b)
theorem script_of {l : OpenLaw} {n : Nat} (hn : l.most = some n) {P : Params} {h : Heap} {args : List WData} {vals : List Value}
    (hpre : l.row.toRowW.claim.pre args = true) (hwl : WellAll P h vals args) :
    ∃ a vs ns, vals = [Value.ref a] ∧ args = [WData.list (ns.map WData.int)] ∧ h.get? a = some { cls := .type "list", data := .seq vs.toArray } ∧ IntsAre vs ns ∧ ns.length ≤ n := by
  have hsh : WShape.hasAll [] args [.list .int] = true := (pre_splitW hpre).1
  have hc : l.pre.holds [] { args := args } = true := (pre_splitW hpre).2
  obtain ⟨d, r, rfl, h1, h2⟩ := hasAllW_cons hsh
  obtain rfl := hasAllW_nil h2
  obtain ⟨xs, rfl, h3⟩ := hasW_list h1
  obtain ⟨ns, rfl⟩ := items_int h3
  have hlen : ns.length ≤ n := by
    unfold OpenLaw.pre at hc
    have h4 : (WTm.not (.lt (.lit (.int (n : Int))) (.len (.arg 0)))).holds [] { args := [.list (ns.map .int)] } = true := by
      have h4 := (holds_andW hc).1
      rw [hn] at h4
      exact h4
    have h5 := condW_of h4 (w_not (w_lt w_lit (w_len_list (w_arg rfl))))
    rw [List.length_map] at h5
    refine Nat.le_of_not_lt fun q => ?_
    have q' : (n : Int) < ((ns.length : Nat) : Int) := by ((try clear h1 h2 h3 h4 h5 hc hn hpre hsh); omega)
    first
      | (rw [decide_eq_true q'] at h5; exact absurd h5 (by decide))
      | (simp at h5; omega)
  cases hwl with
  | cons w1 w2 =>
    cases w2
    cases w1 with
    | list ho hall => exact ⟨_, _, ns, rfl, rfl, ho, ints_of_wellAll ns _ hall, hlen⟩
theorem post_true (l : OpenLaw) (args : List WData) : l.row.toRowW.claim.post args (.bool true) args = true :=
  postW_of (r := l.row.toRowW) (X := (true == true))
    (show WShape.has [] (.bool true) .bool = true by first | rfl | decide | simp [WShape.has, WShape.arms, WShape.armsAll])
    (show (WTm.eq .res (.lit (.bool true))).value [] { args := args, res := some (.bool true), after := args } = some (.bool (true == true)) from w_eq_bool (w_res rfl) w_lit) rfl
theorem attach_call {l : OpenLaw} {n : Nat} {q : Program} {loose : List Str} {XP : (Str → Option Value) → Heap → Prop} {YP : World → Heap → Prop} {d : DefRec}
    (hn : l.most = some n) (hdf : d.params.defaults = [])
    (call : ∀ (w : World) (s₀ s₁ : Shared) (mg mb : Str → Option Value) (fa : Addr) (o : Obj) (pm cd doc : Value) (a : Addr) (vs : List Value) (ns : List Int),
      Ground q loose [] XP w s₀ mg mb s₁.heap → YP w s₁.heap →
      s₁.heap.get? fa = some o → o.data = .func (docDef d.name d.params d.body d.scope pm cd doc) → s₁.heap.CodeRec cd d.name → mg d.name = some (.ref fa) →
      s₁.heap.get? a = some { cls := .type "list", data := .seq vs.toArray } → IntsAre vs ns → ns.length ≤ n → s₁.gens = #[] →
      codeAny (model l.prog w) callerA (.call (.ref fa) ⟨[.ref a], []⟩) (fun r s' => r = .ok (.ret (.bool true)) ∧ OldK s₁.heap s'.heap ∧ s'.os = s₁.os ∧ AllBare s'.gens) s₁) :
    WalkO q loose XP YP l.row.toRowW d [] (fun f vs => PySem.call f vs) := by
  intro w s₀ s₁ mg mb G Y fa o pm cd doc dV kV ho hd hcd hD hmg hg args vals as hpre hlay hrd hwl hlo
  obtain rfl : dV = .none := Dflts.none hD hdf
  obtain rfl : kV = .none := Dflts.noKw hD
  obtain ⟨a, vs, ns, rfl, rfl, hobj, hints, hlen⟩ := script_of hn hpre hwl
  refine enter_call (codeAny_mono (call w s₀ s₁ mg mb fa o pm cd doc a vs ns G Y ho (fd_plain hd) hcd hmg hobj hints hlen hg) fun r s' hq => ?_)
  obtain ⟨rfl, h2, h3, h4⟩ := hq
  exact ⟨.inl ⟨.bool true, .bool true, [], rfl, fun _ => rfl, .bool true, post_true l _, fun _ => ⟨List.Pairwise.nil, fun _ hm => (nomatch hm)⟩⟩, h2, h3, h4⟩
section
variable {prog : Program} {w : World} {A : Around} {E : Value → Shared → Prop} {s : Shared} {K : Frag}
end
end Att
namespace L2
open PySem PySem.Spec PyProof.Rows
theorem vals_ints : ∀ {vs : List Value} {ns : List Int}, IntsAre vs ns → Vals (ns.map V.int) vs
  | _, _, .nil => .nil
  | _, _, .cons n t h => .cons ⟨t, rfl⟩ (vals_ints h)
noncomputable def Only (H : Hp) : Prop := ∀ b, H b = none ∨ ∃ o xs, H b = some (.frz o (.lst xs))
theorem law_call {P : Program} {w : World} {K : PySem.W.Frag} {mg mb : Str → Option Value} {CX : CXT} {k : Nat} {fa a : Addr} {fd : FuncData} {x : Str} {sp : Sp} {s₁ : Shared} {vs : List Value} {ns : List Int}
    (KX : K.In s₁.heap) (hns : s₁.heap.Ns mainGlobals mg) (hb : s₁.heap.Ns builtinsNs mb) (hbb : ∀ x : Str, x ≠ "__name__" → mb x = bootBuiltins x) (hlim : s₁.heap.NoLimit) (hg : s₁.gens = #[])
    (ha : s₁.heap.get? a = some { cls := .type "list", data := .seq vs.toArray }) (hi : IntsAre vs ns) (hl : ns.length ≤ sizeLine) (hr : Room k callerA)
    (F : ∀ base : Heap, K.In base → base.Ns mainGlobals mg → FnOk P w K mg base CX k fa fd [x] sp) (hbind : ∀ (s : Shared) (u : Value), BindsTo s fd ⟨[u], []⟩ [(x, u)])
    (hsp : ∀ H : Hp, Only H → SqL K H a (ns.map V.int) → sp [.ref a] H (fun v _ => v = .bl true) fun _ _ _ => False)
    (hCX : ∀ H e s', CX [] H s₁ (fun _ _ _ => False) e s' → False) :
    codeAny (model P w) callerA (.call (.ref fa) ⟨[.ref a], []⟩) (fun r s' => r = .ok (.ret (.bool true)) ∧ OldK s₁.heap s'.heap ∧ s'.os = s₁.os ∧ AllBare s'.gens) s₁ := by
  have rv := vals_ints hi
  have lenV := hi.length
  have core : ∀ H : Hp, Only H → SqL K H a (ns.map V.int) → HOk P w H s₁.heap → (∀ b, H b ≠ none → b = a) → (H a ≠ none → K.lookup a = none) →
      codeAny (model P w) callerA (.call (.ref fa) ⟨[.ref a], []⟩) (fun r s' => r = .ok (.ret (.bool true)) ∧ OldK s₁.heap s'.heap ∧ s'.os = s₁.os ∧ AllBare s'.gens) s₁ := by
    intro H hO hS hok hA hK
    have base_of : ∀ {b : Addr} {o : Obj}, s₁.heap.get? b = some o → H b = none → (hidT s₁.heap H).get? b = some o := fun e n => hidT_get e n
    have noA : ∀ {b : Addr} {o : Obj} {es : Array DictEntry} {ep : Nat}, s₁.heap.get? b = some o → o.data = .dict es ep → H b = none := fun {b o es ep} e d => by
      cases q : H b with
      | none => rfl
      | some u =>
        have e' : b = a := hA b (by rw [q]; simp)
        subst e'
        rw [ha] at e; cases e
        have d' : Data.seq vs.toArray _ = Data.dict es ep := d
        cases d'
    have nsK : ∀ {b : Addr} {m : Str → Option Value}, s₁.heap.Ns b m → (hidT s₁.heap H).Ns b m := fun {b m} ⟨o, es, ep, e, d, r⟩ => ⟨o, es, ep, base_of e (noA e d), d, r⟩
    have hKb : K.In (hidT s₁.heap H) := fun b o e => base_of (KX b o e) (by
      cases q : H b with
      | none => rfl
      | some u =>
        have e' : b = a := hA b (by rw [q]; simp)
        subst e'
        rw [hK (by rw [q]; simp)] at e; cases e)
    have hM : Mod K mg (hidT s₁.heap H) := ⟨hKb, nsK hns, ⟨mb, nsK hb, hbb⟩, let ⟨mc, h1, h2⟩ := hlim; ⟨mc, nsK h1, h2⟩⟩
    have e0 : Env0 P w K mg (hidT s₁.heap H) callerA [] s₁ H := ⟨rfl, hM, fun b o e => of_hidT e, Nat.le_of_eq (hidT_size _ _), trivial, fun b hb => absurd (show b ∈ ([] : List Addr) from hb) (by simp), hok, .of_eq hg⟩
    refine codeAny_mono ((F _ hKb (nsK hns)).run callerA [] s₁ H ⟨[.ref a], []⟩ [.ref a] [.ref a] _ _ hr e0 (hbind s₁ (.ref a)) (.cons rfl .nil) (hsp H hO hS)) fun r s' h => ?_
    cases r with
    | error e => exact (hCX H e s' h).elim
    | ok fl =>
      cases fl with
      | next => exact False.elim h
      | brk => exact False.elim h
      | cont => exact False.elim h
      | ret u =>
        obtain ⟨v, H', os, bare, un, hok', r', q⟩ := h
        have q' : v = .bl true := q
        subst q'
        obtain rfl : u = Value.bool true := r'
        refine ⟨rfl, OldK.of_keep fun b o e => ?_, os, bare⟩
        cases q : H b with
        | none => exact un.keep b o e q (by intro z; exact absurd (show b ∈ ([] : List Addr) from z) (by simp)) (by simp)
        | some u =>
          rcases hO b with z | ⟨ob, xs, z⟩
          · rw [q] at z; cases z
          · have z2 := un.frzs b ob _ z
            obtain ⟨e1, _⟩ := hok b _ z
            obtain ⟨e2, _⟩ := hok' b _ z2
            rw [e] at e1; cases e1
            exact e2
  cases hk : K.lookup a with
  | some o =>
    have e := KX a o hk
    rw [ha] at e
    cases e
    refine core (fun _ => none) (fun _ => .inl rfl) (.inr ⟨_, vs.toArray, _, hk, rfl, rfl, rfl, by rw [List.size_toArray, lenV]; exact hl, by simpa using rv⟩) (fun b u z => by have z' : (none : Option HO) = some u := z; cases z') (fun b z => absurd rfl z) fun z => absurd rfl z
  | none =>
    refine core (fun b => if b = a then some (.frz { cls := .type "list", data := .seq vs.toArray } (.lst (ns.map V.int))) else none) (fun b => ?_) (.inl (.inr ⟨{ cls := .type "list", data := .seq vs.toArray }, if_pos rfl⟩)) (fun b u z => ?_) (fun b z => ?_) fun _ => hk
    · by_cases hb : b = a
      · exact .inr ⟨_, _, if_pos hb⟩
      · exact .inl (if_neg hb)
    · by_cases hb : b = a
      · have z' := (if_pos hb).symm.trans z
        cases z'
        subst hb
        exact ⟨ha, by rw [List.length_map]; exact hl, vs, _, rv, ha⟩
      · have z' := (if_neg hb).symm.trans z
        cases z'
    · by_cases hb : b = a
      · exact hb
      · exact absurd (if_neg hb) z
end L2
namespace L2
open PySem PySem.Spec PyProof.Rows
noncomputable abbrev KOf {K : PySem.W.Frag} {h : Heap} (_ : K.In h) : PySem.W.Frag := K
theorem walk_of {l : PySem.W.OpenLaw} {n k : Nat} {q : Program} {loose : List Str} {XP : (Str → Option Value) → Heap → Prop} {YP : World → Heap → Prop} {d : DefRec} {K : Params → PySem.W.Frag} {CX : World → CXT} {sp : World → Sp} {x : Str}
    (hn : l.most = some n) (hn2 : n ≤ sizeLine) (hdf : d.params.defaults = []) (hr : Room k callerA)
    (hY : ∀ (w : World) (h : Heap), YP w h → (K w.params).In h)
    (F : ∀ (w : World) (mg : Str → Option Value) (fa : Addr) (h : Heap), (K w.params).In h → h.Ns mainGlobals mg → mg d.name = some (.ref fa) →
      ∃ fd : FuncData, (∀ (s : Shared) (u : Value), BindsTo s fd ⟨[u], []⟩ [(x, u)]) ∧
        ∀ base : Heap, (K w.params).In base → base.Ns mainGlobals mg → FnOk l.prog w (K w.params) mg base (CX w) k fa fd [x] (sp w))
    (hsp : ∀ (w : World) (H : Hp) (a : Addr) (ns : List Int), ns.length ≤ n → Only H → SqL (K w.params) H a (ns.map V.int) → sp w [.ref a] H (fun v _ => v = .bl true) fun _ _ _ => False)
    (hCX : ∀ (w : World) (H : Hp) (s : Shared) (e : Value) (s' : Shared), CX w [] H s (fun _ _ _ => False) e s' → False) :
    PySem.W.WalkO q loose XP YP l.row.toRowW d [] (fun f vs => PySem.call f vs) := by
  refine Att.attach_call hn hdf fun w s₀ s₁ mg mb fa o pm cd doc a vs ns G Y ho hd hcd hmg hobj hints hlen hg => ?_
  have KX := hY w _ Y
  obtain ⟨fd, hb, hF⟩ := F w mg fa _ KX G.T.g hmg
  exact law_call KX G.T.g G.T.b G.T.builtins G.T.nolimit hg hobj hints (Nat.le_trans hlen hn2) hr hF hb (fun H hO hS => hsp w H a ns hlen hO hS) fun H e s' => hCX w H s₁ e s'
end L2
/- THE LAST THEOREM (shape; LID, My.* are yours):
   My.Adr: a structure of the addresses that your layer names (classes, functions); My.Txt K t: a structure (Prop) of the equations over K;
   My.txt_mk : {K} {implicit addresses ..} (e1 : nsIn K mainGlobals "law" = some (some (.ref f))) (e2 : K.lookup f = some ⟨oc, od, .func (fnOf "law" "law" params body scope dV kV doc pm an cdv ct), sl⟩) (e3 : codeIn K cdv "law" = true) .. : ∃ t, My.Txt K t
set_option maxRecDepth 100000 in
set_option maxHeartbeats 0 in
theorem PySem.Challenge.cw_LID_holds : PySem.Challenge.rw_LID.Holds := by
  w_on; o_law; k_head; (case hw => w_witness2)
  k_fill
  refine L2.walk_of (l := PySem.Challenge.rw_LID) (n := 63) (k := 40) (x := "script") (CX := fun w => ..) (sp := fun _ => My.sp_law) rfl (by decide) rfl ⟨rfl, by decide, by decide⟩ (fun w h Y => PySem.W.kIn_of Y) ?F ?S ?C
  case F =>
    intro w mg fa h KX G hmg
    have T : ∃ t, My.Txt (L2.KOf KX) t := by
      dsimp only [L2.KOf]                          -- K must stand as «<heap const> w.params» for k_is
      refine' My.txt_mk ?e1 ?e2 ?e3 ..
      (case e1 => PySem.W.k_is)                    -- in the order: a name -> its address -> its object -> its parts
      (case e2 => PySem.W.k_is)
      ..
    obtain ⟨t, T⟩ := T
    have e0 := hmg.symm.trans (PySem.W.mg_of KX G T.law)
    cases e0                                       -- fa is the law's own address
    exact ⟨_, fun s u => .of_eq rfl, fun base kb nb => My.law_fn T kb nb⟩     -- if «.of_eq rfl» comes too early: refine' ⟨_, ?b, fun base kb nb => My.law_fn T kb nb⟩; exact fun s u => .of_eq rfl
  case S => exact fun w H a ns hl hO hS => ..
  case C => exact ..
(the tactic k_is has no namespace: write k_is) -/
namespace L2
open PySem PySem.Spec PyProof.Rows
noncomputable def defArgs (s : Stmt) : Arguments := match s with
  | .FunctionDef _ a _ _ _ _ _ _ _ _ => a
  | _ => { posonlyargs := [], args := [], vararg := none, kwonlyargs := [], kw_defaults := [], kwarg := none, defaults := [] }
noncomputable def defBody (s : Stmt) : List Stmt := match s with
  | .FunctionDef _ _ b _ _ _ _ _ _ _ => b
  | _ => []
noncomputable def defScope (s : Stmt) : Scope := match s with
  | .FunctionDef _ _ _ _ _ _ sc _ _ _ => sc
  | _ => { kind := .function, names := [], isGenerator := false, isCoroutine := false }
noncomputable abbrev CX0 : CXT := fun _ _ _ _ _ _ => False
noncomputable abbrev E0 : XK := fun _ _ _ => False
theorem pass0 {X : Cx} : Passes CX0 X E0 := fun _ _ _ _ _ _ _ h => h.elim
structure Fun (K : PySem.W.Frag) (x qual : Str) (st : Stmt) (f : Addr) (fd : FuncData) : Prop where
  ex : ∃ (oc : Value) (od : Option Addr) (kV doc pm : Value) (an : Option Addr) (cdv ct : Value) (osl : Array (Option Value)),
    fd = PySem.W.fnOf x qual (defArgs st) (defBody st) (defScope st) .none kV doc pm an cdv ct ∧ K.lookup f = some ⟨oc, od, .func fd, osl⟩ ∧ PySem.W.codeIn K cdv qual = true
  kp : PySem.W.keepIn K (.ref f) = true
section
variable {P : Program} {w : World} {K : PySem.W.Frag} {mg : Str → Option Value} {base : Heap}
theorem Fun.ok {x qual : Str} {st : Stmt} {f : Addr} {fd : FuncData} {N ps : List Str} {k : Nat} {sp : Sp} (F : Fun K x qual st f fd) (S : FnScope N ps (defScope st)) (len : ∀ vs H Q E, sp vs H Q E → vs.length = ps.length)
    (hbody : ∀ (cdv : Value) (A : Around) (outer : List Env) (s : Shared) (H : Hp) (vs : List V) (Q : VK) (E : XK), Room k (A.deeper (envOfC qual (defScope st) s.heap.objs.size f cdv)) → sp vs H Q E →
      ∃ t, PSs (cxOf CX0 P w K mg base N qual (defScope st) f cdv A outer s H E).nox (defBody st) t ∧ t { nx := fun _ H' => Q .non H', rt := Q } (start N vs) H) : FnOk P w K mg base CX0 (k + 1) f fd ps sp := by
  obtain ⟨oc, od, kV, doc, pm, an, cdv, ct, osl, rfl, lk, hcd⟩ := F.ex
  refine fn_of lk hcd S len fun A outer s H vs Q E hr hsp => ?_
  obtain ⟨t, h, q⟩ := hbody cdv A outer s H vs Q E hr hsp
  exact ⟨t, h.nox, q⟩
theorem Fun.binds {x qual : Str} {st : Stmt} {f : Addr} {fd : FuncData} {ps : List Str} (F : Fun K x qual st f fd)
    (h : ∀ (kV doc pm : Value) (an : Option Addr) (cdv ct : Value) (us : List Value), us.length = ps.length → bindArgs (PySem.W.fnOf x qual (defArgs st) (defBody st) (defScope st) .none kV doc pm an cdv ct) ⟨us, []⟩ = pure (ps.zip us)) : Binds K fd ps [] := by
  obtain ⟨oc, od, kV, doc, pm, an, cdv, ct, osl, rfl, lk, hcd⟩ := F.ex
  exact .all (h kV doc pm an cdv ct)
theorem fun_mk {x qual : Str} {st : Stmt} {f : Addr} {oc : Value} {od an : Option Addr} {osl : Array (Option Value)} {kV doc pm cdv ct : Value} (l : K.lookup f = some ⟨oc, od, .func (PySem.W.fnOf x qual (defArgs st) (defBody st) (defScope st) .none kV doc pm an cdv ct), osl⟩)
    (c : PySem.W.codeIn K cdv qual = true) (k : PySem.W.keepIn K (.ref f) = true) : Fun K x qual st f (PySem.W.fnOf x qual (defArgs st) (defBody st) (defScope st) .none kV doc pm an cdv ct) := ⟨⟨oc, od, kV, doc, pm, an, cdv, ct, osl, rfl, l, c⟩, k⟩
end
section
variable {X : Cx}
theorem pv (i : Nat) {x : Str} {pos : Pos} (hN : X.N[i]? = some x := by rfl) (hv : Vis X.env.scope x := by first | exact Or.inl rfl | exact Or.inr (Or.inl rfl) | exact Or.inr (Or.inr rfl)) (hd : (x == ("__debug__" : Str)) = false := by decide)
    (hcd : (x == ("__classdict__" : Str)) = false := by decide) : PE X (.Name x pos) (tVar i) := pe_var hN hv hd hcd
end
theorem ite2 {c A B : Prop} [Decidable c] (h1 : c → A) (h2 : ¬ c → B) : if c then A else B := by
  by_cases h : c
  · rw [if_pos h]
    exact h1 h
  · rw [if_neg h]
    exact h2 h
noncomputable def Same (H H' : Hp) : Prop := ∀ b o, H b = some o → H' b = some o
theorem Same.refl (H : Hp) : Same H H := fun _ _ h => h
theorem Same.trans {H H1 H2 : Hp} (a : Same H H1) (b : Same H1 H2) : Same H H2 := fun c o h => b c o (a c o h)
theorem Same.free {H H' : Hp} (e : Same H H') {l : Addr} (h : H' l = Option.none) : H l = Option.none := by
  cases q : H l with
  | none => rfl
  | some o =>
    rw [e l o q] at h
    cases h
theorem Same.seq {K : PySem.W.Frag} {H H' : Hp} {a : Addr} {xs : List V} (e : Same H H') (h : SqL K H a xs) : SqL K H' a xs := by
  rcases h with (h | ⟨o, h⟩) | h
  · exact .inl (.inl (e _ _ h))
  · exact .inl (.inr ⟨o, e _ _ h⟩)
  · exact .inr h
end L2
set_option autoImplicit false
namespace Dr
theorem pow_pos {p : Int} (h : 2 ≤ p) : ∀ n : Nat, 0 < p ^ n
  | 0 => by simp
  | n + 1 => by
    rw [Int.pow_succ]
    exact Int.mul_pos (pow_pos h n) (by omega)
theorem pow_add' (p : Int) (m : Nat) : ∀ n : Nat, p ^ (m + n) = p ^ m * p ^ n
  | 0 => by simp
  | n + 1 => by rw [← Nat.add_assoc, Int.pow_succ, pow_add' p m n, Int.pow_succ, Int.mul_assoc]
theorem dvd_of_le {p x : Int} {j k : Nat} (h : x % p ^ k = 0) (hj : j ≤ k) : x % p ^ j = 0 := by
  obtain ⟨i, rfl⟩ : ∃ i, k = j + i := ⟨k - j, by ((try clear h); omega)⟩
  rw [pow_add'] at h
  exact Int.emod_eq_zero_of_dvd (Int.dvd_trans (Int.dvd_mul_right _ _) (Int.dvd_of_emod_eq_zero h))
noncomputable def primes : List Int := [2, 3, 5, 7, 11, 13, 17, 19, 23, 29, 31, 37, 41, 43, 47, 53, 59, 61, 67, 71, 73, 79, 83, 89, 97]
theorem primes_ge {p : Int} (h : p ∈ primes) : 2 ≤ p ∧ p ≤ 97 :=
  of_decide_eq_true (List.all_eq_true.mp (show (primes.all fun q => decide (2 ≤ q ∧ q ≤ 97)) = true by decide +kernel) p h)
noncomputable def invs (p : Nat) : Bool := (List.range p).all fun r => r == 0 || (List.range p).any fun y => r * y % p == 1
theorem invs_all : (primes.map Int.toNat).all invs = true := by decide +kernel
theorem inv_ex {p x : Int} (hp : p ∈ primes) (hx : x % p ≠ 0) : ∃ y : Int, 1 ≤ y ∧ y < p ∧ x * y % p = 1 := by
  have g := primes_ge hp
  have h := List.all_eq_true.mp invs_all p.toNat (List.mem_map.mpr ⟨p, hp, rfl⟩)
  have r0 := Int.emod_nonneg x (show p ≠ 0 by ((try clear h hx); omega))
  have r1 := Int.emod_lt_of_pos x (show 0 < p by ((try clear h hx r0); omega))
  have h2 := List.all_eq_true.mp h (x % p).toNat (List.mem_range.mpr (by ((try clear h hx r0); omega)))
  have z : ((x % p).toNat == 0) = false := by
    rw [beq_eq_false_iff_ne]; ((try clear g h h2 r1); omega)
  rw [z, Bool.false_or] at h2
  obtain ⟨y, hy, e⟩ := List.any_eq_true.mp h2
  have e' : (x % p).toNat * y % p.toNat = 1 := by simpa using e
  have hy' := List.mem_range.mp hy
  refine ⟨(y : Int), ?_, by ((try clear e e' h h2 hx r0 r1 z); omega), ?_⟩
  · rcases Nat.eq_zero_or_pos y with q | q
    · subst q; simp at e'
    · ((try clear e e' g h h2 hx hy' r0 r1 z); omega)
  · rw [Int.mul_emod, Int.emod_eq_of_lt (Int.natCast_nonneg y) (show (y : Int) < p by ((try clear e e' h h2 hx r0 r1 z); omega))]
    have e3 := congrArg (fun n : Nat => (n : Int)) e'
    simp only [Int.natCast_emod, Int.natCast_mul] at e3
    rw [Int.toNat_of_nonneg r0, Int.toNat_of_nonneg (by ((try clear e e' e3 h h2 hx hy' r0 r1 z); omega))] at e3
    exact e3
theorem euclid {p a b : Int} (hp : p ∈ primes) (h : a * b % p = 0) (ha : a % p ≠ 0) : b % p = 0 := by
  obtain ⟨y, _, _, e⟩ := inv_ex hp ha
  have g := primes_ge hp
  have h1 : (y * (a * b)) % p = 0 := by rw [Int.mul_emod, h]; simp
  have h2 : (y * (a * b)) % p = (a * y) * b % p := by
    congr 1
    rw [← Int.mul_assoc, Int.mul_comm y a]
  rw [h2, Int.mul_emod, e, Int.one_mul, Int.emod_emod] at h1
  exact h1
end Dr
namespace Dr
theorem pow_dv {p : Int} {m n : Nat} (h : m ≤ n) : p ^ n % p ^ m = 0 := by
  obtain ⟨k, rfl⟩ : ∃ k, n = k + m := ⟨n - m, by omega⟩
  rw [pow_add', Int.mul_emod_left]
end Dr
namespace Dr
structure InvE (p x y : Int) (e : Nat) : Prop where
  lo : 0 ≤ y
  hi : y < p ^ e
  one : (x * y - 1) % p ^ e = 0
theorem dvd_sub_of {m a b : Int} (h : a % m = 0) (h' : b % m = 0) : (a - b) % m = 0 := by rw [Int.sub_emod, h, h']; simp
theorem dvd_add_of {m a b : Int} (h : a % m = 0) (h' : b % m = 0) : (a + b) % m = 0 := by rw [Int.add_emod, h, h']; simp
theorem dvd_mul_l {m a : Int} (b : Int) (h : a % m = 0) : (b * a) % m = 0 := by rw [Int.mul_emod, h]; simp
theorem rest_sub (m a : Int) : (a % m - a) % m = 0 := by
  rw [Int.sub_emod, Int.emod_emod]
  simp
theorem inv_step {p x y : Int} {e r : Nat} (h : (x * y - 1) % p ^ (min r e) = 0) : (x * (y * (2 - x * y) % p ^ e) - 1) % p ^ (min (r * 2) e) = 0 := by
  have k1 : (y * (2 - x * y) % p ^ e - y * (2 - x * y)) % p ^ e = 0 := rest_sub _ _
  have k2 : (x * (y * (2 - x * y) % p ^ e) - x * (y * (2 - x * y))) % p ^ (min (r * 2) e) = 0 := by
    rw [← Int.mul_sub]
    exact dvd_mul_l _ (dvd_of_le k1 (Nat.min_le_right ..))
  have k3 : x * (y * (2 - x * y)) - 1 = -((x * y - 1) * (x * y - 1)) := by
    have e1 : x * (y * (2 - x * y)) = 2 * (x * y) - (x * y) * (x * y) := by
      rw [← Int.mul_assoc, Int.mul_sub, Int.mul_comm (x * y) 2]
    have e2 : (x * y - 1) * (x * y - 1) = (x * y) * (x * y) - 2 * (x * y) + 1 := by
      rw [Int.sub_mul, Int.mul_sub]
      ((try clear e1 h k1 k2); omega)
    rw [e1, e2]
    ((try clear e1 e2 h k1 k2); omega)
  have k4 : (x * (y * (2 - x * y)) - 1) % p ^ (min (r * 2) e) = 0 := by
    rw [k3]
    refine Int.emod_eq_zero_of_dvd (Int.dvd_neg.mpr ?_)
    obtain ⟨q, hq⟩ := Int.dvd_of_emod_eq_zero h
    have : p ^ (min r e) * p ^ (min r e) ∣ (x * y - 1) * (x * y - 1) := by
      refine ⟨q * q, ?_⟩
      conv => lhs; rw [hq]
      simp only [Int.mul_assoc, Int.mul_left_comm]
    refine Int.dvd_trans ?_ this
    rw [← pow_add']
    exact Int.dvd_of_emod_eq_zero (pow_dv (by ((try clear h hq k1 k2 k3 this); omega)))
  have : x * (y * (2 - x * y) % p ^ e) - 1 = (x * (y * (2 - x * y) % p ^ e) - x * (y * (2 - x * y))) + (x * (y * (2 - x * y)) - 1) := by ((try clear h k1 k2 k3 k4); omega)
  rw [this]
  exact dvd_add_of k2 k4
theorem InvE.zero (p x : Int) : InvE p x 0 0 := ⟨by decide, by simp, by simp [Int.emod_one]⟩
end Dr
namespace Dr
end Dr
namespace Dr
end Dr
namespace Dr
noncomputable def pev : List Int → Int → Int
  | [], _ => 0
  | a :: f, x => a + x * pev f x
theorem pev_append (f g : List Int) (x : Int) : pev (f ++ g) x = pev f x + x ^ f.length * pev g x := by
  induction f with
  | nil => simp [pev]
  | cons a f ih =>
    simp only [List.cons_append, pev, ih, List.length_cons]
    grind
theorem pev_zeros (n : Nat) (x : Int) : pev (List.replicate n 0) x = 0 := by
  induction n with
  | zero => rfl
  | succ n ih => simp [List.replicate_succ, pev, ih]
theorem pev_set (x d : Int) : ∀ (f : List Int) (k : Nat) (c : Int), f[k]? = some c → pev (f.set k (c + d)) x = pev f x + d * x ^ k
  | a :: f, 0, c, h => by
    have : a = c := by simpa using h
    subst this
    simp only [List.set_cons_zero, pev, Int.pow_zero]
    ((try clear h); omega)
  | a :: f, k + 1, c, h => by
    simp only [List.set_cons_succ, pev, pev_set x d f k c (by simpa using h)]
    grind
theorem pev_take_succ {f : List Int} {i : Nat} {c : Int} (h : f[i]? = some c) (x : Int) : pev (f.take (i + 1)) x = pev (f.take i) x + c * x ^ i := by
  have hi := (List.getElem?_eq_some_iff.mp h).1
  rw [List.take_add_one, h, pev_append, List.length_take, Nat.min_eq_left (Nat.le_of_lt hi)]
  simp only [Option.toList, pev]
  grind
noncomputable def Sm (n : Int) (k : Nat) : Prop := n.natAbs < 2 ^ k
theorem Sm.mono {n : Int} {k l : Nat} (h : Sm n k) (hl : k ≤ l) : Sm n l := Nat.lt_of_lt_of_le h (Nat.pow_le_pow_right (by decide) hl)
theorem Sm.zero (k : Nat) : Sm 0 k := Nat.pow_pos (by decide)
theorem Sm.add {a b : Int} {k l : Nat} (ha : Sm a k) (hb : Sm b l) : Sm (a + b) (max k l + 1) := by
  have h1 := ha.mono (Nat.le_max_left k l)
  have h2 := hb.mono (Nat.le_max_right k l)
  unfold Sm at *
  rw [Nat.pow_succ]
  ((try clear ha hb); omega)
theorem Sm.neg {a : Int} {k : Nat} (ha : Sm a k) : Sm (-a) k := by
  unfold Sm at *
  rw [Int.natAbs_neg]
  exact ha
theorem Sm.sub {a b : Int} {k l : Nat} (ha : Sm a k) (hb : Sm b l) : Sm (a - b) (max k l + 1) := by
  rw [Int.sub_eq_add_neg]
  exact ha.add hb.neg
theorem Sm.mul {a b : Int} {k l : Nat} (ha : Sm a k) (hb : Sm b l) : Sm (a * b) (k + l) := by
  unfold Sm at *
  rw [Int.natAbs_mul, Nat.pow_add]
  exact Nat.mul_lt_mul_of_lt_of_lt ha hb
noncomputable def PolyB (f : List Int) (m : Nat) : Prop := ∀ c, c ∈ f → Sm c m
theorem pev_inj_from : ∀ (f g : List Int) (N : Int), f.length = g.length → (∀ x, N ≤ x → pev f x = pev g x) → f = g
  | [], [], _, _, _ => rfl
  | a :: f, b :: g, N, hl, h => by
    have hab : a = b := by
      let D : Int := ((a - b).natAbs : Int) + 1 + (N.natAbs : Int)
      have hD : N ≤ D := by ((try clear hl); omega)
      have e := h D hD
      simp only [pev] at e
      have e2 : a - b = D * (pev g D - pev f D) := by grind
      refine Decidable.byContradiction fun hne => ?_
      have hz : pev g D - pev f D ≠ 0 := fun z => by
        rw [z] at e2
        simp at e2
        ((try clear hD hl z); omega)
      have h3 : (a - b).natAbs = D.natAbs * (pev g D - pev f D).natAbs := by rw [← Int.natAbs_mul, ← e2]
      have h4 : D.natAbs * 1 ≤ D.natAbs * (pev g D - pev f D).natAbs := Nat.mul_le_mul_left _ (by ((try clear e e2 h3 hD hl hne); omega))
      ((try clear e e2 hD hl); omega)
    subst hab
    congr 1
    refine pev_inj_from f g (max N 1) (by simpa using hl) fun x hx => ?_
    have e := h x (by ((try clear hl); omega))
    simp only [pev] at e
    have e2 : x * pev f x = x * pev g x := by ((try clear hl hx); omega)
    exact Int.eq_of_mul_eq_mul_left (by ((try clear e e2 hl); omega)) e2
  | [], _ :: _, _, hl, _ => by simp at hl
  | _ :: _, [], _, hl, _ => by simp at hl
theorem pev_inj {f g : List Int} (hl : f.length = g.length) (h : ∀ x, pev f x = pev g x) : f = g := pev_inj_from f g 0 hl fun x _ => h x
noncomputable def IsDeg (f : List Int) (d : Int) : Prop := (d = -1 ∧ ∀ c, c ∈ f → c = 0) ∨ ∃ (k : Nat) (c : Int), d = (k : Int) ∧ f[k]? = some c ∧ c ≠ 0 ∧ ∀ (j : Nat) (b : Int), k < j → f[j]? = some b → b = 0
theorem IsDeg.nil : IsDeg [] (-1) := .inl ⟨rfl, fun _ h => nomatch h⟩
theorem IsDeg.snoc {f : List Int} {d x : Int} (h : IsDeg f d) : IsDeg (f ++ [x]) (if x ≠ 0 then (f.length : Int) else d) := by
  by_cases hx : x = 0
  · rw [if_neg (by simp [hx])]
    rcases h with ⟨rfl, h⟩ | ⟨k, c, rfl, e, hc, h⟩
    · exact .inl ⟨rfl, fun c hc => by rcases List.mem_append.mp hc with z | z; exact h c z; rw [List.mem_singleton.mp z, hx]⟩
    · have hk := (List.getElem?_eq_some_iff.mp e).1
      refine .inr ⟨k, c, rfl, by rw [List.getElem?_append_left hk]; exact e, hc, fun j b hj e' => ?_⟩
      by_cases hl : j < f.length
      · rw [List.getElem?_append_left hl] at e'
        exact h j b hj e'
      · rw [List.getElem?_append_right (by ((try clear e e' hc hj hk hx); omega))] at e'
        by_cases hz : j - f.length = 0
        · rw [hz] at e'
          simp at e'
          rw [← e', hx]
        · rw [List.getElem?_eq_none (by simp; ((try clear e e' hc hj hk hx); omega))] at e'
          cases e'
  · rw [if_pos hx]
    refine .inr ⟨f.length, x, rfl, by rw [List.getElem?_append_right (Nat.le_refl _)]; simp, hx, fun j b hj e' => ?_⟩
    rw [List.getElem?_eq_none (by simp; ((try clear e' hx); omega))] at e'
    cases e'
theorem IsDeg.uniq {f : List Int} {d d' : Int} (h : IsDeg f d) (h' : IsDeg f d') : d = d' := by
  rcases h with ⟨rfl, h⟩ | ⟨k, c, rfl, e, hc, h⟩ <;> rcases h' with ⟨rfl, h'⟩ | ⟨k', c', rfl, e', hc', h'⟩
  · rfl
  · exact absurd (h c' (List.mem_of_getElem? e')) hc'
  · exact absurd (h' c (List.mem_of_getElem? e)) hc
  · have h1 : ¬ k < k' := fun z => hc' (h k' c' z e')
    have h2 : ¬ k' < k := fun z => hc (h' k c z e)
    ((try clear e e' hc hc'); omega)
theorem IsDeg.take_succ {f : List Int} {i : Nat} {x d : Int} (hx : f[i]? = some x) (h : IsDeg (f.take i) d) : IsDeg (f.take (i + 1)) (if x ≠ 0 then (i : Int) else d) := by
  have hi := (List.getElem?_eq_some_iff.mp hx).1
  have := h.snoc (x := x)
  rw [List.length_take, Nat.min_eq_left (Nat.le_of_lt hi)] at this
  rw [List.take_add_one, hx]
  exact this
end Dr
namespace Dr
structure IsProd (f g r : List Int) : Prop where
  len : r.length + 1 = f.length + g.length
  ev : ∀ x, pev r x = pev f x * pev g x
theorem IsProd.uniq {f g r r' : List Int} (h : IsProd f g r) (h' : IsProd f g r') : r = r' := pev_inj (by have := h.len; have := h'.len; omega) fun x => by rw [h.ev, h'.ev]
noncomputable def padd : List Int → List Int → List Int
  | [], g => g
  | f, [] => f
  | a :: f, b :: g => (a + b) :: padd f g
theorem padd_ev (x : Int) : ∀ f g : List Int, pev (padd f g) x = pev f x + pev g x
  | [], g => by simp [padd, pev]
  | a :: f, [] => by simp [padd, pev]
  | a :: f, b :: g => by
    simp only [padd, pev, padd_ev x f g]
    grind
theorem padd_len : ∀ f g : List Int, (padd f g).length = max f.length g.length
  | [], g => by simp [padd]
  | a :: f, [] => by simp [padd]
  | a :: f, b :: g => by
    simp only [padd, List.length_cons, padd_len f g]
    omega
theorem pev_map (k x : Int) : ∀ f : List Int, pev (f.map (k * ·)) x = k * pev f x
  | [] => by simp [pev]
  | a :: f => by
    simp only [List.map_cons, pev, pev_map k x f]
    grind
noncomputable def pmul : List Int → List Int → List Int
  | [], _ => []
  | a :: f, g => padd (g.map (a * ·)) (match f with | [] => [] | _ => 0 :: pmul f g)
theorem pmul_ev (x : Int) (g : List Int) : ∀ f : List Int, pev (pmul f g) x = pev f x * pev g x
  | [] => by simp [pmul, pev]
  | [a] => by
    simp only [pmul, padd_ev, pev_map, pev]
    grind
  | a :: b :: f => by
    simp only [pmul, padd_ev, pev_map]
    have := pmul_ev x g (b :: f)
    simp only [pmul, padd_ev, pev_map] at this
    simp only [pev, padd_ev, pev_map] at this ⊢
    grind
theorem pmul_len (g : List Int) (hg : 0 < g.length) : ∀ f : List Int, 0 < f.length → (pmul f g).length + 1 = f.length + g.length
  | [a], _ => by
    simp only [pmul, padd_len, List.length_map, List.length_nil, List.length_cons]
    omega
  | a :: b :: f, _ => by
    have := pmul_len g hg (b :: f) (by simp)
    simp only [pmul, padd_len, List.length_map, List.length_cons] at this ⊢
    ((try clear hg); omega)
theorem pmul_prod {f g : List Int} (hf : 0 < f.length) (hg : 0 < g.length) : IsProd f g (pmul f g) := ⟨pmul_len g hg f hf, fun x => pmul_ev x g f⟩
noncomputable def pdiv (q : Int) (f : List Int) : List Int := f.map (· / q)
theorem pdiv_back {q : Int} : ∀ {f : List Int}, (∀ x, x ∈ f → x % q = 0) → f = (pdiv q f).map (q * ·)
  | [], _ => rfl
  | a :: l, hl => by
    have ih := pdiv_back (f := l) fun x hx => hl x (List.mem_cons_of_mem _ hx)
    unfold pdiv at ih ⊢
    rw [List.map_cons, List.map_cons, ← ih]
    congr 1
    have e := Int.mul_ediv_add_emod a q
    rw [hl a (List.mem_cons_self ..)] at e
    ((try clear ih); omega)
theorem pdiv_ev {q : Int} {f : List Int} (h : ∀ x, x ∈ f → x % q = 0) (x : Int) : pev f x = q * pev (pdiv q f) x := by
  conv => lhs; rw [pdiv_back h]
  rw [pev_map]
end Dr
namespace Dr
end Dr
namespace Dr
noncomputable def DegP (p : Int) (f : List Int) (m : Nat) : Prop := f.getD m 0 % p ≠ 0 ∧ ∀ j, m < j → f.getD j 0 % p = 0
theorem padd_getD : ∀ (f g : List Int) (j : Nat), (padd f g).getD j 0 = f.getD j 0 + g.getD j 0
  | [], g, j => by simp [padd]
  | a :: f, [], j => by simp [padd]
  | a :: f, b :: g, 0 => by simp [padd]
  | a :: f, b :: g, j + 1 => by
    have := padd_getD f g j
    simpa [padd] using this
theorem map_getD (k : Int) (f : List Int) (j : Nat) : (f.map (k * ·)).getD j 0 = k * f.getD j 0 := by
  rw [List.getD_eq_getElem?_getD, List.getD_eq_getElem?_getD, List.getElem?_map]
  cases f[j]? <;> simp
end Dr
namespace Dr
noncomputable def InB (p x : Int) (b : Int × Nat) : Prop := (x - b.1) % p ^ b.2 = 0
end Dr
namespace Dr
end Dr
namespace Dr
end Dr
namespace Dr
instance (p x : Int) (b : Int × Nat) : Decidable (InB p x b) := inferInstanceAs (Decidable ((x - b.1) % p ^ b.2 = 0))
noncomputable def Within (p : Int) (d b : Int × Nat) : Prop := b.2 ≤ d.2 ∧ (d.1 - b.1) % p ^ b.2 = 0
instance (p : Int) (d b : Int × Nat) : Decidable (Within p d b) := inferInstanceAs (Decidable (_ ∧ _))
end Dr
namespace Dr
end Dr
namespace Dr
end Dr
namespace Dr
end Dr
namespace Dr
theorem emod_same {x y q : Int} (h : (x - y) % q = 0) : x % q = y % q := Int.emod_emod_of_dvd x (Int.dvd_refl q) ▸ (Int.emod_emod_of_dvd y (Int.dvd_refl q) ▸ (by
  obtain ⟨k, e⟩ := Int.dvd_of_emod_eq_zero h
  rw [show x = y + q * k by ((try clear h); omega), Int.add_mul_emod_self_left]))
end Dr
namespace Dr
end Dr
namespace Dr
end Dr
namespace Dr
end Dr
namespace Dr
noncomputable def PF (F : Int → Int) : Prop := ∃ k : List Int, ∀ x, F x = pev k x
theorem PF.of (k : List Int) : PF (pev k) := ⟨k, fun _ => rfl⟩
theorem PF.const (c : Int) : PF fun _ => c := ⟨[c], fun x => by simp [pev]⟩
theorem PF.add {F G : Int → Int} (hF : PF F) (hG : PF G) : PF fun x => F x + G x := by
  obtain ⟨a, ha⟩ := hF
  obtain ⟨b, hb⟩ := hG
  exact ⟨padd a b, fun x => by rw [padd_ev, ← ha, ← hb]⟩
theorem PF.mul {F G : Int → Int} (hF : PF F) (hG : PF G) : PF fun x => F x * G x := by
  obtain ⟨a, ha⟩ := hF
  obtain ⟨b, hb⟩ := hG
  exact ⟨pmul a b, fun x => by rw [pmul_ev, ← ha, ← hb]⟩
theorem PF.sub {F G : Int → Int} (hF : PF F) (hG : PF G) : PF fun x => F x - G x := by
  obtain ⟨k, hk⟩ := hF.add ((PF.const (-1)).mul hG)
  exact ⟨k, fun x => by rw [← hk]; show F x - G x = F x + -1 * G x; omega⟩
theorem PF.x : PF fun x => x := ⟨[0, 1], fun x => by simp [pev]⟩
noncomputable def Cg (q : Int) (F G : Int → Int) : Prop := ∃ K, PF K ∧ ∀ x, F x - G x = q * K x
theorem Cg.of_eq {q : Int} {F G : Int → Int} (h : ∀ x, F x = G x) : Cg q F G := ⟨fun _ => 0, PF.const 0, fun x => by rw [h, Int.sub_self, Int.mul_zero]⟩
theorem Cg.refl {q : Int} (F : Int → Int) : Cg q F F := Cg.of_eq fun _ => rfl
theorem Cg.symm {q : Int} {F G : Int → Int} (h : Cg q F G) : Cg q G F := by
  obtain ⟨K, hK, e⟩ := h
  exact ⟨fun x => (-1) * K x, (PF.const (-1)).mul hK, fun x => by have := e x; generalize K x = k at *; grind⟩
theorem Cg.trans {q : Int} {F G H : Int → Int} (h : Cg q F G) (h' : Cg q G H) : Cg q F H := by
  obtain ⟨K, hK, e⟩ := h
  obtain ⟨L, hL, e'⟩ := h'
  exact ⟨fun x => K x + L x, hK.add hL, fun x => by have := e x; have := e' x; generalize K x = k at *; generalize L x = l at *; grind⟩
theorem Cg.add {q : Int} {F F' G G' : Int → Int} (h : Cg q F F') (h' : Cg q G G') : Cg q (fun x => F x + G x) (fun x => F' x + G' x) := by
  obtain ⟨K, hK, e⟩ := h
  obtain ⟨L, hL, e'⟩ := h'
  exact ⟨fun x => K x + L x, hK.add hL, fun x => by have := e x; have := e' x; generalize K x = k at *; generalize L x = l at *; grind⟩
theorem Cg.sub {q : Int} {F F' G G' : Int → Int} (h : Cg q F F') (h' : Cg q G G') : Cg q (fun x => F x - G x) (fun x => F' x - G' x) := by
  obtain ⟨K, hK, e⟩ := h
  obtain ⟨L, hL, e'⟩ := h'
  exact ⟨fun x => K x - L x, hK.sub hL, fun x => by have := e x; have := e' x; generalize K x = k at *; generalize L x = l at *; grind⟩
theorem Cg.mul {q : Int} {F F' G G' : Int → Int} (hF : PF F) (hG : PF G') (h : Cg q F F') (h' : Cg q G G') : Cg q (fun x => F x * G x) (fun x => F' x * G' x) := by
  obtain ⟨K, hK, e⟩ := h
  obtain ⟨L, hL, e'⟩ := h'
  refine ⟨fun x => F x * L x + K x * G' x, (hF.mul hL).add (hK.mul hG), fun x => ?_⟩
  have e1 := e x
  have e2 := e' x
  generalize K x = k at *
  generalize L x = l at *
  grind
theorem Cg.mulL {q : Int} {F G G' : Int → Int} (hF : PF F) (h : Cg q G G') : Cg q (fun x => F x * G x) (fun x => F x * G' x) := by
  obtain ⟨L, hL, e⟩ := h
  exact ⟨fun x => F x * L x, hF.mul hL, fun x => by have := e x; generalize L x = l at *; grind⟩
theorem Cg.mulR {q : Int} {F F' G : Int → Int} (hG : PF G) (h : Cg q F F') : Cg q (fun x => F x * G x) (fun x => F' x * G x) := by
  obtain ⟨L, hL, e⟩ := h
  exact ⟨fun x => L x * G x, hL.mul hG, fun x => by have := e x; generalize L x = l at *; grind⟩
theorem Cg.up {q r : Int} {F G : Int → Int} (h : Cg r F G) : Cg (q * r) (fun x => q * F x) (fun x => q * G x) := by
  obtain ⟨K, hK, e⟩ := h
  exact ⟨K, hK, fun x => by have := e x; generalize K x = k at *; grind⟩
theorem pev_pad (f : List Int) (n : Nat) (x : Int) : pev (f ++ List.replicate n 0) x = pev f x := by
  rw [pev_append, pev_zeros]
  simp
theorem getD_pad (f : List Int) (n i : Nat) : (f ++ List.replicate n 0).getD i 0 = f.getD i 0 := by
  rw [List.getD_eq_getElem?_getD, List.getD_eq_getElem?_getD]
  by_cases c : i < f.length
  · rw [List.getElem?_append_left c]
  · rw [List.getElem?_append_right (by omega), List.getElem?_eq_none (l := f) (by omega)]
    by_cases c2 : i - f.length < n
    · rw [List.getElem?_replicate, if_pos c2]
      rfl
    · rw [List.getElem?_eq_none (by rw [List.length_replicate]; ((try clear c); omega))]
theorem pev_getD {f g : List Int} (h : ∀ x, pev f x = pev g x) (i : Nat) : f.getD i 0 = g.getD i 0 := by
  have := pev_inj (f := f ++ List.replicate (g.length - f.length) 0) (g := g ++ List.replicate (f.length - g.length) 0) (by simp only [List.length_append, List.length_replicate]; omega) (fun x => by rw [pev_pad, pev_pad, h])
  rw [← getD_pad f (g.length - f.length), this, getD_pad]
noncomputable def Cf (q : Int) (f g : List Int) : Prop := ∀ i, (f.getD i 0 - g.getD i 0) % q = 0
theorem Cg.cf {q : Int} {f g : List Int} (h : Cg q (pev f) (pev g)) : Cf q f g := by
  obtain ⟨K, ⟨k, hk⟩, e⟩ := h
  intro i
  have := pev_getD (f := f) (g := padd g (k.map (q * ·))) (fun x => by rw [padd_ev, pev_map, ← hk]; have := e x; omega) i
  rw [this, padd_getD, map_getD, show g.getD i 0 + q * k.getD i 0 - g.getD i 0 = q * k.getD i 0 by ((try clear this); omega)]
  simp
theorem Cf.cg {q : Int} : ∀ {f g : List Int}, Cf q f g → Cg q (pev f) (pev g)
  | [], [], _ => Cg.refl _
  | a :: f, [], h => by
    have h0 := h 0
    have h1 : Cf q f [] := fun i => by have := h (i + 1); simpa using this
    obtain ⟨K, hK, e⟩ := Cf.cg h1
    obtain ⟨c, ec⟩ := Int.dvd_of_emod_eq_zero h0
    simp at ec
    refine ⟨fun x => c + x * K x, (PF.const c).add (PF.x.mul hK), fun x => ?_⟩
    have := e x
    simp only [pev] at this ⊢
    generalize K x = k at *
    grind
  | [], a :: g, h => by
    have h0 := h 0
    have h1 : Cf q [] g := fun i => by have := h (i + 1); simpa using this
    obtain ⟨K, hK, e⟩ := Cf.cg h1
    obtain ⟨c, ec⟩ := Int.dvd_of_emod_eq_zero h0
    simp at ec
    refine ⟨fun x => c + x * K x, (PF.const c).add (PF.x.mul hK), fun x => ?_⟩
    have := e x
    simp only [pev] at this ⊢
    generalize K x = k at *
    grind
  | a :: f, b :: g, h => by
    have h0 := h 0
    have h1 : Cf q f g := fun i => by have := h (i + 1); simpa using this
    obtain ⟨K, hK, e⟩ := Cf.cg h1
    obtain ⟨c, ec⟩ := Int.dvd_of_emod_eq_zero h0
    simp at ec
    refine ⟨fun x => c + x * K x, (PF.const c).add (PF.x.mul hK), fun x => ?_⟩
    have := e x
    simp only [pev] at this ⊢
    generalize K x = k at *
    grind
theorem Cf.rests (q : Int) (f : List Int) : Cf q (f.map (· % q)) f := fun i => by
  rw [List.getD_eq_getElem?_getD, List.getD_eq_getElem?_getD, List.getElem?_map]
  cases h : f[i]? with
  | none => simp
  | some x => simpa using rest_sub q x
theorem Cf.symm {q : Int} {f g : List Int} (h : Cf q f g) : Cf q g f := fun i => by
  have := dvd_mul_l (-1) (h i)
  rwa [show -1 * (f.getD i 0 - g.getD i 0) = g.getD i 0 - f.getD i 0 by ((try clear this); omega)] at this
theorem Cf.trans {q : Int} {f g k : List Int} (h : Cf q f g) (h' : Cf q g k) : Cf q f k := fun i => by
  have := dvd_add_of (h i) (h' i)
  rwa [show f.getD i 0 - g.getD i 0 + (g.getD i 0 - k.getD i 0) = f.getD i 0 - k.getD i 0 by ((try clear this); omega)] at this
theorem pmul_top : ∀ (f g : List Int) (n m : Nat), f.length = n + 1 → g.length = m + 1 → (pmul f g).getD (n + m) 0 = f.getD n 0 * g.getD m 0
  | [], _, _, _, h, _ => by simp at h
  | [a], g, n, m, h, hg => by
    have : n = 0 := by simpa using h.symm
    subst this
    show (padd (g.map (a * ·)) []).getD (0 + m) 0 = _
    rw [padd_getD, map_getD, Nat.zero_add]
    simp
  | a :: b :: f, g, n, m, h, hg => by
    obtain ⟨k, rfl⟩ : ∃ k, n = k + 1 := ⟨n - 1, by simp at h; ((try clear hg); omega)⟩
    have ih := pmul_top (b :: f) g k m (by simp at h ⊢; ((try clear hg); omega)) hg
    show (padd (g.map (a * ·)) (0 :: pmul (b :: f) g)).getD (k + 1 + m) 0 = _
    rw [padd_getD, map_getD, show k + 1 + m = (k + m) + 1 by ((try clear h hg ih); omega)]
    have e : g.getD (k + m + 1) 0 = 0 := by
      rw [List.getD_eq_getElem?_getD, List.getElem?_eq_none (by ((try clear h ih); omega))]
      rfl
    rw [e]
    simp only [List.getD_cons_succ, Int.mul_zero, Int.zero_add]
    exact ih
theorem getD_len {f : List Int} {i : Nat} (h : f.length ≤ i) : f.getD i 0 = 0 := by
  rw [List.getD_eq_getElem?_getD, List.getElem?_eq_none h]
  rfl
theorem DegP.lt {p : Int} {f : List Int} {m : Nat} (h : DegP p f m) : m < f.length := by
  refine Decidable.byContradiction fun z => h.1 ?_
  rw [getD_len (by omega)]
  simp
theorem Cf.take {p : Int} {f : List Int} {m : Nat} (h : ∀ j, m < j → f.getD j 0 % p = 0) : Cf p (f.take (m + 1)) f := fun i => by
  by_cases c : i < m + 1
  · have : (f.take (m + 1)).getD i 0 = f.getD i 0 := by
      rw [List.getD_eq_getElem?_getD, List.getD_eq_getElem?_getD, List.getElem?_take_of_lt c]
    rw [this, Int.sub_self]
    simp
  · rw [getD_len (by rw [List.length_take]; omega)]
    have := dvd_mul_l (-1) (h i (by omega))
    rwa [show -1 * f.getD i 0 = 0 - f.getD i 0 by ((try clear c this); omega)] at this
theorem Cf.deg {p : Int} {f g : List Int} {m : Nat} (h : Cf p f g) (hf : DegP p f m) : DegP p g m := by
  have e : ∀ i, f.getD i 0 % p = g.getD i 0 % p := fun i => emod_same (h i)
  exact ⟨by rw [← e]; exact hf.1, fun j hj => by rw [← e]; exact hf.2 j hj⟩
theorem DegP.mul {p : Int} (hp : p ∈ primes) {f g : List Int} {n m : Nat} (hf : DegP p f n) (hg : DegP p g m) : DegP p (pmul f g) (n + m) := by
  have lf := hf.lt
  have lg := hg.lt
  have l1 : (f.take (n + 1)).length = n + 1 := by rw [List.length_take]; ((try clear lg); omega)
  have l2 : (g.take (m + 1)).length = m + 1 := by rw [List.length_take]; ((try clear l1 lf); omega)
  have c1 := (Cf.take hf.2).cg
  have c2 := (Cf.take hg.2).cg
  have cc : Cf p (pmul (f.take (n + 1)) (g.take (m + 1))) (pmul f g) := Cg.cf (by
    have := Cg.mul (PF.of _) (PF.of _) c1 c2
    refine (Cg.of_eq fun x => pmul_ev _ _ _).trans (this.trans (Cg.of_eq fun x => (pmul_ev _ _ _).symm)))
  refine cc.deg ⟨?_, fun j hj => ?_⟩
  · rw [pmul_top _ _ n m l1 l2]
    have e1 : (f.take (n + 1)).getD n 0 = f.getD n 0 := by rw [List.getD_eq_getElem?_getD, List.getD_eq_getElem?_getD, List.getElem?_take_of_lt (by ((try clear l1 l2 lf lg); omega))]
    have e2 : (g.take (m + 1)).getD m 0 = g.getD m 0 := by rw [List.getD_eq_getElem?_getD, List.getD_eq_getElem?_getD, List.getElem?_take_of_lt (by ((try clear e1 l1 l2 lf lg); omega))]
    rw [e1, e2]
    exact fun z => hg.1 (euclid hp z hf.1)
  · have := pmul_len (g.take (m + 1)) (by ((try clear hj l1 lf lg); omega)) (f.take (n + 1)) (by ((try clear hj l2 lf lg); omega))
    rw [getD_len (by ((try clear lf lg); omega))]
    simp
theorem deg_ex {p : Int} : ∀ (n : Nat) (f : List Int), f.length ≤ n → ¬ Cf p f [] → ∃ m, DegP p f m
  | 0, f, hl, h => absurd (fun i => by rw [getD_len (f := f) (by ((try clear h); omega))]; simp) h
  | n + 1, f, hl, h => by
    by_cases c : f.getD n 0 % p = 0
    · have c1 : Cf p (f.take n) f := by
        cases n with
        | zero =>
            intro i
            rw [List.take_zero, List.getD_nil]
            have : f.getD i 0 % p = 0 := by
              by_cases w : i = 0
              · rw [w]; exact c
              · rw [getD_len (by ((try clear c h); omega))]; simp
            have := dvd_mul_l (-1) this
            rwa [show -1 * f.getD i 0 = 0 - f.getD i 0 by ((try clear c h hl this); omega)] at this
        | succ k =>
            refine Cf.take fun j hj => ?_
            by_cases w : j = k + 1
            · rw [w]; exact c
            · rw [getD_len (by ((try clear c h); omega))]; simp
      obtain ⟨m, hm⟩ := deg_ex n (f.take n) (by rw [List.length_take]; ((try clear c h hl); omega)) (fun z => h (c1.symm.trans z))
      exact ⟨m, c1.deg hm⟩
    · exact ⟨n, c, fun j hj => by rw [getD_len (by ((try clear c h); omega))]; simp⟩
theorem low_zero {p : Int} (hp : p ∈ primes) {k g r : List Int} {m : Nat} (hg : DegP p g m) (h : Cg p (fun x => pev k x * pev g x) (pev r)) (hr : ∀ i, m ≤ i → r.getD i 0 % p = 0) : Cf p k [] ∧ Cf p r [] := by
  have cc : Cf p (pmul k g) r := Cg.cf ((Cg.of_eq fun x => pmul_ev _ _ _).trans h)
  have hk : Cf p k [] := by
    refine Classical.byContradiction fun z => ?_
    obtain ⟨n, hn⟩ := deg_ex _ k (Nat.le_refl _) z
    exact (cc.deg (hn.mul hp hg)).1 (hr _ (by ((try clear z); omega)))
  refine ⟨hk, cc.symm.trans (Cg.cf ?_)⟩
  have := Cg.mulR (PF.of g) hk.cg
  refine (Cg.of_eq fun x => pmul_ev _ _ _).trans (this.trans (Cg.of_eq fun x => by simp [pev]))
noncomputable def Bez (p : Int) (g h : List Int) : Prop := ∃ s t : List Int, Cg p (fun x => pev s x * pev g x + pev t x * pev h x) fun _ => 1
theorem Bez.cong {p : Int} {g h g' h' : List Int} (b : Bez p g h) (hg : Cf p g' g) (hh : Cf p h' h) : Bez p g' h' := by
  obtain ⟨s, t, e⟩ := b
  exact ⟨s, t, ((Cg.mulL (PF.of s) hg.cg).add (Cg.mulL (PF.of t) hh.cg)).trans e⟩
theorem not_bez {p : Int} (hp : p ∈ primes) {g h r a c : List Int} {m : Nat} (hr : DegP p r m) (hm : 1 ≤ m) (hg : Cg p (pev g) fun x => pev a x * pev r x) (hh : Cg p (pev h) fun x => pev c x * pev r x) : ¬ Bez p g h := by
  rintro ⟨s, t, e⟩
  have p2 := primes_ge hp
  have e1 : Cg p (fun x => pev (padd (pmul s a) (pmul t c)) x * pev r x) (pev [1]) := by
    refine (Cg.of_eq fun x => ?_).trans (((Cg.mulL (PF.of s) hg).add (Cg.mulL (PF.of t) hh)).symm.trans (e.trans (Cg.of_eq fun x => by simp [pev])))
    rw [padd_ev, pmul_ev, pmul_ev]
    grind
  have := (low_zero hp hr e1 (fun i hi => by rw [getD_len (by simp; ((try clear p2); omega))]; simp)).2 0
  have h2 : (1 : Int) % p = 0 := this
  rw [Int.emod_eq_of_lt (by ((try clear h2 hm p2 this); omega)) (by ((try clear h2 hm this); omega))] at h2
  exact absurd h2 (by decide)
end Dr
namespace Dr
theorem zip_ev (q x : Int) : ∀ (f g : List Int), f.length = g.length → pev (List.zipWith (fun a b => a + q * b) f g) x = pev f x + q * pev g x
  | [], [], _ => by simp [pev]
  | a :: f, b :: g, h => by
    have := zip_ev q x f g (by simpa using h)
    simp only [List.zipWith_cons_cons, pev]
    rw [this]
    grind
  | [], _ :: _, h => by simp at h
  | _ :: _, [], h => by simp at h
structure Parts (p : Int) (N : Nat) (f g h G H : List Int) : Prop where
  lg : G.length = g.length
  lh : H.length = h.length
  rg : ∀ x, x ∈ G → 0 ≤ x ∧ x < p ^ N
  rh : ∀ x, x ∈ H → 0 ≤ x ∧ x < p ^ N
  tg : G.getLast? = some 1
  th : H.getLast? = some 1
  cg : Cf p G g
  ch : Cf p H h
  prod : Cg (p ^ N) (pev f) fun x => pev G x * pev H x
structure May (p : Int) (N : Int) (f g h : List Int) : Prop where
  n : 1 ≤ N
  lg : 2 ≤ g.length
  lh : 2 ≤ h.length
  lf : f.length + 1 = g.length + h.length
  tf : f.getLast? = some 1
  tg : g.getLast? = some 1
  th : h.getLast? = some 1
  prod : Cg p (pev f) fun x => pev g x * pev h x
theorem last_map {f : List Int} {x : Int} (φ : Int → Int) (h : f.getLast? = some x) : (f.map φ).getLast? = some (φ x) := by
  rw [List.getLast?_map, h]
  rfl
theorem Parts.start {p N : Int} {f g h : List Int} (hp : 2 ≤ p) (m : May p N f g h) : Parts p 1 f g h (g.map (· % p)) (h.map (· % p)) := by
  have one : (1 : Int) % p = 1 := Int.emod_eq_of_lt (by ((try clear hp); omega)) (by omega)
  have rng : ∀ (l : List Int) x, x ∈ l.map (· % p) → 0 ≤ x ∧ x < p ^ 1 := fun l x hx => by
    obtain ⟨y, _, rfl⟩ := List.mem_map.mp hx
    rw [Int.pow_one]
    exact ⟨Int.emod_nonneg _ (by ((try clear one); omega)), Int.emod_lt_of_pos _ (by ((try clear one); omega))⟩
  refine ⟨List.length_map .., List.length_map .., rng g, rng h, ?_, ?_, Cf.rests p g, Cf.rests p h, ?_⟩
  · have := last_map (· % p) m.tg
    rwa [one] at this
  · have := last_map (· % p) m.th
    rwa [one] at this
  · rw [Int.pow_one]
    exact m.prod.trans (Cg.mul (PF.of _) (PF.of _) (Cf.rests p g).symm.cg (Cf.rests p h).symm.cg)
theorem getLast_zip {φ : Int → Int → Int} {f g : List Int} {a b : Int} (hl : f.length = g.length) (hf : f.getLast? = some a) (hg : g.getLast? = some b) : (List.zipWith φ f g).getLast? = some (φ a b) := by
  rw [List.getLast?_eq_getElem?] at *
  rw [List.getElem?_zipWith, List.length_zipWith, ← hl, Nat.min_self, hf, hl, hg]
theorem zip_range {p : Int} {k : Nat} (hp : 2 ≤ p) {f g : List Int} (hf : ∀ x, x ∈ f → 0 ≤ x ∧ x < p ^ k) (hg : ∀ x, x ∈ g → 0 ≤ x ∧ x < p) : ∀ x, x ∈ List.zipWith (fun a b => a + p ^ k * b) f g → 0 ≤ x ∧ x < p ^ (k + 1) := fun x hx => by
  obtain ⟨i, hi, rfl⟩ := List.getElem_of_mem hx
  have hi' := hi
  rw [List.length_zipWith] at hi'
  have l1 : i < f.length := by ((try clear hp); omega)
  have l2 : i < g.length := by ((try clear hp l1); omega)
  rw [List.getElem_zipWith]
  have h1 := hf _ (List.getElem_mem l1)
  have h2 := hg _ (List.getElem_mem l2)
  have q0 := pow_pos hp k
  generalize f[i] = a at *
  generalize g[i] = b at *
  have m0 : 0 ≤ p ^ k * b := Int.mul_nonneg (by ((try clear h1 h2 hi' hp l1 l2); omega)) h2.1
  have m1 : p ^ k * b ≤ p ^ k * (p - 1) := Int.mul_le_mul_of_nonneg_left (by ((try clear h1 hi' hp l1 l2 m0 q0); omega)) (by ((try clear h1 h2 hi' hp l1 l2 m0); omega))
  rw [Int.pow_succ]
  rw [Int.mul_sub, Int.mul_one] at m1
  ((try clear h2 hi' hp l1 l2 q0); omega)
theorem Parts.step {p : Int} {k : Nat} {f g h G H m M u v : List Int} (hp : 2 ≤ p) (hk : 1 ≤ k) (P : Parts p k f g h G H) (hM : ∀ x, pev f x - pev G x * pev H x = p ^ k * pev M x) (hm : Cf p m M)
    (hu : u.length = g.length) (hv : v.length = h.length) (ru : ∀ x, x ∈ u → 0 ≤ x ∧ x < p) (rv : ∀ x, x ∈ v → 0 ≤ x ∧ x < p) (tu : u.getLast? = some 0) (tv : v.getLast? = some 0)
    (huv : Cg p (pev m) fun x => pev u x * pev h x + pev v x * pev g x) :
    Parts p (k + 1) f g h (List.zipWith (fun a b => a + p ^ k * b) G u) (List.zipWith (fun a b => a + p ^ k * b) H v) := by
  have lgu : G.length = u.length := by rw [P.lg, hu]
  have lhv : H.length = v.length := by rw [P.lh, hv]
  have dvp : p ^ k % p = 0 := by
    have := pow_dv (p := p) hk
    rwa [Int.pow_one] at this
  have cgz : ∀ {a b : List Int}, a.length = b.length → Cf p (List.zipWith (fun a b => a + p ^ k * b) a b) a := fun {a b} hl => Cg.cf (by
    refine ⟨fun x => p ^ (k - 1) * pev b x, (PF.const _).mul (PF.of b), fun x => ?_⟩
    rw [zip_ev _ _ _ _ hl]
    have e : p ^ k = p * p ^ (k - 1) := by
      rw [Int.mul_comm, ← Int.pow_succ]
      congr 1
      ((try clear dvp hl hp hu hv lgu lhv tu tv); omega)
    rw [e]
    generalize p ^ (k - 1) = A
    grind)
  refine ⟨?_, ?_, zip_range hp P.rg ru, zip_range hp P.rh rv, ?_, ?_, (cgz lgu).trans P.cg, (cgz lhv).trans P.ch, ?_⟩
  · rw [List.length_zipWith, ← lgu, Nat.min_self]
    exact P.lg
  · rw [List.length_zipWith, ← lhv, Nat.min_self]
    exact P.lh
  · rw [getLast_zip lgu P.tg tu]
    simp
  · rw [getLast_zip lhv P.th tv]
    simp
  · -- m = u h + v g by p, so M = u H + v G by p
    have e1 : Cg p (pev M) fun x => pev u x * pev H x + pev v x * pev G x :=
      hm.symm.cg.trans (huv.trans ((Cg.mulL (PF.of u) P.ch.symm.cg).add (Cg.mulL (PF.of v) P.cg.symm.cg)))
    have e2 := Cg.up (q := p ^ k) e1
    rw [← Int.pow_succ] at e2
    obtain ⟨K, hK, e⟩ := e2
    refine ⟨fun x => K x - p ^ (k - 1) * (pev u x * pev v x), hK.sub ((PF.const _).mul ((PF.of u).mul (PF.of v))), fun x => ?_⟩
    have e3 : p ^ k * pev M x - p ^ k * (pev u x * pev H x + pev v x * pev G x) = p ^ (k + 1) * K x := e x
    rw [← hM] at e3
    show pev f x - pev (List.zipWith (fun a b => a + p ^ k * b) G u) x * pev (List.zipWith (fun a b => a + p ^ k * b) H v) x = p ^ (k + 1) * (K x - p ^ (k - 1) * (pev u x * pev v x))
    rw [zip_ev _ _ _ _ lgu, zip_ev _ _ _ _ lhv]
    have e4 : p ^ (k + 1) * p ^ (k - 1) = p ^ k * p ^ k := by rw [← pow_add', ← pow_add']; congr 1; ((try clear dvp e3 hp hu hv lgu lhv tu tv); omega)
    generalize K x = y at *
    generalize p ^ (k + 1) = A at *
    generalize p ^ (k - 1) = B at *
    generalize p ^ k = C at *
    grind
end Dr
namespace Dr
structure Divd (p : Int) (f g : List Int) (m : Nat) (Q r : List Int) : Prop where
  lq : Q.length = f.length - m
  lr : r.length = min m f.length
  rq : ∀ x, x ∈ Q → 0 ≤ x ∧ x < p
  rr : ∀ x, x ∈ r → 0 ≤ x ∧ x < p
  eq : Cg p (pev f) fun x => pev Q x * pev g x + pev r x
theorem Divd.top {p : Int} {f g Q r : List Int} {m : Nat} (hp : p ∈ primes) (h : Divd p f g m Q r) (hg : DegP p g m) (hl : m < f.length) (ht : f.getD (f.length - 1) 0 % p = 0) : Q.getLast? = some 0 := by
  have lq := h.lq
  have lr := h.lr
  have l1 : Q.length - 1 < Q.length := by ((try clear ht lr); omega)
  rw [List.getLast?_eq_getElem?, List.getElem?_eq_getElem l1]
  have rg := h.rq _ (List.getElem_mem l1)
  have e0 : Q.getD (Q.length - 1) 0 = Q[Q.length - 1] := by rw [List.getD_eq_getElem?_getD, List.getElem?_eq_getElem l1]; rfl
  have z : Q.getD (Q.length - 1) 0 % p = 0 := by
    refine Decidable.byContradiction fun c => ?_
    have dq : DegP p Q (Q.length - 1) := ⟨c, fun j hj => by rw [getD_len (by ((try clear e0 hl ht lr rg); omega))]; simp⟩
    have dm := dq.mul hp hg
    have cc : Cf p f (padd (pmul Q g) r) := Cg.cf (h.eq.trans (Cg.of_eq fun x => by rw [padd_ev, pmul_ev]))
    have := cc (f.length - 1)
    rw [padd_getD, getD_len (f := r) (by ((try clear e0 ht rg this); omega)), Int.add_zero] at this
    apply dm.1
    rw [show Q.length - 1 + m = f.length - 1 by ((try clear e0 ht lr rg this); omega)]
    have := dvd_sub_of ht this
    rwa [show f.getD (f.length - 1) 0 - (f.getD (f.length - 1) 0 - (pmul Q g).getD (f.length - 1) 0) = (pmul Q g).getD (f.length - 1) 0 by ((try clear c e0 hl ht lq lr rg this); omega)] at this
  rw [e0, Int.emod_eq_of_lt rg.1 rg.2] at z
  rw [z]
structure Dv (p : Int) (f g : List Int) (m : Nat) (place : Int) (Q R : List Int) : Prop where
  lq : Q.length = f.length - m
  lr : R.length = f.length
  rq : ∀ x, x ∈ Q → 0 ≤ x ∧ x < p
  rr : ∀ x, x ∈ R → 0 ≤ x ∧ x < p
  zq : ∀ i : Nat, (i : Int) ≤ place → Q.getD i 0 = 0
  zr : ∀ i : Nat, place + m < (i : Int) → R.getD i 0 = 0
  eq : Cg p (pev f) fun x => pev Q x * pev g x + pev R x
theorem Dv.start {p : Int} {f g : List Int} {m : Nat} (hp : 2 ≤ p) : Dv p f g m ((f.length : Int) - 1 - m) (List.replicate (f.length - m) 0) (f.map (· % p)) := by
  refine ⟨by simp, by simp, fun x hx => ?_, fun x hx => ?_, fun i _ => ?_, fun i hi => getD_len (by rw [List.length_map]; ((try clear hp); omega)), ?_⟩
  · rw [(List.mem_replicate.mp hx).2]; omega
  · obtain ⟨y, _, rfl⟩ := List.mem_map.mp hx
    exact ⟨Int.emod_nonneg _ (by omega), Int.emod_lt_of_pos _ (by omega)⟩
  · have := getD_pad [] (f.length - m) i
    simpa using this
  · exact (Cf.rests p f).symm.cg.trans (Cg.of_eq fun x => by rw [pev_zeros]; ((try clear hp); omega))
structure Dw (p : Int) (g : List Int) (m pl : Nat) (t : Int) (R : List Int) (j : Nat) (S : List Int) : Prop where
  len : S.length = R.length
  rr : ∀ x, x ∈ S → 0 ≤ x ∧ x < p
  keep : ∀ i, pl + j ≤ i → S.getD i 0 = R.getD i 0
  top : m < j → S.getD (pl + m) 0 = 0
  eq : Cg p (pev S) fun x => pev R x - t * x ^ pl * pev (g.take j) x
theorem PF.pow (n : Nat) : PF fun x => x ^ n := by
  refine ⟨List.replicate n 0 ++ [1], fun x => ?_⟩
  rw [pev_append, pev_zeros, List.length_replicate]
  simp [pev]
theorem Dw.start {p t : Int} {g R : List Int} {m pl : Nat} (hR : ∀ x, x ∈ R → 0 ≤ x ∧ x < p) : Dw p g m pl t R 0 R := by
  refine ⟨rfl, hR, fun i _ => rfl, fun h => by omega, Cg.of_eq fun x => ?_⟩
  simp [pev]
theorem getD_set {f : List Int} {k i : Nat} {v : Int} (hk : k < f.length) : (f.set k v).getD i 0 = if i = k then v else f.getD i 0 := by
  rw [List.getD_eq_getElem?_getD, List.getElem?_set]
  split
  · rename_i c
    subst c
    simp [hk]
  · rename_i c
    rw [if_neg (fun z => c z.symm), List.getD_eq_getElem?_getD]
theorem mem_set_or {f : List Int} {k : Nat} {v x : Int} (h : x ∈ f.set k v) : x ∈ f ∨ x = v := by
  rcases List.mem_or_eq_of_mem_set h with z | z
  · exact .inl z
  · exact .inr z
theorem Dw.step {p t c b : Int} {g R S : List Int} {m pl j : Nat} (hp : 2 ≤ p) (h : Dw p g m pl t R j S) (hc : S[pl + j]? = some c) (hb : g[j]? = some b) (hj : j ≤ m) (ht : j = m → (R.getD (pl + m) 0 - t * b) % p = 0) : Dw p g m pl t R (j + 1) (S.set (pl + j) ((c - t * b) % p)) := by
  have hl := (List.getElem?_eq_some_iff.mp hc).1
  have ec : S.getD (pl + j) 0 = c := by rw [List.getD_eq_getElem?_getD, hc]; rfl
  refine ⟨by rw [List.length_set]; exact h.len, fun x hx => ?_, fun i hi => ?_, fun hm => ?_, ?_⟩
  · rcases mem_set_or hx with z | z
    · exact h.rr x z
    · rw [z]
      exact ⟨Int.emod_nonneg _ (by ((try clear ec hb hc hj hl z); omega)), Int.emod_lt_of_pos _ (by ((try clear ec hb hc hj hl z); omega))⟩
  · rw [getD_set hl, if_neg (by ((try clear ec hb hc hj hl hp); omega))]
    exact h.keep i (by ((try clear ec hb hc hj hl hp); omega))
  · have e : j = m := by ((try clear ec hb hc hl hp); omega)
    subst e
    rw [getD_set hl, if_pos rfl, ← ec, h.keep _ (Nat.le_refl _)]
    exact ht rfl
  · have e1 : ∀ x, pev (S.set (pl + j) ((c - t * b) % p)) x = pev S x + ((c - t * b) % p - c) * x ^ (pl + j) := fun x => by
      have := pev_set x ((c - t * b) % p - c) S (pl + j) c hc
      rwa [show c + ((c - t * b) % p - c) = (c - t * b) % p by ((try clear ec hb hc hj hl hp this); omega)] at this
    obtain ⟨k, ek⟩ := Int.dvd_of_emod_eq_zero (rest_sub p (c - t * b))
    obtain ⟨K, hK, e⟩ := h.eq
    refine ⟨fun x => K x + k * x ^ (pl + j), hK.add ((PF.const k).mul (PF.pow _)), fun x => ?_⟩
    have e2 : pev S x - (pev R x - t * x ^ pl * pev (g.take j) x) = p * K x := e x
    show pev (S.set (pl + j) ((c - t * b) % p)) x - (pev R x - t * x ^ pl * pev (g.take (j + 1)) x) = p * (K x + k * x ^ (pl + j))
    rw [e1, pev_take_succ hb]
    have e3 : x ^ (pl + j) = x ^ pl * x ^ j := pow_add' x pl j
    generalize (c - t * b) % p = w at *
    generalize K x = y at *
    rw [e3]
    generalize x ^ pl = A at *
    generalize x ^ j = B at *
    grind
theorem Dv.step {p t : Int} {f g Q R S : List Int} {m pl : Nat} (h : Dv p f g m (pl : Int) Q R) (hl : pl + m < f.length) (hg : ∀ x, pev (g.take (m + 1)) x = pev g x) (ht : 0 ≤ t ∧ t < p) (hS : Dw p g m pl t R (m + 1) S) : Dv p f g m ((pl : Int) - 1) (Q.set pl t) S := by
  have lq := h.lq
  have hpl : pl < Q.length := by ((try clear ht); omega)
  have q0 : Q[pl]? = some 0 := by
    have := h.zq pl (by ((try clear hl hpl ht lq); omega))
    rw [List.getD_eq_getElem?_getD, List.getElem?_eq_getElem hpl] at this
    rw [List.getElem?_eq_getElem hpl]
    exact congrArg some this
  refine ⟨by rw [List.length_set]; exact lq, hS.len.trans h.lr, fun x hx => ?_, hS.rr, fun i hi => ?_, fun i hi => ?_, ?_⟩
  · rcases mem_set_or hx with z | z
    · exact h.rq x z
    · rw [z]; exact ht
  · rw [getD_set hpl, if_neg (by ((try clear hl hpl ht lq q0); omega))]
    exact h.zq i (by ((try clear hl hpl ht lq q0); omega))
  · by_cases c : i = pl + m
    · rw [c]; exact hS.top (by ((try clear c hi hl hpl ht lq q0); omega))
    · rw [hS.keep i (by ((try clear hl hpl ht lq q0); omega))]
      exact h.zr i (by ((try clear hl hpl ht lq q0); omega))
  · have e1 : ∀ x, pev (Q.set pl t) x = pev Q x + t * x ^ pl := fun x => by
      have := pev_set x t Q pl 0 q0
      rwa [Int.zero_add] at this
    refine h.eq.trans ((Cg.of_eq fun x => ?_).trans (Cg.add (Cg.refl fun x => pev (Q.set pl t) x * pev g x) hS.eq.symm))
    rw [e1, hg]
    generalize x ^ pl = A
    grind
theorem Dv.done {p : Int} {f g Q R : List Int} {m : Nat} {place : Int} (h : Dv p f g m place Q R) (hpl2 : place = -1 ∨ f.length ≤ m) : Divd p f g m Q (R.take m) := by
  refine ⟨h.lq, by rw [List.length_take, h.lr], h.rq, fun x hx => h.rr x (List.mem_of_mem_take hx), h.eq.trans (Cg.add (Cg.refl _) (Cg.of_eq fun x => ?_))⟩
  by_cases c : f.length ≤ m
  · rw [List.take_of_length_le (by rw [h.lr]; exact c)]
  · have hp1 : place = -1 := by rcases hpl2 with z | z <;> omega
    have e : R = R.take m ++ List.replicate (R.length - m) 0 := by
      have l0 := h.lr
      refine List.ext_getElem (by rw [List.length_append, List.length_take, List.length_replicate]; ((try clear hp1 hpl2); omega)) fun i h1 h2 => ?_
      by_cases ci : i < m
      · rw [List.getElem_append_left (by rw [List.length_take]; ((try clear h1 h2 hp1 hpl2); omega)), List.getElem_take]
      · rw [List.getElem_append_right (by rw [List.length_take]; ((try clear h1 h2 hp1 hpl2); omega)), List.getElem_replicate]
        have := h.zr i (by ((try clear c h1 h2 hpl2 l0); omega))
        rwa [List.getD_eq_getElem?_getD, List.getElem?_eq_getElem h1] at this
    conv => lhs; rw [e]
    exact pev_pad _ _ _
noncomputable def Gen (p : Int) (a b : List Int) (F : Int → Int) : Prop := ∃ s t : List Int, Cg p F fun x => pev s x * pev a x + pev t x * pev b x
theorem Gen.left (p : Int) (a b : List Int) : Gen p a b (pev a) := ⟨[1], [], Cg.of_eq fun x => by simp [pev]⟩
theorem Gen.right (p : Int) (a b : List Int) : Gen p a b (pev b) := ⟨[], [1], Cg.of_eq fun x => by simp [pev]⟩
theorem Gen.swap {p : Int} {a b : List Int} {F : Int → Int} (h : Gen p a b F) : Gen p b a F := by
  obtain ⟨s, t, e⟩ := h
  exact ⟨t, s, e.trans (Cg.of_eq fun x => Int.add_comm _ _)⟩
theorem Gen.step {p : Int} {a b Q r : List Int} {F : Int → Int} (e : Cg p (pev a) fun x => pev Q x * pev b x + pev r x) (h : Gen p a b F) : Gen p b r F := by
  obtain ⟨s, t, c⟩ := h
  refine ⟨padd (pmul s Q) t, s, c.trans (((Cg.mulL (PF.of s) e).add (Cg.refl fun x => pev t x * pev b x)).trans (Cg.of_eq fun x => ?_))⟩
  rw [padd_ev, pmul_ev]
  grind
theorem Gen.back {p : Int} {g h a b Q r : List Int} (e : Cg p (pev a) fun x => pev Q x * pev b x + pev r x) (ha : Gen p g h (pev a)) (hb : Gen p g h (pev b)) : Gen p g h (pev r) := by
  obtain ⟨s, t, c⟩ := ha
  obtain ⟨s', t', c'⟩ := hb
  refine ⟨padd s ((pmul Q s').map (-1 * ·)), padd t ((pmul Q t').map (-1 * ·)), ?_⟩
  have h1 : Cg p (pev r) (fun x => pev a x - pev Q x * pev b x) := by
    have := e.sub (Cg.refl (q := p) fun x => pev Q x * pev b x)
    exact ((this.trans (Cg.of_eq fun x => by omega : Cg p _ (pev r)))).symm
  refine h1.trans ((c.sub (Cg.mulL (PF.of Q) c')).trans (Cg.of_eq fun x => ?_))
  rw [padd_ev, padd_ev, pev_map, pev_map, pmul_ev, pmul_ev]
  grind
structure Eu (p : Int) (g h a b : List Int) : Prop where
  g1 : Gen p a b (pev g)
  h1 : Gen p a b (pev h)
  a1 : Gen p g h (pev a)
  b1 : Gen p g h (pev b)
theorem Eu.start (p : Int) (g h : List Int) : Eu p g h g h := ⟨Gen.left .., Gen.right .., Gen.left .., Gen.right ..⟩
theorem Eu.swap {p : Int} {g h a b : List Int} (e : Eu p g h a b) : Eu p g h b a := ⟨e.g1.swap, e.h1.swap, e.b1, e.a1⟩
theorem Eu.step {p : Int} {g h a b Q r : List Int} (u : Eu p g h a b) (e : Cg p (pev a) fun x => pev Q x * pev b x + pev r x) : Eu p g h b r :=
  ⟨u.g1.step e, u.h1.step e, u.b1, Gen.back e u.a1 u.b1⟩
theorem Eu.no {p : Int} (hp : p ∈ primes) {g h a b : List Int} {m : Nat} (u : Eu p g h a b) (hb : Cf p b []) (ha : DegP p a m) (hm : 1 ≤ m) : ¬ Bez p g h := by
  have one : ∀ {F : Int → Int}, Gen p a b F → ∃ s : List Int, Cg p F fun x => pev s x * pev a x := fun {F} ⟨s, t, c⟩ => ⟨s, c.trans (((Cg.refl fun x => pev s x * pev a x).add (Cg.mulL (PF.of t) hb.cg)).trans (Cg.of_eq fun x => by simp [pev]))⟩
  obtain ⟨s, c1⟩ := one u.g1
  obtain ⟨t, c2⟩ := one u.h1
  exact not_bez hp ha hm c1 c2
noncomputable def Inv (p : Int) (g h t : List Int) : Prop := ∃ s : List Int, Cg p (fun x => pev t x * pev h x + pev s x * pev g x) fun _ => 1
theorem Inv.bez {p : Int} {g h t : List Int} (i : Inv p g h t) : Bez p g h := by
  obtain ⟨s, c⟩ := i
  exact ⟨s, t, (Cg.of_eq fun x => Int.add_comm _ _).trans c⟩
noncomputable def Row (p : Int) (g h r t : List Int) : Prop := ∃ s : List Int, Cg p (pev r) fun x => pev t x * pev h x + pev s x * pev g x
theorem Row.first (p : Int) (g h : List Int) : Row p g h g [0] := ⟨[1], Cg.of_eq fun x => by simp [pev]⟩
theorem Row.second {p : Int} {g h Q r : List Int} (e : Cg p (pev h) fun x => pev Q x * pev g x + pev r x) : Row p g h r [1] := by
  refine ⟨Q.map (-1 * ·), ?_⟩
  have := e.sub (Cg.refl (q := p) fun x => pev Q x * pev g x)
  refine (this.trans (Cg.of_eq fun x => by omega : Cg p _ (pev r))).symm.trans (Cg.of_eq fun x => ?_)
  rw [pev_map]
  simp [pev]
  grind
theorem Row.next {p : Int} {g h r0 t0 r1 t1 Q r2 t2 : List Int} (a : Row p g h r0 t0) (b : Row p g h r1 t1) (e : Cg p (pev r0) fun x => pev Q x * pev r1 x + pev r2 x) (ht : Cg p (pev t2) fun x => pev t0 x - pev Q x * pev t1 x) : Row p g h r2 t2 := by
  obtain ⟨s, c⟩ := a
  obtain ⟨s', c'⟩ := b
  refine ⟨padd s ((pmul Q s').map (-1 * ·)), ?_⟩
  have h1 : Cg p (pev r2) (fun x => pev r0 x - pev Q x * pev r1 x) := by
    have := e.sub (Cg.refl (q := p) fun x => pev Q x * pev r1 x)
    exact ((this.trans (Cg.of_eq fun x => by omega : Cg p _ (pev r2)))).symm
  refine h1.trans ((c.sub (Cg.mulL (PF.of Q) c')).trans ?_)
  refine Cg.trans ?_ (Cg.add (Cg.mulR (PF.of h) ht.symm) (Cg.refl fun x => pev (padd s ((pmul Q s').map (-1 * ·))) x * pev g x))
  refine Cg.of_eq fun x => ?_
  rw [padd_ev, pev_map, pmul_ev]
  grind
theorem Row.inv {p y : Int} {g h r t t' : List Int} (a : Row p g h r t) (hr : Cf p r [r.getD 0 0]) (hy : (r.getD 0 0 * y - 1) % p = 0) (ht : Cg p (pev t') fun x => pev t x * y) : Inv p g h t' := by
  obtain ⟨s, c⟩ := a
  refine ⟨s.map (y * ·), ?_⟩
  have c2 := Cg.mulL (PF.const y) (hr.symm.cg.trans c)
  refine (Cg.add (Cg.mulR (PF.of h) ht) (Cg.refl fun x => pev (s.map (y * ·)) x * pev g x)).trans (((Cg.of_eq fun x => ?_).trans c2.symm).trans ?_)
  · rw [pev_map]
    grind
  · obtain ⟨k, ek⟩ := Int.dvd_of_emod_eq_zero hy
    refine ⟨fun _ => k, PF.const _, fun x => ?_⟩
    simp only [pev, Int.mul_zero, Int.add_zero]
    rw [Int.mul_comm y]
    exact ek
theorem missing {p : Int} (hp : p ∈ primes) {g h t m A Q u D v r : List Int} {n : Nat} (i : Inv p g h t) (hg : DegP p g n) (hA : ∀ x, pev A x = pev m x * pev t x) (h1 : Cg p (pev A) fun x => pev Q x * pev g x + pev u x) (hD : ∀ x, pev D x = pev m x - pev u x * pev h x) (h2 : Cg p (pev D) fun x => pev v x * pev g x + pev r x) (hr : r.length ≤ n) : Cg p (pev m) fun x => pev u x * pev h x + pev v x * pev g x := by
  obtain ⟨s, c⟩ := i
  have e1 : Cg p (pev D) fun x => (pev m x * pev s x + pev Q x * pev h x) * pev g x := by
    have a1 : Cg p (fun x => pev u x * pev h x) (fun x => (pev A x - pev Q x * pev g x) * pev h x) := Cg.mulR (PF.of h) (by
      have := h1.sub (Cg.refl (q := p) fun x => pev Q x * pev g x)
      exact ((this.trans (Cg.of_eq fun x => by ((try clear hr); omega) : Cg p _ (pev u)))).symm)
    have a2 := Cg.mulL (PF.of m) c
    refine (Cg.of_eq hD).trans (((Cg.refl (pev m)).sub a1).trans ?_)
    have a3 := (a2.symm.sub (Cg.refl (q := p) fun x => (pev A x - pev Q x * pev g x) * pev h x))
    refine ((Cg.of_eq fun x => ?_).trans a3).trans (Cg.of_eq fun x => ?_)
    · rw [Int.mul_one]
    · rw [hA]
      grind
  have e2 : Cg p (fun x => pev (padd (padd (pmul m s) (pmul Q h)) (v.map (-1 * ·))) x * pev g x) (pev r) := by
    have := (e1.symm.trans h2).sub (Cg.refl (q := p) fun x => pev v x * pev g x)
    refine ((Cg.of_eq fun x => ?_).trans this).trans (Cg.of_eq fun x => by ((try clear hr); omega))
    rw [padd_ev, padd_ev, pmul_ev, pmul_ev, pev_map]
    grind
  have z := (low_zero hp hg e2 (fun i hi => by rw [getD_len (by omega)]; simp)).2
  have h3 := h2.trans ((Cg.refl (q := p) fun x => pev v x * pev g x).add z.cg)
  have h4 := (Cg.refl (q := p) fun x => pev u x * pev h x).add h3
  refine ((Cg.of_eq fun x => ?_).trans h4).trans (Cg.of_eq fun x => by simp [pev])
  rw [hD]
  ((try clear hr); omega)
end Dr
namespace Dr
theorem div_lin (w : Int) : ∀ h : List Int, ∃ q : List Int, ∀ x, pev h x = (x - w) * pev q x + pev h w
  | [] => ⟨[], fun x => by simp [pev]⟩
  | c :: t => by
    obtain ⟨q, hq⟩ := div_lin w t
    refine ⟨pev t w :: q, fun x => ?_⟩
    have := hq x
    simp only [pev]
    rw [this]
    generalize pev t w = A at *
    generalize pev q x = B at *
    grind
theorem bez_lin {p w : Int} (hp : p ∈ primes) {h : List Int} (hw : pev h w % p ≠ 0) : Bez p [0 - w, 1] h := by
  obtain ⟨q, hq⟩ := div_lin w h
  obtain ⟨y, _, _, hy⟩ := inv_ex hp hw
  refine ⟨q.map (-y * ·), [y], fun _ => pev h w * y / p, PF.const _, fun x => ?_⟩
  have e := hq x
  have d := Int.mul_ediv_add_emod (pev h w * y) p
  rw [hy] at d
  show pev (q.map (-y * ·)) x * pev [0 - w, 1] x + pev [y] x * pev h x - 1 = p * (pev h w * y / p)
  rw [pev_map, e]
  simp only [pev]
  generalize pev h w = A at *
  generalize pev q x = B at *
  generalize A * y / p = C at *
  grind
structure Good (p : Int) (f g h : List Int) : Prop where
  may : ∀ N, 1 ≤ N → May p N f g h
  bez : Bez p g h
  lg : g.length = 2
  lh : 2 ≤ h.length ∧ h.length ≤ 3
theorem one_mod {p : Int} (hp : p ∈ primes) : (1 : Int) % p ≠ 0 := by
  have := primes_ge hp
  rw [Int.emod_eq_of_lt (by ((try clear this); omega)) (by omega)]
  decide
theorem Good.put {p d v : Int} {f g h : List Int} {k : Nat} (G : Good p f g h) (hk : f[k]? = some v) (hd : d % p ≠ 0) (N : Int) : ¬ May p N (f.set k (v + d)) g h := fun m => by
  have kl := (List.getElem?_eq_some_iff.mp hk).1
  have c : Cf p (f.set k (v + d)) f := Cg.cf (m.prod.trans (G.may 1 (by decide)).prod.symm)
  have := c k
  rw [getD_set kl, if_pos rfl, List.getD_eq_getElem?_getD, hk] at this
  have e : v + d - (some v).getD 0 = d := by show v + d - v = d; ((try clear hd hk kl this); omega)
  rw [e] at this
  exact hd this
theorem Good.first {p v : Int} {f g h : List Int} (hp : p ∈ primes) (G : Good p f g h) (hk : h[0]? = some v) (N : Int) : ¬ May p N f g (h.set 0 (v + 1)) := fun m => by
  have c : Cg p (pev g) fun _ => 0 := by
    have := (m.prod.symm.trans (G.may 1 (by decide)).prod)
    obtain ⟨K, hK, e⟩ := this
    refine ⟨K, hK, fun x => ?_⟩
    have e : pev g x * pev (h.set 0 (v + 1)) x - pev g x * pev h x = p * K x := e x
    rw [pev_set x 1 h 0 v hk] at e
    show pev g x - 0 = p * K x
    rw [Int.pow_zero] at e
    generalize pev g x = A at *
    generalize pev h x = B at *
    generalize K x = C at *
    grind
  have c2 : Cf p g [] := Cg.cf (c.trans (Cg.of_eq fun x => by simp [pev]))
  have t := (G.may 1 (by decide)).tg
  have := c2 1
  rw [List.getLast?_eq_getElem?, G.lg] at t
  rw [List.getD_eq_getElem?_getD, t] at this
  exact one_mod hp this
theorem both_bad {p a : Int} (hp : p ∈ primes) {g h g' h' : List Int} (hg : IsProd g [0 - a, 1] g') (hh : IsProd h [0 - a, 1] h') : ¬ Bez p g' h' := by
  refine not_bez hp (r := [0 - a, 1]) (m := 1) ⟨one_mod hp, fun j hj => ?_⟩ (by decide) (Cg.of_eq hg.ev) (Cg.of_eq hh.ev)
  rw [getD_len (by simp; omega)]
  simp
theorem last_set {f : List Int} {v : Int} {k : Nat} (hk : k + 1 = f.length) : (f.set k v).getLast? = some v := by
  rw [List.getLast?_eq_getElem?, List.length_set, show f.length - 1 = k by omega, List.getElem?_set_self (by omega)]
theorem Good.two {p w : Int} {f g h : List Int} (hp : p ∈ primes) (hg : g = [0 - w, 1]) (hh : pev h w % p ≠ 0) (lh : 2 ≤ h.length ∧ h.length ≤ 3) (th : h.getLast? = some 1) (hf : IsProd g h f) {v d : Int} (hv : f[0]? = some v) (hd : d % p = 0) : Good p (f.set 0 (v + d)) g h := by
  have lg : g.length = 2 := by rw [hg]; rfl
  have lf := hf.len
  have tf : f.getLast? = some 1 := by
    have e2 : f = pmul g h := hf.uniq (pmul_prod (by ((try clear hd hg hh hv lf lh th); omega)) (by ((try clear hd hg hh hv th); omega)))
    have t := pmul_top g h 1 (h.length - 1) (by ((try clear e2 hd hg hh hv lf lh th); omega)) (by ((try clear e2 hd hg hh hv th); omega))
    have eh : h.getD (h.length - 1) 0 = 1 := by
      rw [List.getLast?_eq_getElem?] at th
      rw [List.getD_eq_getElem?_getD, th]
      rfl
    have eg : g.getD 1 0 = 1 := by rw [hg]; rfl
    rw [eh, eg, ← e2, show 1 + (h.length - 1) = f.length - 1 by ((try clear e2 eg eh hd hg hh hv t th); omega), List.getD_eq_getElem?_getD] at t
    rw [List.getLast?_eq_getElem?]
    cases z : f[f.length - 1]? with
    | none => rw [z] at t; simp at t
    | some v => rw [z] at t; exact congrArg some t
  refine ⟨fun N hN => ⟨hN, by ((try clear hN hd hg hh hv lf lh tf th); omega), by ((try clear hN hd hg hh hv tf th); omega), by rw [List.length_set]; ((try clear hN hd hg hh hv lg lh tf th); omega), ?_, by rw [hg]; rfl, th, ?_⟩, ?_, lg, lh⟩
  · rw [List.getLast?_eq_getElem?, List.length_set, List.getElem?_set_ne (by ((try clear hN hd hg hh hv tf th); omega)), ← List.getLast?_eq_getElem?]
    exact tf
  · obtain ⟨k, ek⟩ := Int.dvd_of_emod_eq_zero hd
    refine ⟨fun _ => k, PF.const k, fun x => ?_⟩
    show pev (f.set 0 (v + d)) x - pev g x * pev h x = p * k
    rw [pev_set x d f 0 v hv, hf.ev, Int.pow_zero, ek]
    ((try clear ek hN hd hg hh hv lf lg lh tf th); omega)
  · rw [hg]
    exact bez_lin hp hh
end Dr
namespace L2
open PySem PySem.Spec PyProof.Rows
section
variable {X : Cx}
theorem op_mulW : OpR X (binaryOp .Mult) (rI IntMulOk fun i j => .int (i * j)) := opI fun _ _ _ _ _ _ _ hc q => mul_int q hc
noncomputable def CDivW (_ j : Int) : Prop := 0 < j ∧ j.natAbs.log2 < 9000
theorem op_fdivW : OpR X (binaryOp .FloorDiv) (rI CDivW fun i j => .int (i / j)) := opI fun i j _ _ _ _ _ hc q => by
  have h1 : (0 : Int) < j := hc.1
  exact floordiv_int (by omega) (by rw [Int.fdiv_eq_ediv_of_nonneg i (by omega)]; exact q) (.inl (PyProof.noPylong_of_log2 hc.2))
end
noncomputable def Itc (a c : Int) (n : Nat) : It := ⟨fun i _ => i < n, fun i H x H' => H' = H ∧ x = .int (a + i * c), fun i _ => n ≤ i⟩
theorem turn_rangeC {P : Program} {w : World} {K : PySem.W.Frag} {tg : Expr} (it : Addr) (lo c : Int) (n : Nat) : Turn P w K tg (Itc lo c n) [it] it (fun i h => IsRangeIter h it (lo + (i : Nat) * c) ((n : Int) - (i : Nat)) c) where
  mem := by simp
  obj := fun i h st b hb => by
    have e : b = it := by simpa using hb
    subst e
    exact ⟨_, st, fun v z => by
      have z' : Data.fields _ = Data.cell v := z
      cases z'⟩
  keep := fun i h h' st k => k it (by simp) _ st
  item := by
    intro X hP hw hK hc i pins s σ H E I hf st hg
    subst hP hw hK
    obtain ⟨f0, f1, f2, f3, f4, f5⟩ := hf it (by simp)
    have W := Walks.range (prog := X.prog) (w := X.w) (I.ok.hd hc) it lo c n
    refine W.item i s _ _ hg st fun v h' tk hv st' kk => ?_
    obtain ⟨t, rfl⟩ := hv
    have I1 : Inv X pins σ H { s with heap := h', toks := tk } := I.turned (fun b o hb e => kk b o (by simpa using hb) e) f0 f1 f3 f4 f5
    exact ⟨_, rfl, go_of (s := { s with heap := h', toks := tk }) (n := "range_iterator") st' rfl rfl (by decide) ⟨.int (lo + i * c), H, I1, ⟨t, rfl⟩, ⟨rfl, rfl⟩, st', fun b hb => (hf b hb).1⟩⟩
  done := by
    intro X hP hw hK hc i pins s σ H E I hf st hg
    subst hP hw hK
    obtain ⟨f0, f1, f2, f3, f4, f5⟩ := hf it (by simp)
    exact wpAny_pyNext_range_end (I.ok.hd hc) st (by have : n ≤ i := hg; ((try clear f0 f1 f2 f3 hc); omega)) fun h' eb => ⟨rfl, I.turned (t' := s.toks) (fun b o hb e => eb b o hb e) f0 f1 f3 f4 f5⟩
  self := fun _ _ _ _ _ st h => wpAny_pyIter_rangeiter st h
section
variable {X : Cx} {tg : Expr}
noncomputable def turns (a b c : Int) : Nat := if a < b then ((b - a - 1) / c + 1).toNat else 0
theorem rangeSize_pos {a b c : Int} (hc : 0 < c) : Builtin.Range.rangeSize a b c = ((turns a b c : Nat) : Int) := by
  unfold Builtin.Range.rangeSize turns
  rw [if_pos hc]
  split
  · have := Int.ediv_nonneg (show 0 ≤ b - a - 1 by ((try clear hc); omega)) (show 0 ≤ c by omega)
    ((try clear hc); omega)
  · rfl
theorem small_c {a b c : Int} (ha : -(2 ^ 60) ≤ a) (ha' : a < 2 ^ 60) (hb : -(2 ^ 60) ≤ b) (hb' : b < 2 ^ 60) (hc : 0 < c) (hc' : c < 1000) : Builtin.Range.small a b c = true := by
  have h1 : turns a b c < 2 ^ 62 := by
    unfold turns
    split
    · have := Int.ediv_le_self (a := b - a - 1) c (by ((try clear ha ha' hb hb' hc hc'); omega))
      ((try clear hc hc'); omega)
    · decide
  have h2 : ((turns a b c : Nat) : Int) * c ≤ 2 ^ 61 + 2000 := by
    unfold turns
    split
    · have h0 := Int.ediv_nonneg (show 0 ≤ b - a - 1 by ((try clear h1 ha ha' hb hb' hc hc'); omega)) (show 0 ≤ c by ((try clear h1 ha ha' hb hb'); omega))
      rw [Int.toNat_of_nonneg (by ((try clear h1 ha ha' hb hb' hc hc'); omega)), Int.add_mul, Int.one_mul]
      have := Int.ediv_mul_le (b - a - 1) (show c ≠ 0 by ((try clear h0 h1 ha ha' hb hb'); omega))
      ((try clear h0 h1); omega)
    · simp
  unfold Builtin.Range.small
  rw [rangeSize_pos hc]
  simp only [Builtin.Range.rangeFitsLong, Bool.and_eq_true, Bool.or_eq_true, decide_eq_true_eq, beq_iff_eq, show c > 0 from hc, if_true]
  ((try clear h2); omega)
theorem range_itC {pins : List (Addr × Obj)} {σ : St} {H : Hp} {s : Shared} {R : It → Hp → Prop} {E : Value → Shared → Prop} {lo hi c : Int} {t u v : Tok} {tk : Nat} (I : Inv X pins σ H s) (h1 : -(2 ^ 60) ≤ lo) (h2 : lo < 2 ^ 60) (h3 : -(2 ^ 60) ≤ hi) (h4 : hi < 2 ^ 60) (h5 : 0 < c) (h6 : c < 1000)
    (q : R (Itc lo c (turns lo hi c)) H) : wpAny (model X.prog X.w) X.A (pyIter (.ref s.heap.objs.size)) (PIE X pins σ tg R) E { s with heap := s.heap.push { cls := .type "range", data := .fields #[.int lo t, .int hi u, .int c v] }, toks := tk } := by
  refine wpAny_pyIter_range (IsRange.new ..) (small_c h1 h2 h3 h4 h5 h6) ?_
  have I1 : Inv X pins σ H { s with heap := s.heap.push { cls := .type "range", data := .fields #[.int lo t, .int hi u, .int c v] }, toks := tk } := I.kept fun b o e => Heap.get?_push_of_some _ e
  refine ⟨(s.heap.push { cls := .type "range", data := .fields #[.int lo t, .int hi u, .int c v] }).objs.size, [(s.heap.push { cls := .type "range", data := .fields #[.int lo t, .int hi u, .int c v] }).objs.size], _, _, H, rfl,
    I1.kept (t' := tk) fun b o e => Heap.get?_push_of_some _ e, turn_rangeC _ lo c (turns lo hi c), ?_, fun b hb => ?_, q⟩
  · have e1 : lo + ((0 : Nat) : Int) * c = lo := by simp
    have e2 : ((turns lo hi c : Nat) : Int) - ((0 : Nat) : Int) = Builtin.Range.rangeSize lo hi c := by rw [rangeSize_pos h5]; simp
    show IsRangeIter _ _ (lo + ((0 : Nat) : Int) * c) (((turns lo hi c : Nat) : Int) - ((0 : Nat) : Int)) c
    rw [e1, e2]
    exact Heap.get?_push_size _ rfl
  · have e : b = (s.heap.push { cls := .type "range", data := .fields #[.int lo t, .int hi u, .int c v] }).objs.size := by simpa using hb
    subst e
    exact I1.fpOk (Nat.le_refl _) (I1.hok.fresh (Nat.le_refl _))
noncomputable def iRng3 (ta : TA) : TI := fun σ H R => ta σ H fun vs H1 => ∃ i j c : Int, vs = [.int i, .int j, .int c] ∧ (-(2 ^ 60) ≤ i ∧ i < 2 ^ 60 ∧ -(2 ^ 60) ≤ j ∧ j < 2 ^ 60 ∧ 0 < c ∧ c < 1000) ∧ R (Itc i c (turns i j c)) H1
theorem pi_range3 {a : Expr} {es : List Expr} {ta : TA} {p pos : Pos} (hg : Gl X "range") (hm : X.mg "range" = none) (ha : PA X (a :: es) ta) (he : starEach (a :: es) X.env = (false, eval a X.env) :: starEach es X.env := by rfl) (hpl : (backTo pos (starEach es X.env)).any (·.1) = false := by rfl) :
    PI X tg (.Call (.Name "range" p) (a :: es) [] pos) (iRng3 ta) := by
  intro pins s σ H R I h
  refine Call_ (ld_blt I hg hm boot_range (PyProof.Rows.callWith_type1 (thn (ha pos pins s σ H _ I h) fun us s1 ⟨vs, H1, I1, r1, q1⟩ => ?_) he hpl))
  obtain ⟨i, j, c, e, ⟨q1, q2, q3, q4, q5, q6⟩, q⟩ := q1
  subst e
  cases r1 with
  | cons r rr =>
    cases rr with
    | cons r' rr =>
      cases rr with
      | cons r'' rr =>
        cases rr
        obtain ⟨t, rfl⟩ := r
        obtain ⟨t', rfl⟩ := r'
        obtain ⟨t'', rfl⟩ := r''
        exact call_range_3 (by ((try clear he hm hpl q1 q2 q3 q4); omega)) (range_itC I1 q1 q2 q3 q4 q5 q6 q) (.inl (PyProof.noPylong_small (by ((try clear he hm hpl q1 q2 q3 q4); omega))))
end
theorem for_rangeC {lo c : Int} {n : Nat} {g : TG} {tb : TS} {D : Ends} {σ : St} {H : Hp} (Pv : Nat → St → Hp → Prop) (h0 : Pv 0 σ H)
    (hs : ∀ i σ H, i < n → Pv i σ H → g (.int (lo + i * c)) σ H fun σ2 H2 => tb { D with nx := Pv (i + 1), ct := Pv (i + 1), bk := D.nx } σ2 H2) (hd : ∀ σ H, Pv n σ H → D.nx σ H) :
    ∃ W : Nat → Nat → St → Hp → Prop, (∃ m, W 0 m σ H) ∧ ∀ i m σ H, W i m σ H →
      ((Itc lo c n).stop i H ∧ D.nx σ H) ∨ ((Itc lo c n).go i H ∧ ∃ N : St → Hp → Prop, (∀ σ' H', N σ' H' → ∃ m', m' < m ∧ W (i + 1) m' σ' H') ∧ ∀ x H', (Itc lo c n).yld i H x H' → g x σ H' fun σ2 H2 => tb { D with nx := N, ct := N, bk := D.nx } σ2 H2) := by
  refine ⟨fun i m σ H => m = n - i ∧ i ≤ n ∧ Pv i σ H, ⟨n, by simp, Nat.zero_le _, h0⟩, ?_⟩
  rintro i m σ H ⟨rfl, hi, p⟩
  by_cases hlt : i < n
  · refine .inr ⟨hlt, Pv (i + 1), fun σ' H' p' => ⟨n - (i + 1), by ((try clear hi); omega), rfl, hlt, p'⟩, fun x H' y => ?_⟩
    obtain ⟨e, y⟩ := y
    subst e y
    exact hs i σ _ hlt p
  · have e : i = n := by omega
    subst e
    exact .inl ⟨Nat.le_refl _, hd σ H p⟩
noncomputable def clsV : V → Value
  | .ty n => .type n
  | .ref a => .ref a
  | _ => .none
noncomputable def isCls : V → Bool
  | .ty _ => true
  | .ref _ => true
  | _ => false
section
variable {X : Cx}
mutual
inductive DatV (K : PySem.W.Frag) (H : Hp) : V → PyData → Prop
  | non : DatV K H .non .none
  | bl (b : Bool) : DatV K H (.bl b) (.bool b)
  | int (i : Int) : DatV K H (.int i) (.int i)
  | str (x : Str) : DatV K H (.str x) (.str x)
  | lst {a : Addr} {xs : List V} {ds : List PyData} : SqL K H a xs → DatVs K H xs ds → DatV K H (.ref a) (.list ds)
  | tup {a : Addr} {xs : List V} {ds : List PyData} : SqT K H a xs → DatVs K H xs ds → DatV K H (.ref a) (.tuple ds)
inductive DatVs (K : PySem.W.Frag) (H : Hp) : List V → List PyData → Prop
  | nil : DatVs K H [] []
  | cons {x : V} {d : PyData} {xs : List V} {ds : List PyData} : DatV K H x d → DatVs K H xs ds → DatVs K H (x :: xs) (d :: ds)
end
theorem DatVs.ints {K : PySem.W.Frag} {H : Hp} : ∀ ns : List Int, DatVs K H (ns.map V.int) (ns.map PyData.int)
  | [] => .nil
  | n :: r => .cons (.int n) (DatVs.ints r)
variable {pins : List (Addr × Obj)} {σ : St} {H : Hp} {s : Shared}
mutual
theorem reads_of (I : Inv X pins σ H s) : ∀ {x : V} {d : PyData} {u : Value}, DatV X.K H x d → RelV x u → ∃ as, Reads s.heap u d as
  | _, _, _, .non, r => by cases r; exact ⟨_, .none⟩
  | _, _, _, .bl b, r => by cases r; exact ⟨_, .bool b⟩
  | _, _, _, .int i, r => by obtain ⟨t, rfl⟩ := r; exact ⟨_, .int i t⟩
  | _, _, _, .str x, r => by obtain ⟨t, rfl⟩ := r; exact ⟨_, .str x t⟩
  | _, _, _, .lst h q, r => by
    cases r
    obtain ⟨its, rv, pl, _⟩ := I.list h
    obtain ⟨o, ho, hc, n, hd⟩ := pl.isList
    obtain ⟨as, ra⟩ := readsAll_of I q rv
    exact ⟨_, .list ho hc hd (by simpa using ra)⟩
  | _, _, _, .tup h q, r => by
    cases r
    obtain ⟨its, rv, pl, _⟩ := I.tuple h
    obtain ⟨o, ho, hc, n, hd⟩ := pl
    obtain ⟨as, ra⟩ := readsAll_of I q rv
    exact ⟨_, .tuple ho hc hd (by simpa using ra)⟩
theorem readsAll_of (I : Inv X pins σ H s) : ∀ {xs : List V} {ds : List PyData} {us : List Value}, DatVs X.K H xs ds → Vals xs us → ∃ as, ReadsAll s.heap us ds as
  | _, _, _, .nil, r => by cases r; exact ⟨_, .nil⟩
  | _, _, _, .cons h q, r => by
    cases r with
    | cons r rr =>
      obtain ⟨as, ra⟩ := reads_of I h r
      obtain ⟨bs, rb⟩ := readsAll_of I q rr
      exact ⟨_, .cons ra rb⟩
end
noncomputable def rEqD (K : PySem.W.Frag) (neg : Bool) : R2 := fun x y H Q => ∃ d e, DatV K H x d ∧ DatV K H y e ∧ SeqAt.shaped d = true ∧ SeqAt.shaped e = true ∧ Q (.bl (if neg then !PyData.eqv d e else PyData.eqv d e)) H
theorem op_neD (hu : X.A.units + 64 < cLine) : OpR X (compareOp .NotEq) (rEqD X.K true) := by
  intro pins s σ H x y v u Q I rx ry h
  obtain ⟨d, e, hd, he, sd, se, q⟩ := h
  obtain ⟨as, ra⟩ := reads_of I hd rx
  obtain ⟨bs, rb⟩ := reads_of I he ry
  exact ne_dataH ra rb sd se hu (fin_bl I q rfl)
theorem eqvAll_ints : ∀ ns ms : List Int, PyData.eqvAll (ns.map PyData.int) (ms.map PyData.int) = decide (ns = ms)
  | [], [] => by simp [PyData.eqvAll]
  | [], _ :: _ => by simp [PyData.eqvAll]
  | _ :: _, [] => by simp [PyData.eqvAll]
  | a :: r, b :: t => by
    simp only [List.map_cons, PyData.eqvAll, PyData.eqv, eqvAll_ints r t]
    by_cases h : a = b <;> by_cases h' : r = t <;> simp [h, h']
end
end L2
namespace Att
open PySem PySem.W PySem.Calls PyProof.Rows
theorem bits_of_lay {ns : List Int} (h : WData.layableAll [WData.list (ns.map WData.int)] = true) : ∀ n, n ∈ ns → Builtin.Int.intBits n ≤ 2 ^ 20 := fun n hn => by
  have h1 := layableW_arg h _ (List.mem_singleton.mpr rfl)
  have h2 := layableW_item h1 (.int n) (List.mem_map.mpr ⟨n, hn, rfl⟩)
  have h3 := (layableW_iff.mp h2).2.2
  simpa only [WData.weight, Builtin.Int.intBits] using h3
theorem attach_callB {l : OpenLaw} {n : Nat} {q : Program} {loose : List Str} {XP : (Str → Option Value) → Heap → Prop} {YP : World → Heap → Prop} {d : DefRec}
    (hn : l.most = some n) (hdf : d.params.defaults = [])
    (call : ∀ (w : World) (s₀ s₁ : Shared) (mg mb : Str → Option Value) (fa : Addr) (o : Obj) (pm cd doc : Value) (a : Addr) (vs : List Value) (ns : List Int),
      Ground q loose [] XP w s₀ mg mb s₁.heap → YP w s₁.heap →
      s₁.heap.get? fa = some o → o.data = .func (docDef d.name d.params d.body d.scope pm cd doc) → s₁.heap.CodeRec cd d.name → mg d.name = some (.ref fa) →
      s₁.heap.get? a = some { cls := .type "list", data := .seq vs.toArray } → IntsAre vs ns → ns.length ≤ n → (∀ n, n ∈ ns → Builtin.Int.intBits n ≤ 2 ^ 20) → s₁.gens = #[] →
      codeAny (model l.prog w) callerA (.call (.ref fa) ⟨[.ref a], []⟩) (fun r s' => r = .ok (.ret (.bool true)) ∧ OldK s₁.heap s'.heap ∧ s'.os = s₁.os ∧ AllBare s'.gens) s₁) :
    WalkO q loose XP YP l.row.toRowW d [] (fun f vs => PySem.call f vs) := by
  intro w s₀ s₁ mg mb G Y fa o pm cd doc dV kV ho hd hcd hD hmg hg args vals as hpre hlay hrd hwl hlo
  obtain rfl : dV = .none := Dflts.none hD hdf
  obtain rfl : kV = .none := Dflts.noKw hD
  obtain ⟨a, vs, ns, rfl, rfl, hobj, hints, hlen⟩ := script_of hn hpre hwl
  refine enter_call (codeAny_mono (call w s₀ s₁ mg mb fa o pm cd doc a vs ns G Y ho (fd_plain hd) hcd hmg hobj hints hlen (bits_of_lay hlay) hg) fun r s' hq => ?_)
  obtain ⟨rfl, h2, h3, h4⟩ := hq
  exact ⟨.inl ⟨.bool true, .bool true, [], rfl, fun _ => rfl, .bool true, post_true l _, fun _ => ⟨List.Pairwise.nil, fun _ hm => (nomatch hm)⟩⟩, h2, h3, h4⟩
end Att
namespace L2
open PySem PySem.Spec PyProof.Rows
noncomputable def spLaw (K : PySem.W.Frag) : Sp := fun vs H Q _ => ∃ (a : Addr) (ns : List Int), vs = [.ref a] ∧ SqL K H a (ns.map V.int) ∧ ns.length ≤ 63 ∧ (∀ n, n ∈ ns → Builtin.Int.intBits n ≤ 2 ^ 20) ∧ ∀ H', Q (.bl true) H'
theorem walk_law {l : PySem.W.OpenLaw} {k : Nat} {q : Program} {loose : List Str} {XP : (Str → Option Value) → Heap → Prop} {YP : World → Heap → Prop} {d : DefRec} {K : Params → PySem.W.Frag} {CX : World → CXT}
    (hn : l.most = some 63) (hdf : d.params.defaults = []) (hr : Room k callerA)
    (hY : ∀ (w : World) (h : Heap), YP w h → (K w.params).In h)
    (hCX : ∀ (w : World) (H : Hp) (s : Shared) (e : Value) (s' : Shared), CX w [] H s (fun _ _ _ => False) e s' → False)
    (F : ∀ (w : World) (mg : Str → Option Value) (fa : Addr) (h : Heap), (K w.params).In h → h.Ns mainGlobals mg → mg d.name = some (.ref fa) →
      ∃ fd : FuncData, (∀ (s : Shared) (u : Value), BindsTo s fd ⟨[u], []⟩ [("script", u)]) ∧
        ∀ base : Heap, (K w.params).In base → base.Ns mainGlobals mg → FnOk l.prog w (K w.params) mg base (CX w) k fa fd ["script"] (spLaw (K w.params))) :
    PySem.W.WalkO q loose XP YP l.row.toRowW d [] (fun f vs => PySem.call f vs) := by
  refine Att.attach_callB hn hdf fun w s₀ s₁ mg mb fa o pm cd doc a vs ns G Y ho hd hcd hmg hobj hints hlen hbits hg => ?_
  have KX := hY w _ Y
  obtain ⟨fd, hb, hF⟩ := F w mg fa _ KX G.T.g hmg
  exact law_call KX G.T.g G.T.b G.T.builtins G.T.nolimit hg hobj hints (Nat.le_trans hlen (by decide)) hr hF hb (fun H hO hS => ⟨a, ns, rfl, hS, hlen, hbits, fun _ => rfl⟩) fun H e s' => hCX w H s₁ e s'
end L2
namespace L2
open PySem PySem.Spec PyProof.Rows
theorem adr {a b : Addr} (h : @Ne Nat a b) : a ≠ b := h
theorem ltN {h : Heap} {b : Addr} {o : Obj} (e : h.get? b = some o) : @LT.lt Nat instLTNat b h.objs.size := Heap.lt_size e
noncomputable def ClOk (cells : List (Str × Addr)) : List (Str × Addr) → Prop
  | [] => True
  | y :: r => cells.lookup y.1 = some y.2 ∧ ClOk cells r
theorem ClOk.get {cells : List (Str × Addr)} : ∀ {cl : List (Str × Addr)}, ClOk cells cl → ∀ {x : Str} {c : Addr}, cl.lookup x = some c → cells.lookup x = some c
  | (y, d) :: r, ⟨h, hr⟩, x, c, e => by
    by_cases q : x = y
    · subst q
      simp only [List.lookup_cons, beq_self_eq_true] at e
      cases e
      exact h
    · have q' : (x == y) = false := by simpa using q
      simp only [List.lookup_cons, q'] at e
      exact ClOk.get hr e
noncomputable def CapsOk (X : Cx) (sc : Scope) (cl : List (Str × Addr)) : List Nat → List Str → Prop
  | [], [] => True
  | j :: js, x :: xs => X.N[j]? = some x ∧ X.env.scope.names.lookup x = some .cell ∧ sc.names.lookup x = some .cell ∧ (cl.lookup x).isSome = true ∧ CapsOk X sc cl js xs
  | _, _ => False
noncomputable def capV (caps : List Nat) (σ : St) : St := caps.map fun j => (σ[j]?).getD none
noncomputable def compCx (X : Cx) (N : List Str) (scope : Scope) (cl : List (Str × Addr)) (C : Addr) (s : Shared) (H : Hp) (fp : List Addr) : Cx where
  prog := X.prog
  w := X.w
  K := X.K
  mg := X.mg
  base := X.base
  A := X.A
  N := N
  s₀ := s
  H₀ := H
  env := compEnvC scope cl C X.env
  outer := X.stack
  stack := X.stack
  ex := fp
  fn := fun _ => false
  calm := X.calm
  pn := []
  xe := fun _ _ => False
theorem mem_of_lookup {α : Type} {x : Str} {k : α} : ∀ {l : List (Str × α)}, l.lookup x = some k → (x, k) ∈ l
  | (y, j) :: r, e => by
    by_cases q : x = y
    · subst q
      simp only [List.lookup_cons, beq_self_eq_true] at e
      cases e
      exact .head _
    · have q' : (x == y) = false := by simpa using q
      simp only [List.lookup_cons, q'] at e
      exact .tail _ (mem_of_lookup e)
section
variable {X : Cx} {pins : List (Addr × Obj)} {σ : St} {H : Hp} {s : Shared} {N : List Str} {scope : Scope} {cl : List (Str × Addr)} {C : Addr} {fp : List Addr} {caps : List Nat} {xs : List Str}
theorem comp_ok (I : Inv X pins σ H s) (hcl : ClOk X.env.cells cl) (hk : scope.kind = .function) (hfp : ∀ b ∈ fp, FpOk X pins H b) (hlt : ∀ b ∈ fp, b < s.heap.objs.size)
    (hhas : ((relabel scope X.env).names.all fun y => !(y.2 == .cell || y.2 == .free) || (cl.lookup y.1).isSome) = true) (hC : s.heap.objs.size ≤ C) : (compCx X N scope cl C s H fp).Ok where
  mod := I.ok.mod
  kind := hk
  glob := I.ok.glob
  blt := I.ok.blt
  above := hC
  inj := fun x y c h1 h2 => I.ok.inj x y c (hcl.get h1) (hcl.get h2)
  has := fun x h => by
    have key : ∀ k : NameKind, (k = .cell ∨ k = .free) → (relabel scope X.env).names.lookup x = some k → ∃ c, cl.lookup x = some c := fun k hk e => by
      have h1 := List.all_eq_true.mp hhas _ (mem_of_lookup e)
      have h2 : (cl.lookup x).isSome = true := by
        rcases hk with rfl | rfl <;> simpa using h1
      exact Option.isSome_iff_exists.mp h2
    rcases h with h | h
    · exact key _ (.inl rfl) h
    · exact key _ (.inr rfl) h
  cab := fun x c h => by cases h
  hd := I.ok.hd
  frames := I.ok.frames
  stk := .inl rfl
  exf := fun b hb => ⟨fun z => by
      have h1 : @LT.lt Nat instLTNat b s.heap.objs.size := hlt b hb
      have z' : @Eq Nat b C := z
      have hC' : @LE.le Nat _ s.heap.objs.size C := hC
      ((try clear hC' hhas hk z); omega), fun x c e => (hfp b hb).2.2.2.2.1 x c (hcl.get e)⟩
  bs := I.bs
  bsz := Nat.le_trans I.ok.bsz I.sz
  noex := fun b o e hb => by
    rcases (hfp b hb).2.2.2.1 with z | z
    · exact I.ok.noex b o e z
    · have h1 : @LT.lt Nat _ b X.base.objs.size := Heap.lt_size e
      have h2 := I.ok.bsz
      have z' : @LE.le Nat _ X.s₀.heap.objs.size b := z
      ((try clear e hC hhas hk z'); omega)
  exfs := fun b hb z => by
    have h1 := I.stkSub b z
    rcases List.mem_cons.mp h1 with q | q
    · exact (hfp b hb).2.1 q
    · exact (hfp b hb).2.2.1 q
  funs := I.stack
  frf := I.stkFree
theorem cap_get : ∀ {caps : List Nat} {xs : List Str}, CapsOk X (relabel scope X.env) cl caps xs → ∀ {i : Nat} {x : Str} {v : V}, xs[i]? = some x → (capV caps σ)[i]? = some (some v) →
    ∃ j : Nat, X.N[j]? = some x ∧ σ[j]? = some (some v) ∧ X.env.scope.names.lookup x = some .cell ∧ (relabel scope X.env).names.lookup x = some .cell ∧ ∃ c, cl.lookup x = some c
  | [], [], _, i, x, v, h, _ => by simp at h
  | j :: js, y :: ys, ⟨h1, h2, h3, h4, hr⟩, 0, x, v, h, e => by
    simp only [List.getElem?_cons_zero, Option.some.injEq] at h
    subst h
    have e' : (σ[j]?).getD none = some v := by simpa [capV] using e
    refine ⟨j, h1, ?_, h2, h3, Option.isSome_iff_exists.mp h4⟩
    cases q : σ[j]? with
    | none => rw [q] at e'; cases e'
    | some o => rw [q] at e'; exact congrArg some e'
  | j :: js, y :: ys, ⟨_, _, _, _, hr⟩, i + 1, x, v, h, e => cap_get hr (by simpa using h) (by simpa [capV] using e)
theorem comp_start (I : Inv X pins σ H s) (hcl : ClOk X.env.cells cl) (hk : scope.kind = .function) (hfp : ∀ b ∈ fp, FpOk X pins H b) (hlt : ∀ b ∈ fp, b < s.heap.objs.size)
    (hhas : ((relabel scope X.env).names.all fun y => !(y.2 == .cell || y.2 == .free) || (cl.lookup y.1).isSome) = true) (hC : s.heap.objs.size ≤ C)
    (hcap : CapsOk X (relabel scope X.env) cl caps xs) (hlen : caps.length = xs.length) {x : Str} {h₁ : Heap} {t : Nat} {m : Str → Option Value} (hn : h₁.Ns C m) (kp : ∀ b o, s.heap.get? b = some o → h₁.get? b = some o) :
    Inv (compCx X (x :: xs) scope cl C s H fp) [] (none :: capV caps σ) H { s with heap := h₁, toks := t } where
  ok := comp_ok I hcl hk hfp hlt hhas hC
  os := rfl
  bare := I.bare
  base := Un.kept kp
  loc := by
    refine ⟨m, hn, fun i y v h1 h2 _ => ?_⟩
    cases i with
    | zero => simp at h2
    | succ i =>
      obtain ⟨j, e1, e2, e3, e4, c, e5⟩ := cap_get (X := X) (scope := scope) hcap (i := i) (by simpa [compCx] using h1) (by simpa using h2)
      obtain ⟨m₀, _, hl⟩ := I.loc
      obtain ⟨u, r, lk⟩ := hl j y v e1 e2 (.inr (.inl e3))
      refine ⟨u, r, .inr ⟨.inl e4, c, e5, ?_⟩⟩
      rcases lk with ⟨z, _⟩ | ⟨_, c', q1, q2⟩
      · have z' : X.env.scope.names.lookup y = some .local := z
        rw [e3] at z'
        cases z'
      · rw [hcl.get e5] at q1
        cases q1
        obtain ⟨o, ho, hd⟩ := q2
        exact ⟨o, kp _ _ ho, hd⟩
  cell := fun y c e => by
    obtain ⟨v, o, ho, hd⟩ := I.cell y c (hcl.get e)
    exact ⟨v, o, kp _ _ ho, hd⟩
  free := I.hok.fresh hC
  freeC := fun y c e => I.freeC y c (hcl.get e)
  pin := fun p hp => by
    have hp' : p ∈ ([] : List (Addr × Obj)) := hp
    cases hp'
  hok := I.hok.kept kp
  len := by simp [compCx, capV, hlen]
end
noncomputable def PTs (X : Cx) (ifs : List Expr) (t : TT) : Prop :=
  ∀ (pins : List (Addr × Obj)) (s : Shared) (σ : St) (H : Hp) (Q : Bool → Hp → Prop), Inv X pins σ H s → t σ H Q →
    wpAny (model X.prog X.w) X.A (forIn ifs true fun c r => if r = true then do let ok ← isTrue c X.env (eval c X.env); pure (ForInStep.yield ok) else pure (ForInStep.yield r)) (TP X pins σ Q) X.xe s
theorem pts_nil {X : Cx} : PTs X [] (fun _ H Q => Q true H) := fun _ _ _ H _ I h => wpAny_tests_nil ⟨H, I, h⟩
theorem pts_one {X : Cx} {c : Expr} {t : TT} (h : PT X c t) : PTs X [c] t := fun pins s σ H Q I q => wpAny_tests_one (h pins s σ H Q I q)
noncomputable def tComp (caps : List Nat) (wi : TI) (tt : TT) (te : TE) : TE := fun σ H Q => wi σ H fun J H1 => ∃ (n : Nat) (W : Nat → List V → Hp → Prop), n ≤ sizeLine ∧ W 0 [] H1 ∧ ∀ i ys H2, W i ys H2 →
  (J.stop i H2 ∧ ∀ p, H2 p = none → Q (.ref p) (upd H2 p (.lst ys))) ∨
  (J.go i H2 ∧ i < n ∧ ∀ x H3, J.yld i H2 x H3 → tt (some x :: capV caps σ) H3 fun b H4 => if b = true then te (some x :: capV caps σ) H4 fun v H5 => W (i + 1) (ys ++ [v]) H5 else W (i + 1) ys H4)
section
variable {prog : Program} {w : World} {A : Around} {R : Result → Shared → Prop} {s : Shared}
theorem comp_loop {elt target iter : Expr} {ifs : List Expr} {scope : Scope} {pos : Pos} {it acc : Value} {env : Env} (I : Nat → Shared → Prop)
    (turn : ∀ n s, I n s → wpAny (model prog w) A (pyNext it) (fun r s₁ => match r with
      | none => R (.ok .next) s₁
      | some v => wpAny (model prog w) A (letOwnedTupleGo target it v) (fun _ s₁ => wpAny (model prog w) A (assign target env v) (fun _ s₂ =>
          wpAny (model prog w) A (forIn ifs true fun c r => if r = true then do let ok ← isTrue c env (eval c env); pure (ForInStep.yield ok) else pure (ForInStep.yield r)) (fun ok s₃ =>
            if ok = true then wpAny (model prog w) A (eval elt env) (fun x s₄ =>
              wpAny (model prog w) A (call (.builtin "list.append") [acc, x]) (fun _ s₅ => ∃ m, m < n ∧ I m s₅) (fun _ _ => False) s₄) (fun _ _ => False) s₃
            else ∃ m, m < n ∧ I m s₃) (fun _ _ => False) s₂) (fun _ _ => False) s₁) (fun _ _ => False) s₁) (fun _ _ => False) s)
    (n : Nat) (h : I n s) :
    codeAny (model prog w) A (.compLoop (.ListComp elt [⟨target, iter, ifs, 0⟩] scope pos) 0 it acc env) R s := by
  refine codeAny_loop rfl I (fun n s hI => ?_) n h
  show wpAny _ A ((compTurn (.ListComp elt [⟨target, iter, ifs, 0⟩] scope pos) 0 it acc env).onRaise (fun x => do noteFrame x env; theTreesLotGoes x)) _ _ s
  refine wpAny_noted ?_
  rw [compTurn_list]
  refine wpAny_bind (wpAny_standAt (wpAny_bind (wpAny_mono (turn n s hI) (fun r s₁ h₁ => ?_) fun _ _ h' => h'.elim)))
  cases r with
  | none => exact wpAny_pure h₁
  | some v =>
    refine wpAny_bind (wpAny_mono h₁ (fun _ s₁ h₁ => ?_) fun _ _ h' => h'.elim)
    refine wpAny_bind (wpAny_mono h₁ (fun _ s₂ h₂ => wpAny_bind (wpAny_mono h₂ (fun ok s₃ h₃ => ?_) fun _ _ h' => h'.elim)) fun _ _ h' => h'.elim)
    cases ok with
    | false => exact wpAny_pure ⟨rfl, h₃⟩
    | true =>
      exact wpAny_bind (wpAny_bind (wpAny_mono h₃ (fun x s₄ h₄ => wpAny_bind (wpAny_mono h₄ (fun _ s₅ h₅ => wpAny_pure (wpAny_pure ⟨rfl, h₅⟩)) fun _ _ h' => h'.elim)) fun _ _ h' => h'.elim))
end
noncomputable def Loose (X : Cx) (pins : List (Addr × Obj)) (H : Hp) (C : Addr) : Prop :=
  H C = none ∧ C ≠ X.env.locals ∧ X.s₀.heap.objs.size ≤ C ∧ (∀ x c, X.env.cells.lookup x = some c → c ≠ C) ∧ ∀ p ∈ X.pn ++ pins, p.1 ≠ C
theorem Inv.letGo {X : Cx} {pins : List (Addr × Obj)} {σ : St} {H : Hp} {s : Shared} {C : Addr} {h' : Heap} (I : Inv X pins σ H s) (l : Loose X pins H C) (k : Heap.SameBut C s.heap h') : Inv X pins σ H { s with heap := h' } :=
  I.turned (it := C) (t' := s.toks) (fun b o hb e => k.extBut b o hb e) l.1 l.2.1 (.inr l.2.2.1) l.2.2.2.1 l.2.2.2.2
section
variable {X : Cx}
theorem comp_block {elt iter : Expr} {x : Str} {px pos : Pos} {ifs : List Expr} {scope : Scope} {cl : List (Str × Addr)} {caps : List Nat} {xs : List Str} {tt : TT} {te : TE}
    (hc : X.calm = true) (hcl : ClOk X.env.cells cl) (hcap : CapsOk X (relabel scope X.env) cl caps xs) (hlen : caps.length = xs.length)
    (hkind : scope.kind = .function) (hcell : ∀ y ∈ scope.names, y.2 ≠ .cell)
    (hhas : ((relabel scope X.env).names.all fun y => !(y.2 == .cell || y.2 == .free) || (cl.lookup y.1).isSome) = true)
    (hx : (relabel scope X.env).names.lookup x = some .local) (hN : (x :: xs).Nodup)
    (ht : ∀ C s H fp, PTs (compCx X (x :: xs) scope cl C s H fp) ifs tt) (he : ∀ C s H fp, PE (compCx X (x :: xs) scope cl C s H fp) elt te)
    {pins : List (Addr × Obj)} {σ : St} {H1 : Hp} {s2 : Shared} {it : Addr} {fp : List Addr} {tn : Nat → Heap → Prop} {J : It} {Q : VK}
    (I2 : Inv X pins σ H1 s2) (T : Turn X.prog X.w X.K (.Name x px) J fp it tn) (st0 : tn 0 s2.heap) (hfp : ∀ b ∈ fp, FpOk X pins H1 b)
    (hq : ∃ (n : Nat) (W : Nat → List V → Hp → Prop), n ≤ sizeLine ∧ W 0 [] H1 ∧ ∀ i ys H2, W i ys H2 →
      (J.stop i H2 ∧ ∀ p, H2 p = none → Q (.ref p) (upd H2 p (.lst ys))) ∨
      (J.go i H2 ∧ i < n ∧ ∀ x H3, J.yld i H2 x H3 → tt (some x :: capV caps σ) H3 fun b H4 => if b = true then te (some x :: capV caps σ) H4 fun v H5 => W (i + 1) (ys ++ [v]) H5 else W (i + 1) ys H4))
    {RR : Value → Addr → Result → Shared → Prop}
    (hRR : ∀ s1 D C m H', Inv X pins σ H' s1 → s1.heap.Ns C m → Loose X pins H' C → Q (.ref D) H' → RR (.ref D) C (.ok .next) s1) :
    wpAny (model X.prog X.w) X.A (newList []) (fun acc s₃ => wpAny (model X.prog X.w) X.A (newFunctionEnv scope X.env.globals cl [] X.env.qual none .none (some X.env)) (fun cenv s₄ =>
      codeAny (model X.prog X.w) X.A (.compStart (.ListComp elt [⟨.Name x px, iter, ifs, 0⟩] scope pos) 0 (.ref it) acc { cenv with scope := relabel scope X.env }) (RR acc cenv.locals) s₄) X.xe s₃) X.xe s2 := by
  obtain ⟨n, W, hn, w0, hW⟩ := hq
  have hlt : ∀ b ∈ fp, b < s2.heap.objs.size := fun b hb => by
    obtain ⟨o, ho, _⟩ := T.obj 0 s2.heap st0 b hb
    exact Heap.lt_size ho
  refine wpAny_newObj_type (wpAny_newFunctionEnv hcell (by intro y hy; simp at hy) (fun h₁ hns₁ hsb₁ => ?_) hkind)
  dsimp only at hns₁ hsb₁ ⊢
  generalize hH2 : s2.heap.push { cls := .type "list", dict := none, data := .seq ([] : List Value).toArray } = G at hns₁ hsb₁ ⊢
  have hC : G.objs.size = s2.heap.objs.size + 1 := by rw [← hH2, Heap.size_push]
  have hDC : s2.heap.objs.size ≠ G.objs.size := by ((try clear hH2 hc hhas hkind hlen hn hx); omega)
  have old : ∀ b o, s2.heap.get? b = some o → h₁.get? b = some o := fun b o e => hsb₁.extBut b o (adr (by have h1 : @LT.lt Nat _ b s2.heap.objs.size := Heap.lt_size e; ((try clear e hDC hH2 hc hhas hkind hlen hn hx); omega))) (Heap.get?_push_of_some _ (hH2 ▸ Heap.get?_push_of_some _ e))
  have hacc : h₁.get? s2.heap.objs.size = some { cls := .type "list", dict := none, data := .seq ([] : List Value).toArray } :=
    hsb₁.extBut _ _ hDC (Heap.get?_push_of_some _ (hH2 ▸ Heap.get?_push_size _ rfl))
  have I3 : Inv (compCx X (x :: xs) scope cl G.objs.size s2 H1 fp) [] (none :: capV caps σ) H1 { s2 with heap := h₁, toks := s2.toks + ([] : List (Str × Value)).length } :=
    comp_start I2 hcl hkind hfp hlt hhas (by ((try clear hDC hH2 hacc hc hhas hkind hlen hn hx); omega)) hcap hlen hns₁ old
  have st1 : tn 0 h₁ := T.keep 0 _ _ st0 fun b hb o e => old b o e
  have fpX : ∀ {pins' : List (Addr × Obj)} {H' : Hp} (b : Addr), b ∈ fp → H' b = none → (∀ p ∈ pins', p.1 ≠ b) → FpOk (compCx X (x :: xs) scope cl G.objs.size s2 H1 fp) pins' H' b := fun b hb hh hp =>
    ⟨hh, fun z => by have h1 : @LT.lt Nat _ b s2.heap.objs.size := hlt b hb; have z' : @Eq Nat b G.objs.size := z; ((try clear hDC hH2 hacc hc hh hhas hkind hlen hn hx z); omega), fun z => by
      rcases List.mem_cons.mp (I2.stkSub b z) with q | q
      · exact (hfp b hb).2.1 q
      · exact (hfp b hb).2.2.1 q, .inl hb, fun y c e => (hfp b hb).2.2.2.2.1 y c (hcl.get e), fun p hp' => hp p hp'⟩
  let XC := compCx X (x :: xs) scope cl G.objs.size s2 H1 fp
  have loop : ∀ s3 : Shared, s3 = { s2 with heap := h₁, toks := s2.toks + ([] : List (Str × Value)).length } →
      codeAny (model X.prog X.w) X.A (.compLoop (.ListComp elt [⟨.Name x px, iter, ifs, 0⟩] scope pos) 0 (.ref it) (.ref s2.heap.objs.size) (compEnvC scope cl G.objs.size X.env))
        (RR (.ref s2.heap.objs.size) G.objs.size) s3 := by
    rintro s3 rfl
    refine comp_loop (fun m s' => ∃ (i : Nat) (ys : List V) (Hn : Hp) (its : List Value) (k : Nat) (v0 : Option V), m = n + 1 - i ∧ i ≤ n ∧ ys.length ≤ i ∧ W i ys Hn ∧ Vals ys its ∧ tn i s'.heap ∧ (∀ b ∈ fp, Hn b = none) ∧
      Inv XC [(s2.heap.objs.size, { cls := .type "list", data := .seq its.toArray k })] (v0 :: capV caps σ) Hn s') ?_ (n + 1) ?_
    · rintro m s' ⟨i, ys, Hn, its, k, v0, rfl, hin, hyl, w, rv, st, hfn, J'⟩
      have pD := J'.pin _ (List.mem_append_right _ (List.mem_singleton.mpr rfl))
      have neD : ∀ b ∈ fp, ∀ p ∈ [((s2.heap.objs.size, ({ cls := .type "list", data := .seq its.toArray k } : Obj)))], p.1 ≠ b := fun b hb p hp z => by
        have h1 : @LT.lt Nat instLTNat b s2.heap.objs.size := hlt b hb
        rw [List.mem_singleton.mp hp] at z
        have z' : @Eq Nat s2.heap.objs.size b := z
        ((try clear hC hDC hH2 hacc hc hhas hin hkind hlen hn hx hyl pD z'); omega)
      rcases hW i ys Hn w with ⟨hstop, fin⟩ | ⟨hgo, hi', hgo'⟩
      · -- it stops
        refine wpAny_mono (T.done XC rfl rfl rfl hc i _ s' _ Hn (fun _ _ => False) J' (fun b hb => fpX b hb (hfn b hb) (neD b hb)) st hstop) (fun r s1 hr => ?_) fun _ _ z => z
        obtain ⟨rfl, J1⟩ := hr
        obtain ⟨mC, hnC, _⟩ := J1.loc
        have pD1 := J1.pin _ (List.mem_append_right _ (List.mem_singleton.mpr rfl))
        have hD' : s1.heap.get? s2.heap.objs.size = some { cls := .type "list", data := .seq its.toArray k } := pD1.1
        have hHD : Hn s2.heap.objs.size = none := pD1.2.1
        have hHC : Hn G.objs.size = none := J1.free
        have un : Un (frs X.stack) fp H1 (upd Hn s2.heap.objs.size (.lst ys)) s2.heap s1.heap := by
          have u := J1.base
          have lt2 : ∀ b o, s2.heap.get? b = some o → b ≠ G.objs.size ∧ b ≠ s2.heap.objs.size := fun b o e => by
            have h1 := ltN e
            exact ⟨adr (by ((try clear e hD' hDC hH2 hHC hHD hacc hc hhas hin hkind hlen hn hx hyl pD pD1); omega)), adr (by ((try clear e hC hD' hDC hH2 hHC hHD hacc hc hhas hin hkind hlen hn hx hyl pD pD1); omega))⟩
          refine ⟨u.keep, u.slot, fun b o e n1 n2 => ?_, u.there, fun b zs e => ?_, fun b o u' e => ?_, fun b ps e => ?_⟩
          · rw [upd_ne (lt2 b o e).2]
            exact u.free b o e n1 n2
          · have q := u.tups b zs e
            rw [upd_ne (fun z => by rw [z, hHD] at q; cases q)]
            exact q
          · have q := u.frzs b o u' e
            rw [upd_ne (fun z => by rw [z, hHD] at q; cases q)]
            exact q
          · obtain ⟨more, q⟩ := u.tbls b ps e
            refine ⟨more, ?_⟩
            rw [upd_ne (fun z => by rw [z, hHD] at q; cases q)]
            exact q
        have hok : HOk X.prog X.w (upd Hn s2.heap.objs.size (.lst ys)) s1.heap := fun a o e => by
          by_cases ha : a = s2.heap.objs.size
          · subst ha
            rw [upd_same] at e
            cases e
            exact ⟨by ((try clear hC hD' hDC hH2 hHC hHD hacc hc hhas hkind hlen hx pD pD1); omega), its, k, rv, hD'⟩
          · rw [upd_ne ha] at e
            have q : ObjOk X.prog X.w Hn s1.heap a o := J1.hok a o e
            refine q.stay (fun b u' hb e' => e') (fun b e' => ?_) fun b zs e' => ?_
            · rw [upd_ne (fun z => by rw [z, hHD] at e'; cases e')]; exact e'
            · rw [upd_ne (fun z => by rw [z, hHD] at e'; cases e')]; exact e'
        have I4 : Inv X pins σ (upd Hn s2.heap.objs.size (.lst ys)) s1 :=
          I2.call' (ch := fp) J1.os un hok J1.bare fun b hb => ⟨(hfp b hb).2.2.2.1, (hfp b hb).2.1, (hfp b hb).2.2.2.2.1, (hfp b hb).2.2.2.2.2⟩
        refine hRR s1 _ _ mC _ I4 hnC ⟨by rw [upd_ne (Ne.symm hDC)]; exact hHC, fun z => ?_, by have := I2.sz; ((try clear hD' hDC hH2 hHC hHD hacc hc hhas hin hkind hlen hn hx hyl pD pD1); omega), fun y c e z => ?_, fun p hp z => ?_⟩ (fin _ hHD)
        · have h1 : @LT.lt Nat instLTNat X.env.locals s2.heap.objs.size := I2.lt
          have z' : @Eq Nat G.objs.size X.env.locals := z
          ((try clear hD' hDC hH2 hHC hHD hacc hc hhas hin hkind hlen hn hx hyl pD pD1 z); omega)
        · obtain ⟨v', o', ho', _⟩ := I2.cell y c e
          have h1 := ltN ho'
          have z' : @Eq Nat c G.objs.size := z
          ((try clear e hD' hDC hH2 hHC hHD hacc hc hhas hin hkind hlen hn ho' hx hyl pD pD1 z); omega)
        · have h1 := ltN (I2.pin p hp).1
          have z' : @Eq Nat p.1 G.objs.size := z
          ((try clear hD' hDC hH2 hHC hHD hacc hc hhas hin hkind hlen hn hx hyl pD pD1 z); omega)
      · -- a turn
        refine wpAny_mono (T.item XC rfl rfl rfl hc i _ s' _ Hn (fun _ _ => False) J' (fun b hb => fpX b hb (hfn b hb) (neD b hb)) st hgo) (fun r s1 hr => ?_) fun _ _ z => z
        obtain ⟨u, rfl, hr⟩ := hr
        refine wpAny_mono hr (fun _ s2' h2 => ?_) fun _ _ z => z
        obtain ⟨v, H3, J1, ru, hy, st1', hf3⟩ := h2
        refine wpAny_assign_Name ?_
        refine store_ok2 (v := v) J1 hN (i := 0) rfl (.inl hx) ru (fun s4 J2 hsb => ?_) (.inr hx)
        have st4 : tn (i + 1) s4.heap := by
          obtain ⟨a, hsa, ha⟩ := hsb
          refine T.keep _ _ _ st1' fun b hb o e => hsa.extBut b o (fun z => ?_) e
          rcases ha with ha | ha
          · have h1 : @LT.lt Nat instLTNat b s2.heap.objs.size := hlt b hb
            have ha' : @Eq Nat a G.objs.size := ha
            have z' : @Eq Nat b a := z
            ((try clear e hDC hH2 ha hacc hc hhas hi' hin hkind hlen hn hx hyl pD z); omega)
          · exact (hfp b hb).2.2.2.2.1 x a (hcl.get ha) z.symm
        have J2' : Inv XC [(s2.heap.objs.size, { cls := .type "list", data := .seq its.toArray k })] (some v :: capV caps σ) H3 s4 := J2
        have ob4 : ∀ b ∈ fp, ∃ o, s4.heap.get? b = some o ∧ ∀ v, o.data ≠ .cell v := fun b hb => T.obj _ _ st4 b hb
        have J3 := J2'.pinned (fun b hb => fpX b hb (hf3 b hb) (neD b hb)) ob4
        have tnAt : ∀ {σ' : St} {H' : Hp} {s'' : Shared}, Inv XC ([(s2.heap.objs.size, ({ cls := .type "list", data := .seq its.toArray k } : Obj))] ++ pinsAt fp s4.heap) σ' H' s'' → tn (i + 1) s''.heap ∧ ∀ b ∈ fp, H' b = none := fun J4 =>
          ⟨T.keep _ _ _ st4 fun b hb o e => (J4.pin (b, o) (List.mem_append_right _ (List.mem_append_right _ (mem_pinsAt hb e)))).1, fun b hb => by
            obtain ⟨o, e, _⟩ := ob4 b hb
            exact (J4.pin (b, o) (List.mem_append_right _ (List.mem_append_right _ (mem_pinsAt hb e)))).2.1⟩
        refine thn (ht _ _ _ _ _ s4 _ H3 _ J3 (hgo' v H3 hy)) fun ok s5 ⟨H4, J4, q4⟩ => ?_
        cases ok with
        | false =>
          rw [if_neg (by simp)]
          have q4' : W (i + 1) ys H4 := q4
          obtain ⟨a1, a2⟩ := tnAt J4
          exact ⟨n + 1 - (i + 1), by ((try clear hC hDC hH2 hacc hc hhas hin hkind hlen hn hx hyl pD); omega), i + 1, ys, H4, its, k, some v, rfl, by ((try clear hC hDC hH2 hacc hc hhas hin hkind hlen hn hx hyl pD); omega), by ((try clear hC hDC hH2 hacc hc hhas hi' hin hkind hlen hn hx pD); omega), q4', rv, a1, a2, J4.unpinned⟩
        | true =>
          rw [if_pos rfl]
          have q4' : te (some v :: capV caps σ) H4 fun v H5 => W (i + 1) (ys ++ [v]) H5 := q4
          refine thn (he _ _ _ _ _ s5 _ H4 _ J4 q4') fun uv s6 ⟨y, H5, J5, ry, q5⟩ => ?_
          obtain ⟨a1, a2⟩ := tnAt J5
          have pD6 := J5.pin _ (List.mem_append_right _ (List.mem_append_left _ (List.mem_singleton.mpr rfl)))
          have hl6 := rv.length
          refine call_meets F.slot_list_append ⟨_, pD6.1, rfl⟩ F.entry_list_append (F.args_list_append_2 _ _) (PySem.list_append s2.heap.objs.size its.toArray k uv (by rw [List.size_toArray]; ((try clear hC hDC hH2 hacc hc hhas hin hkind hlen hx pD pD6); omega))) ⟨pD6.1, ?_⟩
          have J6 : Inv XC [] (some v :: capV caps σ) H5 s6 := J5.pins_of fun p hp => by cases hp
          have ne6 : s2.heap.objs.size ∉ fp := fun z => by have h1 : @LT.lt Nat instLTNat s2.heap.objs.size s2.heap.objs.size := hlt _ z; ((try clear hC hDC hH2 hacc hc hhas hi' hin hkind hl6 hlen hn hx hyl pD pD6); omega)
          have J7 : Inv XC [] (some v :: capV caps σ) H5 { s6 with heap := s6.heap.update s2.heap.objs.size (Obj.mapSeq fun xs => xs.push uv), toks := s6.toks } :=
            J6.turned (it := s2.heap.objs.size) (fun b o hb e => by rw [Heap.get?_update_other _ _ (Ne.symm hb)]; exact e) pD6.2.1 (fun z => hDC z) (.inr (Nat.le_refl _)) (fun y c e z => by
              have e1 := I2.cell y c (hcl.get e)
              obtain ⟨v', o', ho', _⟩ := e1
              have h1 := ltN ho'
              have z' : @Eq Nat c s2.heap.objs.size := z
              ((try clear e hC hDC hH2 hacc hc hhas hi' hin hkind hl6 hlen hn ho' hx hyl ne6 pD pD6 z); omega)) (fun p hp => by cases hp)
          refine ⟨n + 1 - (i + 1), by ((try clear hC hDC hH2 hacc hc hhas hin hkind hl6 hlen hn hx hyl ne6 pD pD6); omega), i + 1, ys ++ [y], H5, its ++ [uv], k + 1, some v, rfl, by ((try clear hC hDC hH2 hacc hc hhas hin hkind hl6 hlen hn hx hyl ne6 pD pD6); omega), by rw [List.length_append, List.length_singleton]; ((try clear hC hDC hH2 hacc hc hhas hi' hin hkind hlen hn hx ne6 pD pD6); omega), q5, rv.append (.cons ry .nil), ?_, a2, ?_⟩
          · refine T.keep _ _ _ a1 fun b hb o e => ?_
            show (s6.heap.update s2.heap.objs.size _).get? b = some o
            rw [Heap.get?_update_other _ _ (fun z => ne6 (by rw [z]; exact hb))]
            exact e
          · refine J7.pins_of fun p hp => ?_
            rw [List.mem_singleton.mp hp]
            refine ⟨?_, pD6.2.1, fun z => hDC z, pD6.2.2.2.1, fun v' z => ?_⟩
            · show (s6.heap.update s2.heap.objs.size _).get? s2.heap.objs.size = _
              rw [Heap.get?_update_self _ pD6.1 rfl]
              simp only [Obj.mapSeq, List.push_toArray]
              rw [if_neg (by simp)]
            · have z' : Data.seq _ _ = Data.cell v' := z
              cases z'
    · exact ⟨0, [], H1, [], 0, none, by ((try clear hC hDC hH2 hacc hc hhas hkind hlen hn hx); omega), by ((try clear hC hDC hH2 hacc hc hhas hkind hlen hn hx); omega), by simp, w0, .nil, st1, fun b hb => (hfp b hb).1, I3.pins_of fun p hp => by
        rw [List.mem_singleton.mp hp]
        refine ⟨hacc, I2.hok.fresh (Nat.le_refl _), fun z => hDC z, fun z => ?_, fun v' z => ?_⟩
        · have := I2.stkFree _ z
          rcases List.mem_cons.mp (I2.stkSub _ z) with q | q
          · have h1 : @LT.lt Nat instLTNat X.env.locals s2.heap.objs.size := I2.lt
            have z' : @Eq Nat s2.heap.objs.size X.env.locals := q
            ((try clear hC hDC hH2 hacc hc hhas hkind hlen hn hx q this); omega)
          · exact I2.nofs (Nat.le_refl _) q
        · have z' : Data.seq _ _ = Data.cell v' := z
          cases z'⟩
  exact codeAny_compStart_list (loop _ rfl) (T.self X.A 0 _ _ _ st1 (loop _ rfl))
theorem pe_comp {elt iter : Expr} {x : Str} {px pos : Pos} {ifs : List Expr} {scope : Scope} {cl : List (Str × Addr)} (caps : List Nat) (xs : List Str) {wi : TI} {tt : TT} {te : TE}
    (hc : X.calm = true) (hclos : closureFor scope X.env = pure cl) (hcl : ClOk X.env.cells cl) (hcap : CapsOk X (relabel scope X.env) cl caps xs) (hlen : caps.length = xs.length)
    (hkind : scope.kind = .function) (hcell : ∀ y ∈ scope.names, y.2 ≠ .cell) (hnames : ∀ y ∈ scope.names, y.2 = .local → scope.names.lookup y.1 = some .local)
    (hhas : ((relabel scope X.env).names.all fun y => !(y.2 == .cell || y.2 == .free) || (cl.lookup y.1).isSome) = true)
    (hx : (relabel scope X.env).names.lookup x = some .local) (hN : (x :: xs).Nodup)
    (hi : PI X (.Name x px) iter wi) (ht : ∀ C s H fp, PTs (compCx X (x :: xs) scope cl C s H fp) ifs tt) (he : ∀ C s H fp, PE (compCx X (x :: xs) scope cl C s H fp) elt te)
    (hs : ∀ v, foldedSetIterable iter X.env v = pure v := by intro _; rfl) : PE X (.ListComp elt [⟨.Name x px, iter, ifs, 0⟩] scope pos) (tComp caps wi tt te) := by
  intro pins s σ H Q I h
  rw [eval_ListComp]
  refine wpAny_comprehension_free (use := none) rfl hs hclos hkind hnames (wpAny_mono (hi pins s σ H _ I h) (fun v s1 h1 => wpAny_mono h1 (fun itv s2 h2 => ?_) fun _ _ e => e) fun _ _ e => e)
  obtain ⟨it, fp, tn, J, H1, rfl, I2, T, st0, hfp, hq⟩ := h2
  refine comp_block (RR := fun acc C => compPost (model X.prog X.w) X.A X.xe none (EP X pins σ Q) acc C) hc hcl hcap hlen hkind hcell hhas hx hN ht he I2 T st0 hfp hq ?_
  intro s1 D C m H' I4 hn l q
  exact ⟨m, hn, fun h' hsb => ⟨.ref D, H', I4.letGo l hsb, rfl, q⟩⟩
theorem ps_comp {elt iter : Expr} {x y : Str} {px py pos spos : Pos} {ifs : List Expr} {scope : Scope} {cl : List (Str × Addr)} {k : Nat} (caps : List Nat) (xs : List Str) {wi : TI} {tt : TT} {te : TE}
    (hsw : swapsWith (.ListComp elt [⟨.Name x px, iter, ifs, 0⟩] scope pos) (some (.Name y py)) spos.line X.env = pure true)
    (hNX : X.N.Nodup) (hk : X.N[k]? = some y) (hy : X.env.scope.names.lookup y = some .local)
    (hc : X.calm = true) (hclos : closureFor scope X.env = pure cl) (hcl : ClOk X.env.cells cl) (hcap : CapsOk X (relabel scope X.env) cl caps xs) (hlen : caps.length = xs.length)
    (hkind : scope.kind = .function) (hcell : ∀ y ∈ scope.names, y.2 ≠ .cell) (hnames : ∀ y ∈ scope.names, y.2 = .local → scope.names.lookup y.1 = some .local)
    (hhas : ((relabel scope X.env).names.all fun y => !(y.2 == .cell || y.2 == .free) || (cl.lookup y.1).isSome) = true)
    (hx : (relabel scope X.env).names.lookup x = some .local) (hN : (x :: xs).Nodup)
    (hi : PI X (.Name x px) iter wi) (ht : ∀ C s H fp, PTs (compCx X (x :: xs) scope cl C s H fp) ifs tt) (he : ∀ C s H fp, PE (compCx X (x :: xs) scope cl C s H fp) elt te)
    (hs : ∀ v, foldedSetIterable iter X.env v = pure v := by intro _; rfl) : PS X (.Assign [.Name y py] (.ListComp elt [⟨.Name x px, iter, ifs, 0⟩] scope pos) spos) (tAsg (tComp caps wi tt te) (gName k)) := by
  intro pins s σ H D I h
  rw [exec_Assign_Name_used _ _ _ _ hsw]
  refine wpAny_bind (wpAny_standAt (wpAny_bind ?_))
  show wpAny _ X.A (do let _ ← comprehension (.ListComp elt [⟨.Name x px, iter, ifs, 0⟩] scope pos) scope X.env _ (newList []) false (eval iter X.env) (some (assign (.Name y py) X.env))) _ _ s
  refine wpAny_bind (wpAny_mono (wpAny_comprehension_free (use := some (assign (.Name y py) X.env)) (Q := fun _ s' => SP X pins D .next s') rfl hs hclos hkind hnames
    (wpAny_mono (hi pins s σ H _ I h) (fun xv s₁ h₁ => wpAny_mono h₁ (fun itv s2 h2 => ?_) fun _ _ e => e) fun _ _ e => e)) (fun _ s' hq => wpAny_pure (wpAny_pure hq)) fun _ _ e => e)
  obtain ⟨it, fp, tn, J, H1, rfl, I2, T, st0, hfp, hq⟩ := h2
  refine comp_block (Q := fun v H1 => gName k v σ H1 D.nx) (RR := fun acc C => compPost (model X.prog X.w) X.A X.xe (some (assign (.Name y py) X.env)) (fun _ s' => SP X pins D .next s') acc C) hc hcl hcap hlen hkind hcell hhas hx hN ht he I2 T st0 hfp hq ?_
  intro s1 Da C m H' I4 hn l q
  show wpAny _ X.A (assign (.Name y py) X.env (.ref Da)) _ _ s1
  refine wpAny_assign_Name (store_ok2 (v := .ref Da) I4 hNX hk (.inl hy) rfl (fun s4 I5 hsb => ?_) (.inr hy))
  obtain ⟨a, hsa, ha⟩ := hsb
  have hCa : C ≠ a := by
    rcases ha with ha | ha
    · rw [ha]; exact l.2.1
    · exact Ne.symm (l.2.2.2.1 y a ha)
  refine ⟨m, hn.sameBut hsa hCa, fun h' hsb => ⟨_, H', I5.letGo l hsb, q⟩⟩
end
end L2
namespace L2
open PySem PySem.Spec PyProof.Rows
theorem same_new {H : Hp} {p : Addr} (h : H p = none) (o : HO) : Same H (upd H p o) := fun b u q => by rw [upd_ne (ne_of_none q h)]; exact q
structure Def (P : Program) (w : World) (K : PySem.W.Frag) (mg : Str → Option Value) (base : Heap) (x : Str) (k : Nat) (ps : List Str) (sp : Sp) : Prop where
  ex : ∃ (f : Addr) (fd : FuncData), FnOk P w K mg base CX0 k f fd ps sp ∧ Binds K fd ps [] ∧ PySem.W.keepIn K (.ref f) = true ∧ mg x = some (.ref f)
theorem def_mk {P : Program} {w : World} {K : PySem.W.Frag} {mg : Str → Option Value} {base : Heap} {x qual : Str} {st : Stmt} {f : Addr} {fd : FuncData} {k : Nat} {ps : List Str} {sp : Sp} (F : Fun K x qual st f fd)
    (ok : FnOk P w K mg base CX0 k f fd ps sp) (b : Binds K fd ps []) (m : mg x = some (.ref f)) : Def P w K mg base x k ps sp := ⟨⟨f, fd, ok, b, F.kp, m⟩⟩
section
variable {X : Cx} {x : Str} {j k : Nat} {ps : List Str} {sp : Sp} {p pos : Pos} {e : Expr} {es : List Expr} {t : TA}
theorem pe_def (D : Def X.prog X.w X.K X.mg X.base x j ps sp) (hr : Room k X.A) (hg : Gl X x) (ha : PA X (e :: es) t) (hjk : j ≤ k := by decide) (hdb : (x == ("__debug__" : Str)) = false := by decide)
    (he : starEach (e :: es) X.env = (false, eval e X.env) :: starEach es X.env := by rfl) (hpl : (backTo pos (starEach es X.env)).any (·.1) = false := by rfl) :
    PE X (.Call (.Name x p) (e :: es) [] pos) (tCall sp [] E0 t) := by
  obtain ⟨f, fd, ok, b, kp, m⟩ := D.ex
  exact pe_call ok (hr.mono hjk) hg m kp b .nil pass0 ha hdb he hpl
end
end L2
namespace L2
open PySem PySem.Spec PyProof.Rows
noncomputable def tJoin (t : TS) : TS := fun D σ H => ∃ R : St → Hp → Prop, (∀ σ' H', R σ' H' → D.nx σ' H') ∧ t { D with nx := R } σ H
theorem ps_join {X : Cx} {st : Stmt} {t : TS} (h : PS X st t) : PS X st (tJoin t) := by
  intro pins s σ H D I ⟨R, hR, q⟩
  refine thn (h pins s σ H _ I q) fun f s' hq => ?_
  cases f with
  | next =>
    obtain ⟨σ', H', I', r⟩ := hq
    exact ⟨σ', H', I', hR _ _ r⟩
  | brk => exact hq
  | cont => exact hq
  | ret v => exact hq
theorem turns_lt {a b c : Int} {i : Nat} (hc : 0 < c) (h : i < turns a b c) : a + i * c < b := by
  unfold turns at h
  split at h
  · rename_i hab
    have h0 := Int.ediv_nonneg (show 0 ≤ b - a - 1 by ((try clear h hc); omega)) (show 0 ≤ c by ((try clear h hab); omega))
    have h1 : (i : Int) ≤ (b - a - 1) / c := by ((try clear hab hc); omega)
    have h2 := Int.mul_le_mul_of_nonneg_right h1 (show 0 ≤ c by ((try clear h h0 h1 hab); omega))
    have h3 := Int.ediv_mul_le (b - a - 1) (show c ≠ 0 by ((try clear h h0 h1 h2 hab); omega))
    ((try clear h h0 h1 hab hc); omega)
  · ((try clear hc); omega)
end L2
namespace L2
open PySem PySem.Spec PyProof.Rows
theorem bt_isinstance : bootBuiltins "isinstance" = some (.builtin "isinstance") := by decide +kernel
theorem bt_min : bootBuiltins "min" = some (.builtin "min") := by decide +kernel
theorem bt_max : bootBuiltins "max" = some (.builtin "max") := by decide +kernel
theorem bt_list : bootBuiltins "list" = some (.type "list") := by decide +kernel
theorem bt_ValueError : bootBuiltins "ValueError" = some (.type "ValueError") := by decide +kernel
noncomputable def cInts : List Expr → Option (List Int)
  | [] => some []
  | .Constant (.int i) _ _ :: r => (cInts r).map (i :: ·)
  | _ => none
theorem pa_ints {X : Cx} : ∀ {es : List Expr} {ns : List Int}, cInts es = some ns → PA X es (fun _ H Q => Q (ns.map V.int) H)
  | [], ns, h => by
    simp only [cInts, Option.some.injEq] at h
    subst h
    exact pa_nil
  | e :: es, ns, h => by
    cases e with
    | Constant c k p =>
      cases c with
      | int i =>
        simp only [cInts, Option.map_eq_some_iff] at h
        obtain ⟨ms, h1, rfl⟩ := h
        have q := pa_cons (X := X) (e := .Constant (.int i) k p) pe_int (pa_ints h1) rfl
        exact q
      | _ => simp [cInts] at h
    | _ => simp [cInts] at h
theorem int_pow_le {a b : Int} (h0 : 0 ≤ a) (h : a ≤ b) : ∀ n : Nat, a ^ n ≤ b ^ n
  | 0 => by simp
  | n + 1 => by
    rw [Int.pow_succ, Int.pow_succ]
    have h1 := int_pow_le h0 h n
    have h2 : 0 ≤ a ^ n := Int.pow_nonneg h0
    exact Int.mul_le_mul h1 h h0 (Int.le_trans h2 h1)
end L2
namespace L2
open PySem PySem.Spec PyProof.Rows
theorem ps_eq {X : Cx} {st st' : Stmt} {t : TS} (e : st = st') (h : PS X st' t) : PS X st t := by subst e; exact h
theorem ps_setInts {X : Cx} {st : Stmt} {i : Nat} {x : Str} {es : List Expr} {ns : List Int} {p1 p2 pos : Pos} (e : st = .Assign [.Name x p1] (.List es p2) pos) (hc : cInts es = some ns) (hN : X.N.Nodup) (hi : X.N[i]? = some x) (hx : Loc X.env.scope x)
    (hf : X.fn x = true ∨ X.env.scope.names.lookup x = some .local) : PS X st (tAsg (tLst fun _ H Q => Q (ns.map V.int) H) (gName i)) := by
  subst e
  exact ps_set hN hi hx (pe_lst (pa_ints hc)) rfl hf
end L2
namespace L2
open PySem PySem.Spec PyProof.Rows
noncomputable def ForIt (J : It) (g : TG) (tb : TS) (D : Ends) (σ : St) (H : Hp) : Prop := ∃ W : Nat → Nat → St → Hp → Prop, (∃ m, W 0 m σ H) ∧ ∀ i m σ H, W i m σ H →
  (J.stop i H ∧ D.nx σ H) ∨ (J.go i H ∧ ∃ N : St → Hp → Prop, (∀ σ' H', N σ' H' → ∃ m', m' < m ∧ W (i + 1) m' σ' H') ∧ ∀ x H', J.yld i H x H' → g x σ H' fun σ2 H2 => tb { D with nx := N, ct := N, bk := D.nx } σ2 H2)
theorem w_for {wi : TI} {g : TG} {tb : TS} {D : Ends} {σ : St} {H : Hp} : tFor wi g tb D σ H = wi σ H fun J H1 => ForIt J g tb D σ H1 := rfl
section
variable {lo c : Int} {n : Nat} {K : PySem.W.Frag} {a : Addr} {xs : List V} {g : TG} {tb : TS} {D : Ends} {σ : St} {H : Hp}
theorem forR (Pv : Nat → St → Hp → Prop) (h0 : Pv 0 σ H)
    (hs : ∀ i σ H, i < n → Pv i σ H → g (.int (lo + i)) σ H fun σ2 H2 => tb { D with nx := Pv (i + 1), ct := Pv (i + 1), bk := D.nx } σ2 H2) (hd : ∀ σ H, Pv n σ H → D.nx σ H) : ForIt (Itr lo n) g tb D σ H := for_range Pv h0 hs hd
theorem forC (Pv : Nat → St → Hp → Prop) (h0 : Pv 0 σ H)
    (hs : ∀ i σ H, i < n → Pv i σ H → g (.int (lo + i * c)) σ H fun σ2 H2 => tb { D with nx := Pv (i + 1), ct := Pv (i + 1), bk := D.nx } σ2 H2) (hd : ∀ σ H, Pv n σ H → D.nx σ H) : ForIt (Itc lo c n) g tb D σ H := for_rangeC Pv h0 hs hd
end
theorem whB {c : TT} {tb : TS} {D : Ends} {σ : St} {H : Hp} (W : Nat → St → Hp → Prop) (m : Nat) (h0 : W m σ H) (hs : ∀ m σ H, W m σ H →
    c σ H fun b H1 => if b = true then ∃ N : St → Hp → Prop, (∀ σ' H', N σ' H' → ∃ m', m' < m ∧ W m' σ' H') ∧ tb { D with nx := N, ct := N, bk := D.nx } σ H1 else D.nx σ H1) : tWhile c tb D σ H := ⟨W, ⟨m, h0⟩, hs⟩
theorem Same.up {H H' : Hp} (g : Same H H') {p : Addr} (hp : H p = none) (o : HO) : Same H (upd H' p o) := fun b u q => by rw [upd_ne (ne_of_none q hp)]; exact g b u q
theorem joinB {t : TS} {D : Ends} {σ : St} {H : Hp} (R : St → Hp → Prop) (h : t { D with nx := R } σ H) (hR : ∀ σ' H', R σ' H' → D.nx σ' H') : tJoin t D σ H := ⟨R, hR, h⟩
theorem sc_ii {a b : Int} : scal (.int a) (.int b) = true := rfl
section
variable {X : Cx}
end
end L2
namespace L2
open PySem PySem.Spec PyProof.Rows
noncomputable def CompIt (J : It) (caps : List Nat) (tt : TT) (te : TE) (σ : St) (H : Hp) (Q : VK) : Prop := ∃ (n : Nat) (W : Nat → List V → Hp → Prop), n ≤ sizeLine ∧ W 0 [] H ∧ ∀ i ys H2, W i ys H2 →
  (J.stop i H2 ∧ ∀ p, H2 p = none → Q (.ref p) (upd H2 p (.lst ys))) ∨
  (J.go i H2 ∧ i < n ∧ ∀ x H3, J.yld i H2 x H3 → tt (some x :: capV caps σ) H3 fun b H4 => if b = true then te (some x :: capV caps σ) H4 fun v H5 => W (i + 1) (ys ++ [v]) H5 else W (i + 1) ys H4)
theorem w_comp {caps : List Nat} {wi : TI} {tt : TT} {te : TE} {σ : St} {H : Hp} {Q : VK} : tComp caps wi tt te σ H Q = wi σ H fun J H1 => CompIt J caps tt te σ H1 Q := rfl
section
variable {lo : Int} {n : Nat} {K : PySem.W.Frag} {a : Addr} {caps : List Nat} {tt : TT} {te : TE} {σ : St} {H : Hp} {Q : VK}
theorem compR (Pv : Nat → List V → Hp → Prop) (hn : n ≤ sizeLine) (h0 : Pv 0 [] H)
    (hs : ∀ i ys H, i < n → Pv i ys H → tt (some (.int (lo + i)) :: capV caps σ) H fun b H4 => if b = true then te (some (.int (lo + i)) :: capV caps σ) H4 fun v H5 => Pv (i + 1) (ys ++ [v]) H5 else Pv (i + 1) ys H4)
    (hd : ∀ ys H, Pv n ys H → ∀ p, H p = none → Q (.ref p) (upd H p (.lst ys))) : CompIt (Itr lo n) caps tt te σ H Q := by
  refine ⟨n, fun i ys H => i ≤ n ∧ Pv i ys H, hn, ⟨Nat.zero_le _, h0⟩, ?_⟩
  rintro i ys H2 ⟨hi, p⟩
  by_cases hlt : i < n
  · refine .inr ⟨hlt, hlt, ?_⟩
    rintro x H3 ⟨rfl, rfl⟩
    have key := hs i ys H3 hlt p
    have e1 : ∀ H5 zs, Pv (i + 1) zs H5 → i + 1 ≤ n ∧ Pv (i + 1) zs H5 := fun _ _ h => ⟨hlt, h⟩
    have e2 : (fun (b : Bool) (H4 : Hp) => if b = true then te (some (.int (lo + i)) :: capV caps σ) H4 fun v H5 => Pv (i + 1) (ys ++ [v]) H5 else Pv (i + 1) ys H4) = fun b H4 => if b = true then te (some (.int (lo + i)) :: capV caps σ) H4 fun v H5 => i + 1 ≤ n ∧ Pv (i + 1) (ys ++ [v]) H5 else i + 1 ≤ n ∧ Pv (i + 1) ys H4 := by
      funext b H4
      have z : i + 1 ≤ n := hlt
      simp only [z, true_and]
    rw [e2] at key
    exact key
  · have e : i = n := by ((try clear hn); omega)
    subst e
    exact .inl ⟨Nat.le_refl _, hd ys H2 p⟩
theorem compI (ns : List Int) (Pv : Nat → List V → Hp → Prop) (hn : ns.length ≤ sizeLine) (h0 : Pv 0 [] H) (hl : ∀ i ys H, Pv i ys H → SqL K H a (ns.map V.int))
    (hs : ∀ i (x : Int) ys H, ns[i]? = some x → Pv i ys H → tt (some (.int x) :: capV caps σ) H fun b H4 => if b = true then te (some (.int x) :: capV caps σ) H4 fun v H5 => Pv (i + 1) (ys ++ [v]) H5 else Pv (i + 1) ys H4)
    (hd : ∀ ys H, Pv ns.length ys H → ∀ p, H p = none → Q (.ref p) (upd H p (.lst ys))) : CompIt (Itl K a) caps tt te σ H Q := by
  refine ⟨ns.length, fun i ys H => i ≤ ns.length ∧ Pv i ys H, hn, ⟨Nat.zero_le _, h0⟩, ?_⟩
  rintro i ys H2 ⟨hi, p⟩
  have hS := hl i ys H2 p
  by_cases hlt : i < ns.length
  · obtain ⟨x, hx⟩ : ∃ x, ns[i]? = some x := ⟨ns[i], List.getElem?_eq_getElem hlt⟩
    have hv : (ns.map V.int)[i]? = some (.int x) := by rw [List.getElem?_map, hx]; rfl
    refine .inr ⟨⟨_, _, hS, hv⟩, hlt, ?_⟩
    rintro y H3 ⟨rfl, hy⟩
    have hxy : y = .int x := (Option.some.inj (hv.symm.trans (hy _ hS))).symm
    subst hxy
    have key := hs i x ys H3 hx p
    have e2 : (fun (b : Bool) (H4 : Hp) => if b = true then te (some (.int x) :: capV caps σ) H4 fun v H5 => Pv (i + 1) (ys ++ [v]) H5 else Pv (i + 1) ys H4) = fun b H4 => if b = true then te (some (.int x) :: capV caps σ) H4 fun v H5 => i + 1 ≤ ns.length ∧ Pv (i + 1) (ys ++ [v]) H5 else i + 1 ≤ ns.length ∧ Pv (i + 1) ys H4 := by
      funext b H4
      have z : i + 1 ≤ ns.length := hlt
      simp only [z, true_and]
    rw [e2] at key
    exact key
  · have e : i = ns.length := by ((try clear hn); omega)
    subst e
    exact .inl ⟨⟨_, hS, by rw [List.length_map]; exact Nat.le_refl _⟩, hd ys H2 p⟩
end
theorem cx_K {CX : CXT} {P : Program} {w : World} {K : PySem.W.Frag} {mg : Str → Option Value} {base : Heap} {N : List Str} {qual : Str} {scope : Scope} {f : Addr} {cd : Value} {A : Around} {outer : List Env} {s : Shared} {H : Hp} {E : XK} : (cxOf CX P w K mg base N qual scope f cd A outer s H E).K = K := rfl
theorem cc_K {X : Cx} {N : List Str} {scope : Scope} {cl : List (Str × Addr)} {C : Addr} {s : Shared} {H : Hp} {fp : List Addr} : (compCx X N scope cl C s H fp).K = X.K := rfl
end L2
namespace Rv
open PySem PySem.Spec PyProof.Rows
section
variable {prog : Program} {w : World} {A : Around} {E : Value → Shared → Prop} {s : Shared}
end
section
variable {prog : Program} {w : World} {A : Around} {E : Value → Shared → Prop} {s : Shared}
end
end Rv
namespace L2
open PySem PySem.Spec PyProof.Rows
section
variable {X : Cx} {tg e : Expr} {te : TE} {p p2 pos pos2 : Pos}
end
theorem cut_to {α : Type} (f : α → V) (xs : List α) {k : Int} (hk : 0 ≤ k) : cutV (xs.map f) none (some k) = (xs.take k.toNat).map f := by
  obtain ⟨n, rfl⟩ : ∃ n : Nat, k = (n : Int) := ⟨k.toNat, by omega⟩
  unfold cutV
  rw [HT.sIx_none, HT.sIx_nat, List.drop_zero, Nat.sub_zero, Int.toNat_natCast, List.map_take]
  rcases Nat.le_total n (xs.map f).length with h | h
  · rw [Nat.min_eq_left h]
  · rw [Nat.min_eq_right h, List.take_of_length_le (Nat.le_refl _), List.take_of_length_le h]
theorem newH {H H1 : Hp} {p : Addr} {o : HO} (e : upd H p o = H1) (n : H p = none) : Same H H1 ∧ H1 p = some o := by
  subst e
  exact ⟨same_new n o, upd_same⟩
theorem w_tyl {K : PySem.W.Frag} {p : Addr} {H : Hp} : tyV K "list" (.ref p) H = ∃ xs, SqL K H p xs := by
  unfold tyV
  simp
section
variable {K : PySem.W.Frag} {H : Hp} {a b : Addr} {ns ms : List Int} {Q : VK}
theorem canLay_ints : ∀ ns : List Int, PyData.canLayAll0 (ns.map PyData.int) = true
  | [] => by simp [PyData.canLayAll0]
  | n :: r => by simp [PyData.canLayAll0, PyData.canLay0, canLay_ints r]
theorem depth_ints : ∀ ns : List Int, PyData.depthAll (ns.map PyData.int) = 0
  | [] => by simp [PyData.depthAll]
  | n :: r => by simp [PyData.depthAll, PyData.depth, depth_ints r]
end
theorem seqI {t u : TS} {D : Ends} {σ : St} {H : Hp} (h : t { D with nx := u D } σ H) : tSeq t u D σ H := h
section
variable {X : Cx}
end
end L2
namespace Ul
open PySem PySem.Spec PyProof.Rows
section
variable {prog : Program} {w : World} {A : Around} {E : Value → Shared → Prop}
theorem draw_list {it l : Addr} {items : Array Value} (hne : l ≠ it) : ∀ (n i : Nat) (s : Shared) (Q : List Value → Shared → Prop), s.heap.IsListIter it l i → s.heap.IsList l items → i + n ≤ items.size →
    (∀ h', h'.IsListIter it l (i + n) → Heap.SameBut it s.heap h' → Q ((items.toList.drop i).take n) { s with heap := h' }) → wpAny (model prog w) A (draw (.ref it) n) Q E s
  | 0, i, s, Q, hit, _, _, hQ => by
    show wpAny _ _ (pure []) Q E s
    exact wpAny_pure (by simpa using hQ s.heap hit (Heap.SameBut.refl ..))
  | n + 1, i, s, Q, hit, ht, hle, hQ => by
    have hlt : i < items.size := by ((try clear hne); omega)
    show wpAny _ _ (pyNext (.ref it) >>= _) Q E s
    refine wpAny_bind (wpAny_pyNext_list_item hit ht (x := items[i]) (by simp [hlt]) fun h₁ hit₁ hs₁ => ?_)
    refine wpAny_bind (wpAny_holding (draw_list hne n (i + 1) _ _ hit₁ (ht.at fun o e => (hs₁.2 l hne).trans e) (by ((try clear hlt hne); omega)) fun h₂ hit₂ hs₂ => wpAny_pure ?_))
    have hd : items.toList.drop i = items[i] :: items.toList.drop (i + 1) := by simp [List.drop_eq_getElem_cons, hlt]
    have := hQ h₂ (by rw [show i + (n + 1) = i + 1 + n by ((try clear hd hle hne); omega)]; exact hit₂) (hs₁.trans hs₂)
    rw [hd, List.take_succ_cons] at this
    exact this
variable {s : Shared}
theorem unpackItems_list {l : Addr} {items : Array Value} {Q : List Value → Shared → Prop} (hh : A.handled = none) (ht : s.heap.IsList l items)
    (hQ : ∀ h', Heap.ExtBut s.heap.objs.size s.heap h' → Q items.toList { s with heap := h' }) : wpAny (model prog w) A (unpackItems (.ref l) items.size none) Q E s := by
  have hlt : l ≠ s.heap.objs.size := by obtain ⟨o, ho, _⟩ := id ht; exact Nat.ne_of_lt (Heap.lt_size ho)
  unfold unpackItems
  refine wpAny_bind ?_
  · unfold notIterableAtAll
    refine wpAny_bind (wpAny_specialOf ht.typeIs PySem.slot_list_iter.lookup ?_)
    refine wpAny_pure ?_
    simp only [Bool.false_eq_true, if_false]
    refine wpAny_bind (wpAny_holding (wpAny_pyIter_list ht ?_))
    refine wpAny_bind (wpAny_holding (draw_list hlt items.size 0 _ _ ⟨_, Heap.get?_push_size _ rfl, rfl, rfl⟩ (ht.at fun o e => Heap.get?_push_of_some _ e) (by ((try clear hh hlt); omega)) fun h₁ hit₁ hs₁ => ?_))
    have hall : List.take items.size (List.drop 0 items.toList) = items.toList := by
      rw [List.drop_zero]; exact List.take_of_length_le (by simp)
    rw [hall]
    rw [if_neg (by simp)]
    have ht₁ : h₁.IsList l items := (ht.at (h' := s.heap.push _) fun o e => Heap.get?_push_of_some _ e).at fun o e => (hs₁.2 l hlt).trans e
    refine wpAny_bind (wpAny_holding (wpAny_pyNext_list_end hh hit₁ ht₁ (by simp) fun h₂ he₂ => ?_))
    simp only [Option.isSome_none, Bool.false_eq_true, if_false]
    refine wpAny_pure (hQ h₂ fun b o hb e => he₂ b o hb (hs₁.extBut b o hb (Heap.get?_push_of_some _ e)))
theorem assign_Tuple_list {env : Env} {elts : List Expr} {x1} {pos : Pos} {l : Addr} {items : Array Value} {Q : Unit → Shared → Prop} (hh : A.handled = none) (ht : s.heap.IsList l items)
    (hn : (assignEach elts env).length = items.size) (hstar : (assignEach elts env).findIdx? (·.1) = none)
    (h : ∀ h', Heap.ExtBut s.heap.objs.size s.heap h' → wpAny (model prog w) A (assignInOrder ((assignEach elts env).map (·.2)) items.toList) Q E { s with heap := h' }) :
    wpAny (model prog w) A (assign (.Tuple elts x1 pos) env (.ref l)) Q E s := by
  rw [assign_Tuple]
  refine wpAny_bind (wpAny_standAt ?_)
  unfold unpack
  rw [hn, hstar]
  exact wpAny_bind (wpAny_holding (unpackItems_list hh ht h))
end
end Ul
namespace L2
open PySem PySem.Spec PyProof.Rows
section
variable {X : Cx} {pos : Pos}
noncomputable def gLst (K : PySem.W.Frag) (n : Nat) (t : TGs) : TG := fun v σ H Q => ∃ a xs, v = .ref a ∧ SqL K H a xs ∧ xs.length = n ∧ t xs σ H Q
theorem pg_lst {es : List Expr} {k : Nat} {t : TGs} {n : Nat} (hc : X.calm = true) (h : PGs X es t)
    (hn : (assignEach es X.env).length = n := by rfl) (hst : (assignEach es X.env).findIdx? (·.1) = none := by rfl) : PG X (.Tuple es k pos) (gLst X.K n t) := by
  intro pins s σ H v u Q I r hw
  obtain ⟨a, xs, e1, hq, hl, hw⟩ := hw
  subst e1
  cases r
  obtain ⟨its, rv, ht, hz⟩ := I.list hq
  refine Ul.assign_Tuple_list (I.ok.hd hc) ht.isList (by simp [hn, ← hl, rv.length]) hst fun h' hx => ?_
  have I1 : Inv X pins σ H { s with heap := h' } := I.kept (t' := s.toks) fun b o e => hx b o (Nat.ne_of_lt (Heap.lt_size e)) e
  exact h pins _ σ H xs _ Q I1 (by simpa using rv) hw
end
end L2
namespace L2
open PySem PySem.Spec PyProof.Rows
noncomputable def CXE (P : Program) (w : World) : CXT := fun outer H s E e s' => ∃ (ea t : Addr) (C : Value) (vs : List Value) (B : Heap) (H' : Hp), e = .ref ea ∧ s'.os = s.os ∧ AllBare s'.gens ∧ Heap.FlyingW B outer ea C (.ref t) s'.heap ∧ s'.heap.TupAt t vs ∧ B.get? t = none ∧
  HOk P w H' B ∧ (∀ b o, s.heap.get? b = some o → H b = none → b ∉ frs outer → B.get? b = some o) ∧ (∀ b o, s.heap.get? b = some o → b ∉ frs outer → ∃ o', B.get? b = some o') ∧ Un (frs outer) [] H H' s.heap s'.heap ∧ E C none H'
section
variable {X : Cx} {pins : List (Addr × Obj)} {σ : St} {H H1 : Hp} {s s1 : Shared}
theorem frs_cons {env : Env} {L : Addr} {l : List Env} (h : env.frame = some L) {b : Addr} : b ∈ frs (env :: l) ↔ b = L ∨ b ∈ frs l := by
  unfold frs
  rw [List.filterMap_cons, h]
  exact List.mem_cons
theorem Inv.old (I : Inv X pins σ H s) {b : Addr} {o : Obj} (e : X.s₀.heap.get? b = some o) : b ≠ X.env.locals := fun z => by
  have h1 : @LT.lt Nat instLTNat b X.s₀.heap.objs.size := Heap.lt_size e
  have h2 : @LE.le Nat _ X.s₀.heap.objs.size X.env.locals := I.ok.above
  have z' : @Eq Nat b X.env.locals := z
  ((try clear e z); omega)
theorem hid_ok {fs : List Addr} (I : Inv X pins σ H s) (hf : ∀ b ∈ fs, H b = none) : HOk X.prog X.w H (PySem.W.hideAll s.heap fs) := fun a o e => by
  have q : ObjOk X.prog X.w H s.heap a o := I.hok a o e
  refine q.stay (fun c u hc e' => PySem.W.hideAll_get _ e' fun z => ?_) (fun c e' => e') fun c zs e' => e'
  have h0 := hf c z
  rcases hc with hc | hc
  · rw [hc, e] at h0; cases h0
  · rw [hc] at h0; cases h0
theorem thr {M : Model} {h' : Heap} {ea : Addr} {C : Value} {vs : List Value} {E : XK} {EE : Value → Shared → Prop} (hst : X.stack = X.env :: X.outer) (hfr : X.env.frame = some X.env.locals) (hex : X.ex = []) (I : Inv X pins σ H s)
    (hx : Heap.MadeExcOf s.heap h' ea C vs) (hE : E C none H) :
    wpAny M X.A (leaving X.env (.ref ea)) (fun _ s'' => CXE X.prog X.w X.outer X.H₀ X.s₀ E (.ref ea) s'') EE { s with heap := h' } := by
  have hA : X.A.frames = some (X.env :: X.outer) := by rw [← hst]; exact I.ok.frames
  have fstk : ∀ b ∈ frs (X.env :: X.outer), H b = none := by rw [← hst]; exact I.stkFree
  have hfun : s.heap.FunFrames X.base (X.env :: X.outer) := by rw [← hst]; exact I.stack
  have hin : ∀ env ∈ (X.env :: X.outer), ∀ b, env.frame = some b → b ∈ frs (X.env :: X.outer) := fun env he b hb => List.mem_filterMap.mpr ⟨env, he, hb⟩
  refine wpAny_leaves_madeW (base := PySem.W.hideAll s.heap (frs (X.env :: X.outer))) hA hfr (fun b o q => PySem.W.of_hideAll _ q) (PySem.W.funFrames_hide hfun hin) hx fun h2 t fly tup tn up => ?_
  have u := I.base
  rw [hex] at u
  have keepB : ∀ b o, X.s₀.heap.get? b = some o → X.H₀ b = none → b ∉ frs X.outer → (PySem.W.hideAll s.heap (frs (X.env :: X.outer))).get? b = some o := fun b o e n nf => by
    refine PySem.W.hideAll_get _ (u.keep b o e n nf (by simp)) fun z => ?_
    rcases (frs_cons hfr).mp z with z | z
    · exact I.old e z
    · exact nf z
  have slots : ∀ b o, s.heap.get? b = some o → b ∈ frs (X.env :: X.outer) → ∃ sl, h2.get? b = some { o with slots := sl } := fun b o e hb => by
    obtain ⟨_, o', ho', hd⟩ := hfun.mem hb
    rw [e] at ho'
    cases ho'
    exact up b o (hx.keeps _ _ e) hd
  have thereB : ∀ b o, X.s₀.heap.get? b = some o → b ∉ frs X.outer → ∃ o', (PySem.W.hideAll s.heap (frs (X.env :: X.outer))).get? b = some o' := fun b o e nf => by
    obtain ⟨o', e1⟩ := u.there b o e (by simp)
    refine ⟨o', PySem.W.hideAll_get _ e1 fun z => ?_⟩
    rcases (frs_cons hfr).mp z with z | z
    · exact I.old e z
    · exact nf z
  refine ⟨ea, t, C, vs, _, H, rfl, I.os, I.bare, fly, tup, tn, hid_ok I fstk, keepB, thereB, ?_, hE⟩
  refine ⟨fun b o e n nf _ => fly.1 _ _ (keepB b o e n nf), fun b o e n hb _ => ?_, fun b o e n _ => u.free b o e n (by simp), fun b o e _ => ?_, u.tups, u.frzs, u.tbls⟩
  · obtain ⟨sl, e1⟩ := u.slot b o e n hb (by simp)
    obtain ⟨sl', e2⟩ := slots b _ e1 ((frs_cons hfr).mpr (.inr hb))
    exact ⟨sl', e2⟩
  · obtain ⟨o', e1⟩ := u.there b o e (by simp)
    by_cases hb : b ∈ frs (X.env :: X.outer)
    · obtain ⟨sl, e2⟩ := slots b _ e1 hb
      exact ⟨_, e2⟩
    · exact ⟨o', fly.1 _ _ (PySem.W.hideAll_get _ e1 hb)⟩
end
noncomputable abbrev bmV : List Value := [.type "ValueError", .type "Exception", .type "BaseException", .type "object"]
noncomputable abbrev ExcK (K : PySem.W.Frag) (C : Addr) : Prop := PySem.W.excIn K C bmV "ValueError.__new__" = true
theorem own_at {K : PySem.W.Frag} {h : Heap} {mg : Str → Option Value} {x : Str} {C : Addr} (X : K.In h) (e : mg x = some (.ref C)) (q : ExcK K C) : OwnCls x C bmV "ValueError.__new__" mg h := by
  refine ⟨e, ?_⟩
  unfold ExcK PySem.W.excIn at q
  split at q
  · rename_i dd cd sl ho
    split at q
    · rename_i C' bm k0 k1 k2 k3 n k5 hm hs
      simp only [Bool.and_eq_true, beq_iff_eq, Bool.not_eq_true'] at q
      obtain ⟨⟨⟨⟨⟨rfl, rfl⟩, hdel⟩, ht⟩, hok⟩, hni⟩ := q
      obtain ⟨nm, bs, mro, ns, qn, hd, sn, sub, ab, col, del⟩ := cd
      dsimp only at hm hdel hok hni
      subst hm hdel
      have hsl : sl = #[k0, k1, k2, k3, some (.builtin "ValueError.__new__"), k5] := by
        obtain ⟨l⟩ := sl
        simp only at hs
        rw [hs]
      subst hsl
      exact ⟨bm, ns, nm, qn, bs, hd, sn, sub, ab, col, dd, k0, k1, k2, k3, k5, _, X _ _ ho, .of_isNs (PySem.W.isNs_of_in X hok), PySem.W.nsMap_none_of_in X hok hni, PySem.W.tail_of_in X ht⟩
    · cases q
  · cases q
noncomputable def Thr (X : Cx) (E : XK) : Prop := ∀ (pins : List (Addr × Obj)) (σ : St) (H : Hp) (s : Shared) (h' : Heap) (ea : Addr) (C : Value) (vs : List Value), Inv X pins σ H s → Heap.MadeExcOf s.heap h' ea C vs → E C none H → X.xe (.ref ea) { s with heap := h' }
noncomputable def tRaise (C : Addr) (E : XK) (ta : TA) : TS := fun _ σ H => ta σ H fun vs H1 => vs.length ≤ sizeLine ∧ E (.ref C) none H1
section
variable {X : Cx} {x : Str} {C : Addr} {np cpos pos : Pos} {e : Expr} {es : List Expr} {ta : TA} {E : XK}
theorem ps_raise (hT : Thr X E) (hc : X.calm = true) (hg : Gl X x) (hm : X.mg x = some (.ref C)) (q : ExcK X.K C) (ha : PA X (e :: es) ta)
    (he : starEach (e :: es) X.env = (false, eval e X.env) :: starEach es X.env := by rfl) (hpl : (backTo cpos (starEach es X.env)).any (·.1) = false := by rfl) (hdb : (x == ("__debug__" : Str)) = false := by decide) :
    PS X (.Raise (some (.Call (.Name x np) (e :: es) [] cpos)) none pos) (tRaise C E ta) := by
  intro pins s σ H D I h
  have O := own_at I.ok.mod.kin hm q
  obtain ⟨tl, N, nm, qq, bs, hdct, sn, sub, ab, col, dd, k0, k1, k2, k3, k5, mN, hC, hN, hni, T⟩ := O.obj
  refine wpAny_Raise_call_subT (C := C) (nm := nm) (q := qq) (N := N) (bs := bs) (bm := tl) (hdct := hdct) (sn := sn) (sub := sub) (ab := ab) (col := col) (dd := dd) (k0 := k0) (k1 := k1) (k2 := k2) (k3 := k3) (k5 := k5)
    PySem.F.excBase_ValueError (mN := mN) (T.hasType PySem.F.excBase_ValueError.hasBase) (I.ok.hd hc) (by rw [he]; show (false || (backTo cpos (starEach es X.env)).any (·.1)) = false; rw [hpl]; rfl) hni (ld_glob I hg hm ⟨rfl, ?_⟩ hdb)
  have ha' := ha cpos pins s σ H _ I h
  rw [he] at ha' ⊢
  exact Calls.evalArgs_plain (thn ha' fun us s2 ⟨vs, H1, I1, r, z, hE⟩ => ⟨rfl, by rw [← r.length]; exact z, I1.bk _ _ hC, hN.keeps I1.bk, T.keeps I1.bk, fun h' ea hx => hT pins σ H1 s2 h' ea _ us I1 hx hE⟩)
end
section
variable {P : Program} {w : World} {K : PySem.W.Frag} {mg : Str → Option Value} {base : Heap}
theorem Fun.okE {x qual : Str} {st : Stmt} {f : Addr} {fd : FuncData} {N ps : List Str} {k : Nat} {sp : Sp} (F : Fun K x qual st f fd) (S : FnScope N ps (defScope st)) (len : ∀ vs H Q E, sp vs H Q E → vs.length = ps.length)
    (hbody : ∀ (cdv : Value) (A : Around) (outer : List Env) (s : Shared) (H : Hp) (vs : List V) (Q : VK) (E : XK), Room k (A.deeper (envOfC qual (defScope st) s.heap.objs.size f cdv)) → sp vs H Q E →
      ∃ t, PSs (cxOf (CXE P w) P w K mg base N qual (defScope st) f cdv A outer s H E) (defBody st) t ∧ t { nx := fun _ H' => Q .non H', rt := Q } (start N vs) H) : FnOk P w K mg base (CXE P w) (k + 1) f fd ps sp := by
  obtain ⟨oc, od, kV, doc, pm, an, cdv, ct, osl, rfl, lk, hcd⟩ := F.ex
  refine fn_of lk hcd S len fun A outer s H vs Q E hr hsp => ?_
  obtain ⟨t, h, q⟩ := hbody cdv A outer s H vs Q E hr hsp
  exact ⟨t, h, q⟩
variable {N : List Str} {qual : Str} {scope : Scope} {f : Addr} {cd : Value} {A : Around} {outer : List Env} {s : Shared} {H : Hp} {E : XK}
theorem thrE : Thr (cxOf (CXE P w) P w K mg base N qual scope f cd A outer s H E) E := fun _ _ _ _ _ _ _ _ I hx hE => thr rfl rfl rfl I hx hE
end
structure DefE (P : Program) (w : World) (K : PySem.W.Frag) (mg : Str → Option Value) (base : Heap) (x : Str) (k : Nat) (ps : List Str) (sp : Sp) : Prop where
  ex : ∃ (f : Addr) (fd : FuncData), FnOk P w K mg base (CXE P w) k f fd ps sp ∧ Binds K fd ps [] ∧ PySem.W.keepIn K (.ref f) = true ∧ mg x = some (.ref f)
theorem defE_mk {P : Program} {w : World} {K : PySem.W.Frag} {mg : Str → Option Value} {base : Heap} {x qual : Str} {st : Stmt} {f : Addr} {fd : FuncData} {k : Nat} {ps : List Str} {sp : Sp} (F : Fun K x qual st f fd)
    (ok : FnOk P w K mg base (CXE P w) k f fd ps sp) (b : Binds K fd ps []) (m : mg x = some (.ref f)) : DefE P w K mg base x k ps sp := ⟨⟨f, fd, ok, b, F.kp, m⟩⟩
section
variable {X : Cx} {x : Str} {j k : Nat} {ps : List Str} {sp : Sp} {p pos : Pos} {e : Expr} {es : List Expr} {t : TA} {E : XK}
theorem ps_nox {st : Stmt} {t : TS} (h : PS X.nox st t) : PS X st t := fun pins s σ H D I hw =>
  wpAny_mono (h pins s σ H D (I.wish _) hw) (fun _ _ q => SP.unwish q) fun _ _ z => z.elim
end
end L2
namespace L2
open PySem PySem.Spec PyProof.Rows
noncomputable abbrev Cx.inTry (X : Cx) (E : Value → Shared → Prop) (pn : List (Addr × Obj)) : Cx := { X with xe := E, pn := pn }
noncomputable abbrev Cx.inExc (X : Cx) (e : Value) : Cx := { X with A := X.A.mark (some e), calm := false, xe := fun _ _ => False }
section
variable {X : Cx} {pins pins' : List (Addr × Obj)} {σ : St} {H H1 H' : Hp} {s s1 s' : Shared} {E : Value → Shared → Prop}
theorem Inv.inTry (I : Inv X pins σ H s) (E : Value → Shared → Prop) : Inv (X.inTry E (X.pn ++ pins)) [] σ H s :=
  ⟨⟨I.ok.mod, I.ok.kind, I.ok.glob, I.ok.blt, I.ok.above, I.ok.inj, I.ok.has, I.ok.cab, I.ok.hd, I.ok.frames, I.ok.stk, I.ok.exf, I.ok.bs, I.ok.bsz, I.ok.noex, I.ok.exfs, I.ok.funs, I.ok.frf⟩, I.os, I.bare, I.base, I.loc, I.cell, I.free, I.freeC,
    fun p hp => I.pin p (by simpa using hp), I.hok, I.len⟩
theorem Inv.outTry (I : Inv (X.inTry E (X.pn ++ pins)) pins' σ H s) : Inv X pins σ H s :=
  ⟨⟨I.ok.mod, I.ok.kind, I.ok.glob, I.ok.blt, I.ok.above, I.ok.inj, I.ok.has, I.ok.cab, I.ok.hd, I.ok.frames, I.ok.stk, I.ok.exf, I.ok.bs, I.ok.bsz, I.ok.noex, I.ok.exfs, I.ok.funs, I.ok.frf⟩, I.os, I.bare, I.base, I.loc, I.cell, I.free, I.freeC,
    fun p hp => I.pin p (List.mem_append_left _ hp), I.hok, I.len⟩
theorem Inv.inExc (I : Inv X pins σ H s) (e : Value) : Inv (X.inExc e) pins σ H s :=
  ⟨⟨I.ok.mod, I.ok.kind, I.ok.glob, I.ok.blt, I.ok.above, I.ok.inj, I.ok.has, I.ok.cab, fun z => (by cases z), I.ok.frames, I.ok.stk, I.ok.exf, I.ok.bs, I.ok.bsz, I.ok.noex, I.ok.exfs, I.ok.funs, I.ok.frf⟩, I.os, I.bare, I.base, I.loc, I.cell, I.free, I.freeC,
    I.pin, I.hok, I.len⟩
theorem Inv.outExc {hd : X.calm = true → X.A.handled = none} {fr : X.A.frames = some X.stack} {e : Value} (I : Inv (X.inExc e) pins σ H s) : Inv X pins σ H s :=
  ⟨⟨I.ok.mod, I.ok.kind, I.ok.glob, I.ok.blt, I.ok.above, I.ok.inj, I.ok.has, I.ok.cab, hd, fr, I.ok.stk, I.ok.exf, I.ok.bs, I.ok.bsz, I.ok.noex, I.ok.exfs, I.ok.funs, I.ok.frf⟩, I.os, I.bare, I.base, I.loc, I.cell, I.free, I.freeC,
    I.pin, I.hok, I.len⟩
theorem land {ea t : Addr} {C : Value} {B h5 : Heap} (I : Inv X pins σ H1 s1) (os : s'.os = s1.os) (bare : AllBare s'.gens) (fly : Heap.FlyingW B X.stack ea C (.ref t) s'.heap) (stay : B.StaysIn h5) (up : s'.heap.UpToSlots h5)
    (hok : HOk X.prog X.w H' B) (kB : ∀ b o, s1.heap.get? b = some o → H1 b = none → b ∉ frs X.stack → B.get? b = some o) (tB : ∀ b o, s1.heap.get? b = some o → b ∉ frs X.stack → ∃ o', B.get? b = some o')
    (un : Un (frs X.stack) [] H1 H' s1.heap s'.heap) : Inv X pins σ H' { s' with heap := h5 } := by
  have slots : ∀ b o, s'.heap.get? b = some o → b ∈ frs X.stack → ∃ sl, h5.get? b = some { o with slots := sl } := fun b o e hb => by
    obtain ⟨_, o', ho', hd⟩ := fly.2.2.1.mem hb
    rw [e] at ho'
    cases ho'
    exact up b o e hd
  have un5 : Un (frs X.stack) [] H1 H' s1.heap h5 := by
    refine ⟨fun b o e n nf _ => stay _ _ (kB b o e n nf), fun b o e n hb _ => ?_, un.free, fun b o e _ => ?_, un.tups, un.frzs, un.tbls⟩
    · obtain ⟨sl, e1⟩ := un.slot b o e n hb (by simp)
      obtain ⟨sl2, e2⟩ := slots b _ e1 hb
      exact ⟨sl2, e2⟩
    · by_cases hb : b ∈ frs X.stack
      · obtain ⟨o', e1⟩ := un.there b o e (by simp)
        obtain ⟨sl, e2⟩ := slots b _ e1 hb
        exact ⟨_, e2⟩
      · obtain ⟨o', e1⟩ := tB b o e hb
        exact ⟨o', stay _ _ e1⟩
  exact I.call' (s' := { s' with heap := h5 }) (ch := []) os un5 (hok.kept stay) bare fun b hb => by cases hb
theorem typ_exc {M : Model} {h : Heap} {e : Addr} {o : Obj} {c : Value} (h1 : h.get? e = some o) (h2 : o.cls = c) : PySem.W.Looks M h (typeOf (.ref e)) c := by
  intro A Q E s k q
  unfold typeOf
  exact wpAny_bind (wpAny_loadPart (k _ _ h1) (wpAny_pure (by rw [h2]; exact q)))
noncomputable def PassX (X : Cx) (EE : St → XK) : Prop := ∀ (pins : List (Addr × Obj)) (σ : St) (H : Hp) (s : Shared) (e : Value) (s' : Shared), Inv X pins σ H s → CXE X.prog X.w X.stack H s (EE σ) e s' → X.xe e s'
noncomputable def tCallX (sp : Sp) (EE : St → XK) (t : TA) : TE := fun σ H Q => t σ H fun vs H1 => sp vs H1 Q (EE σ)
end
section
variable {X : Cx} {x : Str} {j k : Nat} {ps : List Str} {sp : Sp} {p pos : Pos} {e : Expr} {es : List Expr} {t : TA} {EE : St → XK}
theorem pe_defX (hx : PassX X EE) (D : DefE X.prog X.w X.K X.mg X.base x j ps sp) (hr : Room k X.A) (hg : Gl X x) (ha : PA X (e :: es) t) (hjk : j ≤ k := by decide) (hdb : (x == ("__debug__" : Str)) = false := by decide)
    (he : starEach (e :: es) X.env = (false, eval e X.env) :: starEach es X.env := by rfl) (hpl : (backTo pos (starEach es X.env)).any (·.1) = false := by rfl) :
    PE X (.Call (.Name x p) (e :: es) [] pos) (tCallX sp EE t) := by
  obtain ⟨f, fd, F, hb, kp, m⟩ := D.ex
  intro pins s σ H Q I h
  refine wpAny_Call_Name_kw (ld_glob I hg m ?_ hdb)
  refine PySem.W.callWith_K (h₀ := X.base) I.ok.mod.kin kp (thn (ha pos pins s σ H _ I h) fun us s1 ⟨vs, H1, I1, r, q⟩ => ⟨I1.kIn, ?_⟩) he hpl
  have hl : us.length = ps.length := by rw [← r.length]; exact F.len _ _ _ _ q
  have hbs : BindsTo s1 fd ⟨us, []⟩ (ps.zip us) := by
    have := hb s1 us I1.kIn (by rw [List.append_nil]; exact hl)
    rwa [List.append_nil] at this
  refine wpAny_call (codeAny_mono (F.run X.A X.stack s1 H1 ⟨us, []⟩ us vs Q (EE σ) (hr.mono hjk) I1.env0 hbs r q) fun r s' hq => ?_)
  cases r with
  | error e => exact hx pins σ H1 s1 e s' I1 hq
  | ok fl =>
    cases fl with
    | ret u => exact I1.after hq
    | next => exact False.elim hq
    | brk => exact False.elim hq
    | cont => exact False.elim hq
end
section
variable {X : Cx} {body suite : List Stmt} {b₀ : Stmt} {D : Addr} {cx : Str} {np hpos pos : Pos} {tb : (St → XK) → TS} {ts : TS}
end
noncomputable def clK (K : PySem.W.Frag) (x : Str) : Addr := match PySem.W.nsIn K mainGlobals x with
  | some (some (.ref C)) => C
  | _ => 0
theorem clK_of {K : PySem.W.Frag} {x : Str} {C : Addr} (h : PySem.W.nsIn K mainGlobals x = some (some (.ref C))) : clK K x = C := by
  unfold clK
  rw [h]
end L2
namespace Xc
open PySem PySem.W PySem.Spec PySem.Calls PyProof.Rows Builtin.ObjectAttr
structure ExcC (K : Frag) (C : Addr) : Prop where
  ga : findIn K (.ref C) "__getattribute__" = some (some (.builtin "BaseException.__getattribute__"))
  gh : findIn K (.ref C) "__getattr__" = some none
  ca : findIn K (.ref C) "__class__" = some (some (.builtin "object.__class__"))
  gg : specialIn K (.builtin "object.__class__") "__get__" = some (some (.builtin "getset_descriptor.__get__"))
  tk : takesIn K (.builtin "object.__class__") = some true
  mo : mroIn K C (.type "object") = some true
  mb : mroIn K C (.type "BaseException") = some true
  hd : hasDictIn K C = true
section
variable {prog : Program} {w : World} {A : Around} {E : Value → Shared → Prop} {s : Shared} {K : Frag} {x C : Addr} {ox : Obj} {odo : Option Obj}
theorem typ {M : Model} {h : Heap} (hx : h.get? x = some ox) (hc : ox.cls = .ref C) : Looks M h (typeOf (.ref x)) (.ref C) := hc ▸ (Looks.ld hx).andThen .now
theorem exc_found {M : Model} {h : Heap} (F : ExcC K C) (X : K.In h) : Looks M h (find (.ref x) (.ref C) "__class__") (.bind (.builtin "getset_descriptor.__get__") (.builtin "object.__class__")) := by
  have L1 := looks_findIn (M := M) X F.ca
  have L2 : Looks M h (getOf (some (.builtin "object.__class__"))) (some (.builtin "getset_descriptor.__get__")) := looks_specialIn X F.gg
  have L3 := looks_takesIn (M := M) X F.tk
  refine L1.andThen (L2.andThen ?_)
  exact (show Looks M h (dataDescriptor? (some (.builtin "object.__class__")) (some (.builtin "getset_descriptor.__get__"))) (some (.builtin "getset_descriptor.__get__", .builtin "object.__class__")) from L3.andThen .now).andThen (Looks.tag .now)
open Builtin Builtin.Getset_descriptor in
theorem exc_get {tp : Value} {R : Result → Shared → Prop} (X : K.In s.heap) (hx : s.heap.get? x = some ox) (hc : ox.cls = .ref C) (hm : mroIn K C (.type "object") = some true)
    (h : R (.ok (.ret (.ref C))) s) : codeAny (model prog w) A (.call (.builtin "getset_descriptor.__get__") ⟨[.builtin "object.__class__", .ref x, tp], []⟩) R s := by
  obtain ⟨hh, g, dr, t, os⟩ := s
  have L0 := typ (M := model prog w) hx hc
  have L1 := looks_mroIn (M := model prog w) X hm
  refine codeAny_call_builtin KF.slot_gs.plain KF.entry_gs (KF.slot_gs.check _ _ _ _ _ _ _ _ KF.type_class (KF.args_gs _ _ _) ?_)
  unfold Builtin.«getset_descriptor.__get__» descrGet
  rw [dga_obj]
  refine wpAny_bind (wpAny_pure ?_)
  unfold descrGetter descrCheckInstance descrNameAndClass isInstance
  simp only [KF.owner_class]
  repeat lk
  refine ⟨Code.quiet_builtin _ (by decide +kernel), codeAny_builtin KF.entry_class ?_⟩
  unfold Builtin.«object.__class__» shownTypeOf
  repeat lk
  exact h
theorem exc_check {nameV : Value} {Q : Unit → Shared → Prop} (F : ExcC K C) (X : K.In s.heap) (hx : s.heap.get? x = some ox) (hc : ox.cls = .ref C) (hq : Q () s) :
    wpAny (model prog w) A (checkBuiltinCall "BaseException.__getattribute__" ⟨[.ref x, nameV], []⟩) Q E s := by
  have hk : builtinKind "BaseException.__getattribute__" = some .slot := by decide +kernel
  have hsplit : splitId "BaseException.__getattribute__" = some ("BaseException", "__getattribute__") := by decide +kernel
  have LI : Looks (model prog w) s.heap (isInstance (.ref x) (.type "BaseException")) true := (typ (M := model prog w) hx hc).andThen (looks_mroIn X F.mb)
  have ha := PySem.F.args_bexc_ga (.ref x) nameV
  obtain ⟨hh, g, d, t, os⟩ := s
  simp only [checkBuiltinCall, hk, hsplit]
  refine wpAny_bind (LI.at ?_)
  repeat (first | assumption | wp_step)
  all_goals exact hq
theorem exc_entry {tk : Tok} {Q : Fin → Shared → Prop} (F : ExcC K C) (X : K.In s.heap) (hx : s.heap.get? x = some ox) (hc : ox.cls = .ref C) (hq : Q (.done (.ret (.ref C))) s) :
    wpAny (model prog w) A (Builtin.«object.__getattribute__» ⟨[.ref x, .str "__class__" tk], []⟩) Q E s := by
  have L0 := typ (M := model prog w) hx hc
  have L1 := exc_found (M := model prog w) (x := x) F X
  obtain ⟨hh, g, d, t, os⟩ := s
  unfold Builtin.«object.__getattribute__»
  refine wpAny_bind (wpAny_pure ?_)
  refine wpAny_bind (wpAny_pure ?_)
  refine wpAny_bind (L0.at ?_)
  refine wpAny_bind (L1.at ?_)
  show wpAny _ _ (holding [Value.builtin "object.__class__"] (call (.builtin "getset_descriptor.__get__") [.builtin "object.__class__", .ref x, .ref C]) >>= ret) _ _ _
  exact wpAny_bind (wpAny_holding (wpAny_call (exc_get X hx hc F.mo (wpAny_pure hq))))
theorem exc_class {Q : Option Value → Shared → Prop} (F : ExcC K C) (X : K.In s.heap) (hx : s.heap.get? x = some ox) (hc : ox.cls = .ref C) (h : Q (some (.ref C)) { s with toks := s.toks + 1 }) : wpAny (model prog w) A (getAttr? (.ref x) "__class__") Q E s := by
  have L0 := typ (M := model prog w) hx hc
  have L1 := looks_findIn (M := model prog w) X F.ga
  have L2 := looks_findIn (M := model prog w) X F.gh
  have B := PySem.F.attrBase_ValueError
  obtain ⟨hh, g, d, t, os⟩ := s
  unfold getAttr? getAttrBy? getAttrBy
  refine wpAny_bind (wpAny_mkText (wpAny_bind (wpAny_attempt (wpAny_holding (wpAny_bind (L0.at (wpAny_bind (L1.at ?_))))))))
  have hx2 : (Value.builtin "BaseException.__getattribute__" == Value.builtin "object.__getattribute__") = false := by decide +kernel
  have hx1 : (onTheHeap (Value.ref C) && Value.builtin "BaseException.__getattribute__" == Value.builtin "object.__getattribute__") = false := by rw [hx2]; rfl
  show wpAny _ _ (if (onTheHeap (Value.ref C) && Value.builtin "BaseException.__getattribute__" == Value.builtin "object.__getattribute__") = true then _ else getAttrByItsOwn (.ref x) _ (.ref C) (.builtin "BaseException.__getattribute__") false false) _ _ _
  rw [hx1, if_neg (by decide)]
  unfold getAttrByItsOwn
  refine wpAny_bind ?_
  show wpAny _ _ (typeLookup (.ref C) "__getattr__") _ _ _
  refine L2.at ?_
  refine wpAny_bind (wpAny_attempt (wpAny_holding ?_))
  show wpAny _ _ (boundAndCalled (.builtin "BaseException.__getattribute__") (.ref x) _) _ _ _
  unfold boundAndCalled
  refine wpAny_bind (wpAny_of_eq (B.ga.bind (.ref x)) ?_)
  refine wpAny_call (codeAny_call_builtin B.ga.plain PySem.F.entry_bexc_ga (exc_check F (s := ⟨hh, g, d, t + 1, os⟩) X hx hc (exc_entry F (s := ⟨hh, g, d, t + 1, os⟩) X hx hc ?_)))
  show wpAny _ _ (handedOut (.ref C)) _ _ _
  exact handed_on rfl (wpAny_pure h)
theorem kitx_exc (F : ExcC K C) : KitX K (.ref x) (.ref C) (fun h => ∃ ox, h.get? x = some ox ∧ ox.cls = .ref C) where
  ty := fun _ _ _ ⟨_, hx, hc⟩ => typ hx hc
  it := fun _ _ X _ => by
    obtain ⟨cdD, hcD, _⟩ := any_some F.hd
    unfold clsIn at hcD
    split at hcD
    · rename_i c' d' cd' sl' ho
      intro A' Q' E' s' k q
      unfold isType loadHead
      exact wpAny_bind (wpAny_loadPart (k _ _ (X _ _ ho)) (wpAny_pure q))
    · cases hcD
  ne := fun h tp dd its n sl X htp => by
    obtain ⟨cdD, hcD, _⟩ := any_some F.hd
    refine Bool.eq_false_iff.mpr fun q => ?_
    have e : C = tp := Value.ref.inj (beq_iff_eq.mp q)
    subst e
    unfold clsIn at hcD
    split at hcD
    · rename_i c' d' cd' sl' ho
      have z := (X _ _ ho).symm.trans htp
      cases z
    · cases hcD
  ca := fun X ⟨_, hx, hc⟩ k => exc_class F X hx hc k
end
end Xc
namespace L2
open PySem PySem.Spec PyProof.Rows
noncomputable def ExcO (a C : Addr) : HO := .ext fun h => ∃ ox : Obj, h.get? a = some ox ∧ ox.cls = .ref C
section
variable {X : Cx} {pins : List (Addr × Obj)} {σ : St} {H H1 H' : Hp} {s s1 s' : Shared}
theorem objOk_there {P : Program} {w : World} {H : Hp} {h : Heap} {a : Addr} {o : HO} (x : ObjOk P w H h a o) : ∃ ob, h.get? a = some ob := by
  cases o with
  | lst xs => obtain ⟨_, _, _, _, e⟩ := x; exact ⟨_, e⟩
  | tup xs => obtain ⟨_, _, _, p⟩ := x; obtain ⟨o, e, _⟩ := p; exact ⟨o, e⟩
  | dK kvs => obtain ⟨_, _, _, _, o, _, _, e, _⟩ := x; exact ⟨_, e⟩
  | dT kvs => obtain ⟨_, _, _, _, o, _, _, e, _⟩ := x; exact ⟨_, e⟩
  | set S n => obtain ⟨o, _, _, _, e, _⟩ := x; exact ⟨_, e⟩
  | ins C dx fs => obtain ⟨_, _, _, e, _⟩ := x; exact ⟨_, e⟩
  | own y => obtain ⟨_, e⟩ := x; exact ⟨_, e⟩
  | xd fs => obtain ⟨_, ⟨_, _, _, e, _⟩, _⟩ := x; exact ⟨_, e⟩
  | rng lo hi => obtain ⟨_, _, _, e⟩ := x; exact ⟨_, e⟩
  | frz ob u => obtain ⟨e, _⟩ := x; exact ⟨_, e⟩
  | tbl ps => exact ⟨_, show h.get? a = some _ from x⟩
  | met f y => exact ⟨_, show h.get? a = some _ from x⟩
  | ext φ => obtain ⟨_, ⟨_, e⟩, _⟩ := x; exact ⟨_, e⟩
theorem landX {ea t Ca : Addr} {B h5 : Heap} (I : Inv X pins σ H1 s1) (os : s'.os = s1.os) (bare : AllBare s'.gens) (fly : Heap.FlyingW B X.stack ea (.ref Ca) (.ref t) s'.heap) (fly5 : Heap.FlyingW B X.stack ea (.ref Ca) (.ref t) h5) (up : s'.heap.UpToSlots h5)
    (hok : HOk X.prog X.w H' B) (kB : ∀ b o, s1.heap.get? b = some o → H1 b = none → b ∉ frs X.stack → B.get? b = some o) (tB : ∀ b o, s1.heap.get? b = some o → b ∉ frs X.stack → ∃ o', B.get? b = some o')
    (un : Un (frs X.stack) [] H1 H' s1.heap s'.heap) : H' ea = none ∧ Inv X pins σ (upd H' ea (ExcO ea Ca)) { s' with heap := h5 } := by
  have stay := fly5.1
  have hn : H' ea = none := by
    cases q : H' ea with
    | none => rfl
    | some o =>
      have h1 := (hok ea o q).lt
      obtain ⟨ob, hob⟩ : ∃ ob, B.get? ea = some ob := by
        have := hok ea o q
        exact objOk_there this
      rw [fly.2.1] at hob
      cases hob
  have new : ∀ b o, s1.heap.get? b = some o → b ≠ ea := fun b o e z => by
    subst z
    by_cases hb : b ∈ frs X.stack
    · obtain ⟨_, o', ho', hd⟩ := fly.2.2.1.mem hb
      obtain ⟨oe, vs, h1, _, h2, _⟩ := fly.first
      rw [h1] at ho'
      cases ho'
      exact hd _ h2
    · obtain ⟨o', e1⟩ := tB b o e hb
      rw [fly.2.1] at e1
      cases e1
  have slots : ∀ b o, s'.heap.get? b = some o → b ∈ frs X.stack → ∃ sl, h5.get? b = some { o with slots := sl } := fun b o e hb => by
    obtain ⟨_, o', ho', hd⟩ := fly.2.2.1.mem hb
    rw [e] at ho'
    cases ho'
    exact up b o e hd
  have un5 : Un (frs X.stack) [] H1 (upd H' ea (ExcO ea Ca)) s1.heap h5 := by
    refine ⟨fun b o e n nf _ => stay _ _ (kB b o e n nf), fun b o e n hb _ => ?_, fun b o e n hx => by rw [upd_ne (new b o e)]; exact un.free b o e n hx, fun b o e _ => ?_,
      fun b zs e => by have q := un.tups b zs e; rw [upd_ne (ne_of_none q hn)]; exact q, fun b o v e => by have q := un.frzs b o v e; rw [upd_ne (ne_of_none q hn)]; exact q, fun b ps e => ?_⟩
    · obtain ⟨sl, e1⟩ := un.slot b o e n hb (by simp)
      obtain ⟨sl2, e2⟩ := slots b _ e1 hb
      exact ⟨sl2, e2⟩
    · by_cases hb : b ∈ frs X.stack
      · obtain ⟨o', e1⟩ := un.there b o e (by simp)
        obtain ⟨sl, e2⟩ := slots b _ e1 hb
        exact ⟨_, e2⟩
      · obtain ⟨o', e1⟩ := tB b o e hb
        exact ⟨o', stay _ _ e1⟩
    · obtain ⟨more, q⟩ := un.tbls b ps e
      exact ⟨more, by rw [upd_ne (ne_of_none q hn)]; exact q⟩
  have hok5 : HOk X.prog X.w (upd H' ea (ExcO ea Ca)) h5 := fun a o e => by
    by_cases ha : a = ea
    · subst ha
      rw [upd_same] at e
      cases e
      obtain ⟨oe, vs, h1, h2, _⟩ := fly5.first
      exact ⟨⟨oe, h1, h2⟩, ⟨oe, h1⟩, fun h1 h2 ⟨ox, e1, e2⟩ k => ⟨ox, k ox e1, e2⟩⟩
    · rw [upd_ne ha] at e
      have q : ObjOk X.prog X.w H' B a o := hok a o e
      refine q.stay (fun c u hc e' => stay _ _ e') (fun c e' => ?_) fun c zs e' => ?_
      · rw [upd_ne (ne_of_none e' hn)]; exact e'
      · rw [upd_ne (ne_of_none e' hn)]; exact e'
  exact ⟨hn, I.call' (s' := { s' with heap := h5 }) (ch := []) os un5 hok5 bare fun b hb => by cases hb⟩
theorem del_ok {M : Model} {A : Around} {E : Value → Shared → Prop} {i : Nat} {x : Str} {pos : Pos} {Q : Unit → Shared → Prop} {v : V} (I : Inv X pins σ H s) (hN : X.N.Nodup) (hi : X.N[i]? = some x) (hk : X.env.scope.names.lookup x = some .local) (hv : σ[i]? = some (some v))
    (h : ∀ s', Inv X pins (σ.set i none) H s' → Q () s') : wpAny M A (unbindBehindTheSuite X.env x pos) Q E s := by
  obtain ⟨m, hn, hl⟩ := id I.loc
  have hcls : (X.env.scope.kind == .class || (X.env.scope.kind == .module && X.env.locals != X.env.globals)) = false := by rw [I.ok.kind]; rfl
  have hiσ : i < σ.length := by rw [I.len]; exact (List.getElem?_eq_some_iff.mp hi).1
  have cne := I.cne
  obtain ⟨u, _, lk⟩ := hl i x v hi hv (.inl hk)
  have hmx : m x = some u := by
    rcases lk with ⟨_, e⟩ | ⟨z, _⟩
    · exact e
    · have hk' : X.env.kindOf x = some .local := hk
      rw [hk'] at z
      rcases z with z | z <;> cases z
  have tracked : ∀ {a : Addr} {h' : Heap}, (∃ o, s.heap.get? a = some o ∧ H a = none) → Heap.SameBut a s.heap h' → HOk X.prog X.w H h' := fun {a h'} ha hs b ob e => by
    obtain ⟨_, _, hfree⟩ := ha
    refine (I.hok b ob e).stay (fun c w' hc q => (hs.2 c ?_).trans q) (fun _ q => q) fun _ _ q => q
    rintro rfl
    rcases hc with rfl | hc
    · rw [hfree] at e; cases e
    · rw [hfree] at hc; cases hc
  unfold unbindBehindTheSuite
  refine wpAny_onRaise (wpAny_unbindName_local hk hn hmx hcls fun h' u' hn' hs => ?_)
  obtain ⟨oL, _, _, hoL, _⟩ := id hn
  refine h _ ⟨I.ok, I.os, I.bare, ⟨fun b o e n hb hx => ?_, fun b o e n hb hx => ?_, I.base.free, fun b o e hx => ?_, I.base.tups, I.base.frzs, I.base.tbls⟩, ⟨_, hn', fun j y v' e1 e2 e3 => ?_⟩, fun y c e => ?_, I.free, I.freeC, fun p hp => ?_, tracked ⟨oL, hoL, I.free⟩ hs, by simpa using I.len⟩
  · exact (hs.2 b (Nat.ne_of_lt (Nat.lt_of_lt_of_le (Heap.lt_size e) I.ok.above))).trans (I.base.keep b o e n hb hx)
  · obtain ⟨sl, e1⟩ := I.base.slot b o e n hb hx
    exact ⟨sl, (hs.2 b (Nat.ne_of_lt (Nat.lt_of_lt_of_le (Heap.lt_size e) I.ok.above))).trans e1⟩
  · obtain ⟨o', e1⟩ := I.base.there b o e hx
    exact ⟨o', (hs.2 b (Nat.ne_of_lt (Nat.lt_of_lt_of_le (Heap.lt_size e) I.ok.above))).trans e1⟩
  · by_cases hj : j = i
    · subst hj
      rw [List.getElem?_set_self hiσ] at e2
      cases e2
    · rw [List.getElem?_set_ne (Ne.symm hj)] at e2
      obtain ⟨u2, r', q⟩ := hl j y v' e1 e2 e3
      refine ⟨u2, r', ?_⟩
      rcases q with ⟨k, e⟩ | ⟨k, c, e, z⟩
      · refine .inl ⟨k, ?_⟩
        have : y ≠ x := fun e => hj (nodup_ix hN e1 (e ▸ hi))
        simp [this, e]
      · exact .inr ⟨k, c, e, z.sameBut hs (cne y c e)⟩
  · obtain ⟨w', z⟩ := I.cell y c e
    exact ⟨w', z.sameBut hs (cne y c e)⟩
  · obtain ⟨e, n, ne, nf, d⟩ := I.pin p hp
    exact ⟨(hs.2 p.1 ne).trans e, n, ne, nf, d⟩
theorem call_isiX {K : PySem.W.Frag} (hK : X.K = K) : CallR X (.builtin "isinstance") (fun xs H Q => ∃ a y, xs = [.ref a, y] ∧ isCls y = true ∧ ∃ C, H a = some (ExcO a C) ∧ Xc.ExcC K C ∧ ∃ b, PySem.W.kitOne K (.ref C) (clsV y) = some b ∧ Q (.bl b) H) := by
  subst hK
  intro pins s σ H xs us Q I r h
  obtain ⟨a, y, rfl, hy, C, ho, F, b, e, q⟩ := h
  obtain ⟨u, w', rfl, rx, ry⟩ := vals2 r
  have ec : w' = clsV y := by
    cases y <;> first
      | (simp [isCls] at hy; done)
      | exact ry
  subst ec
  cases (show u = Value.ref a from rx)
  obtain ⟨⟨ox, h1, h2⟩, _⟩ := (show ObjOk X.prog X.w H s.heap a (ExcO a C) from I.hok a _ ho)
  exact PySem.W.kia_one (Xc.kitx_exc F) I.kIn ⟨ox, h1, h2⟩ e (fun z => nomatch z) fun tk => ⟨.bl b, H, I.tok tk, rfl, q⟩
end
section
variable {X : Cx} {body suite : List Stmt} {b₀ : Stmt} {D : Addr} {cx n : Str} {i : Nat} {np hpos pos : Pos} {tb : (St → XK) → TS} {ts : TS}
noncomputable def Ends.gone (En : Ends) (i : Nat) : Ends := ⟨fun σ H => En.nx (σ.set i none) H, En.rt, fun σ H => En.bk (σ.set i none) H, fun σ H => En.ct (σ.set i none) H⟩
noncomputable def tTryAs (K : PySem.W.Frag) (D : Addr) (i : Nat) (tb : (St → XK) → TS) (ts : TS) : TS := fun En σ H =>
  tb (fun σ1 C _ H1 => PySem.W.exmOne K C (.ref D) = some true ∧ ∃ Ca, C = .ref Ca ∧ ∀ ea, H1 ea = none → ts (En.gone i) (σ1.set i (some (.ref ea))) (upd H1 ea (ExcO ea Ca))) En σ H
theorem ps_tryAs (hst : X.stack = X.env :: X.outer) (hfr : X.env.frame = some X.env.locals) (hg : Gl X cx) (hm : X.mg cx = some (.ref D)) (hN : X.N.Nodup) (hi : X.N[i]? = some n) (hk : X.env.scope.names.lookup n = some .local)
    (hb : ∀ E pn EE, PassX (X.inTry E pn) EE → PSs (X.inTry E pn) body (tb EE)) (hs : ∀ e, PSs (X.inExc e) (b₀ :: suite) ts) (hdb : (cx == ("__debug__" : Str)) = false := by decide) :
    PS X (.Try body [.ExceptHandler (some (.Name cx np)) (some n) (b₀ :: suite) hpos] [] [] pos) (tTryAs X.K D i tb ts) := by
  intro pins s σ H En I h
  refine wpAny_Try_except (wpAny_mono (hb (fun e s₁ => wpAny (model X.prog X.w) X.A (noteFrame e X.env) (fun _ s₂ => wpAny (model X.prog X.w) X.A (setFlight e none) (fun _ s₃ =>
    wpAny (model X.prog X.w) X.A (handleBy e X.env [.ExceptHandler (some (.Name cx np)) (some n) (b₀ :: suite) hpos]) (SP X pins En) X.xe s₃) X.xe s₂) X.xe s₁) (X.pn ++ pins) _ ?_ [] s σ H En (I.inTry _) h) (fun f s1 hq => ?_) fun e s1 hq => hq)
  · intro pins' σ1 H1 s1 e s' I1 hc
    have J := I1.outTry
    obtain ⟨ea, t, C, vs, B, H', rfl, os, bare, fly, tup, tn, hok, kB, tB, un, hmt, Ca, rfl, hts⟩ := hc
    have fly' : Heap.FlyingW B (X.env :: X.outer) ea (.ref Ca) (.ref t) s'.heap := by rw [← hst]; exact fly
    refine wpAny_looks_onW (by rw [← hst]; exact I.ok.frames) hfr fly' fun h4 held4 up4 => ?_
    refine wpAny_landsW held4 fun h5 fly5 up5 => ?_
    have up := up4.trans up5
    have J5 : Inv X pins σ1 H' { s' with heap := h5 } := land J os bare fly fly5.1 up hok kB tB un
    obtain ⟨ob, hob, hobc⟩ := fly5.there
    refine wpAny_handleBy_cons (codeAny_handlers_test (ld_glob (J5.inExc (.ref ea)) hg hm ?_ hdb)) (by intro q; cases q)
    refine (PySem.W.exm_one J5.kIn (typ_exc hob hobc) hmt).at ?_
    refine codeAny_handlers_suite_as ?_
    refine lands_againW fly5 fun h6 fly6 up6 => ?_
    obtain ⟨hn, J6⟩ := landX J os bare fly (by rw [hst]; exact fly6) (up.trans up6) hok kB tB un
    refine store_ok (v := .ref ea) J6 hN hi (.inl hk) rfl (fun s6 J7 => ?_) (.inr hk)
    refine wpAny_mono (hs (.ref ea) pins s6 _ _ (En.gone i) (J7.inExc _) (hts ea hn)) (fun f s7 h7 => ?_) fun _ _ z => z.elim
    show wpAny _ X.A (do bindName X.env n .none; unbindBehindTheSuite X.env n hpos) (fun _ s₃ => SP X pins En f s₃) X.xe s7
    have fin : ∀ (σ7 : St) (H7 : Hp) (R : Shared → Prop), Inv (X.inExc (.ref ea)) pins σ7 H7 s7 → (∀ s8, Inv X pins (σ7.set i none) H7 s8 → R s8) → wpAny (model X.prog X.w) X.A (do bindName X.env n .none; unbindBehindTheSuite X.env n hpos) (fun _ s8 => R s8) X.xe s7 := fun σ7 H7 R I7 k => by
      have I8 := I7.outExc (hd := I.ok.hd) (fr := I.ok.frames)
      refine wpAny_bind (wpAny_bindName (store_ok (v := .non) I8 hN hi (.inl hk) rfl (fun s8 I9 => ?_) (.inr hk)))
      have hil : i < σ7.length := by rw [I8.len]; exact (List.getElem?_eq_some_iff.mp hi).1
      refine del_ok I9 hN hi hk (v := .non) (by rw [List.getElem?_set_self hil]) fun s9 I10 => k s9 ?_
      rw [List.set_set] at I10
      exact I10
    cases f with
    | next => obtain ⟨σ7, H7, I7, q7⟩ := h7; exact fin σ7 H7 _ I7 fun s8 I8 => ⟨_, H7, I8, q7⟩
    | brk => obtain ⟨σ7, H7, I7, q7⟩ := h7; exact fin σ7 H7 _ I7 fun s8 I8 => ⟨_, H7, I8, q7⟩
    | cont => obtain ⟨σ7, H7, I7, q7⟩ := h7; exact fin σ7 H7 _ I7 fun s8 I8 => ⟨_, H7, I8, q7⟩
    | ret u => obtain ⟨v, σ7, H7, I7, r7, q7⟩ := h7; exact fin σ7 H7 _ I7 fun s8 I8 => ⟨v, _, H7, I8, r7, q7⟩
  · cases f with
    | next => obtain ⟨σ7, H7, I7, q7⟩ := hq; exact wpAny_execs_nil ⟨σ7, H7, I7.outTry, q7⟩
    | brk => obtain ⟨σ7, H7, I7, q7⟩ := hq; exact ⟨σ7, H7, I7.outTry, q7⟩
    | cont => obtain ⟨σ7, H7, I7, q7⟩ := hq; exact ⟨σ7, H7, I7.outTry, q7⟩
    | ret u => obtain ⟨v, σ7, H7, I7, r7, q7⟩ := hq; exact ⟨v, σ7, H7, I7.outTry, r7, q7⟩
end
theorem DatVs.bls {K : PySem.W.Frag} {H : Hp} : ∀ bs : List Bool, DatVs K H (bs.map V.bl) (bs.map PyData.bool)
  | [] => .nil
  | b :: r => .cons (.bl b) (DatVs.bls r)
theorem canLay_bls : ∀ bs : List Bool, PyData.canLayAll0 (bs.map PyData.bool) = true
  | [] => by simp [PyData.canLayAll0]
  | b :: r => by simp [PyData.canLayAll0, PyData.canLay0, canLay_bls r]
theorem depth_bls : ∀ bs : List Bool, PyData.depthAll (bs.map PyData.bool) = 0
  | [] => by simp [PyData.depthAll]
  | b :: r => by simp [PyData.depthAll, PyData.depth, depth_bls r]
theorem eqvAll_bls : ∀ bs : List Bool, PyData.eqvAll (bs.map PyData.bool) (bs.map PyData.bool) = true
  | [] => by simp [PyData.eqvAll]
  | b :: r => by simp [PyData.eqvAll, PyData.eqv, eqvAll_bls r]
theorem eqLB {K : PySem.W.Frag} {H : Hp} {a b : Addr} {Q : VK} (bs : List Bool) (h : SqL K H a (bs.map V.bl)) (h' : SqL K H b (bs.map V.bl)) (q : Q (.bl true) H) : rEqD K false (.ref a) (.ref b) H Q := by
  have sh : SeqAt.shaped (.list (bs.map PyData.bool)) = true := by
    unfold SeqAt.shaped
    simp [PyData.canLay0, PyData.depth, canLay_bls, depth_bls]
  refine ⟨_, _, .lst h (DatVs.bls bs), .lst h' (DatVs.bls bs), sh, sh, ?_⟩
  rw [if_neg (by decide)]
  have e : PyData.eqv (.list (bs.map PyData.bool)) (.list (bs.map PyData.bool)) = true := by
    simp only [PyData.eqv]
    exact eqvAll_bls bs
  rw [e]
  exact q
end L2
namespace L2
open PySem PySem.Spec PyProof.Rows
section
variable {X : Cx} {pins : List (Addr × Obj)} {σ : St} {H : Hp} {s : Shared} {h' : Heap}
theorem Inv.turned2 {t' : Nat} {a e it : Addr} {o : HO} (I : Inv X pins σ H s) (k : ∀ b u, b ≠ e → b ≠ it → s.heap.get? b = some u → h'.get? b = some u) (ha : a = s.heap.objs.size) (new : ObjOk X.prog X.w (upd H a o) h' a o) (fe : FpOk X pins H e) (fi : FpOk X pins H it) :
    Inv X pins σ (upd H a o) { s with heap := h', toks := t' } := by
  have hnone : H a = none := I.hok.fresh (by rw [ha]; exact Nat.le_refl _)
  have lts : ∀ b u, s.heap.get? b = some u → b ≠ a := fun b u q => by rw [ha]; exact Nat.ne_of_lt (Heap.lt_size q)
  have nin : ∀ b, b ∉ [e, it] → b ≠ e ∧ b ≠ it := fun b hb => ⟨fun z => hb (by simp [z]), fun z => hb (by simp [z])⟩
  have ntr : ∀ b u, H b = some u → b ≠ e ∧ b ≠ it := fun b u q => ⟨ne_of_none q fe.1, ne_of_none q fi.1⟩
  refine I.step (g' := s.gens) (d' := s.drawn) (ch := [e, it]) (fun b hb => ?_) (fun b u _ _ hc q _ => k b u (nin b hc).1 (nin b hc).2 q) (fun b u _ _ hc q _ => ⟨u.slots, k b u (nin b hc).1 (nin b hc).2 q⟩) (fun b u _ q n => by rw [upd_ne (lts b u q)]; exact n)
    (fun b u hc q => ⟨u, k b u (nin b hc).1 (nin b hc).2 q⟩) (fun b zs q => by rw [upd_ne (ne_of_none q hnone)]; exact q) (fun b u v q => by rw [upd_ne (ne_of_none q hnone)]; exact q) (fun b ps q => ⟨#[], by rw [upd_ne (ne_of_none q hnone), q]; simp⟩) (fun m hm => ?_) (fun b u q => ?_) I.bare
  · have fb : FpOk X pins H b := by
      rcases List.mem_cons.mp hb with z | z
      · rw [z]; exact fe
      · rw [List.mem_singleton.mp z]; exact fi
    obtain ⟨f0, f1, f2, f3, f4, f5⟩ := fb
    exact ⟨f3, f1, f4, f5⟩
  · obtain ⟨u, es, ep, ho, r⟩ := hm
    exact ⟨u, es, ep, k _ u (Ne.symm fe.2.1) (Ne.symm fi.2.1) ho, r⟩
  · by_cases hb : b = a
    · subst hb
      rw [upd_same] at q
      cases q
      exact new
    · rw [upd_ne hb] at q
      have w : ObjOk X.prog X.w H s.heap b u := I.hok b u q
      have ntr' : ∀ c, (c = b ∨ ∃ u, H c = some u) → c ≠ e ∧ c ≠ it := fun c hc => by
        rcases hc with z | ⟨_, z⟩
        · rw [z]; exact ntr b u q
        · exact ntr c _ z
      refine w.stay (fun c v hc q' => k c v (ntr' c ?_).1 (ntr' c ?_).2 q') (fun c q' => ?_) fun c zs q' => ?_
      · rcases hc with z | z
        · exact .inl z
        · exact .inr ⟨_, z⟩
      · rcases hc with z | z
        · exact .inl z
        · exact .inr ⟨_, z⟩
      · rw [upd_ne (ne_of_none q' hnone)]; exact q'
      · rw [upd_ne (ne_of_none q' hnone)]; exact q'
end
noncomputable def Ite (K : PySem.W.Frag) (a : Addr) : It :=
  ⟨fun i H => ∃ xs x, SqL K H a xs ∧ xs[i]? = some x, fun i H x H' => ∃ y t, (∀ xs, SqL K H a xs → xs[i]? = some y) ∧ H t = none ∧ x = .ref t ∧ H' = upd H t (.tup [.int (i : Int), y]), fun i H => ∃ xs, SqL K H a xs ∧ xs.length ≤ i⟩
theorem turn_enum {P : Program} {w : World} {K : PySem.W.Frag} {elts : List Expr} {x1} {tp : Pos} (a e it : Addr) (hne : e ≠ it) : Turn P w K (.Tuple elts x1 tp) (Ite K a) [e, it] e (fun i h => (∃ old, IsEnum h e it ((i : Nat) : Int) old) ∧ h.IsListIter it a i) where
  mem := by simp
  obj := fun i h st b hb => by
    obtain ⟨⟨old, he⟩, o, ho, c, d⟩ := st
    rcases List.mem_cons.mp hb with z | z
    · subst z
      exact ⟨_, he, fun v z => by
        have z' : Data.fields _ = Data.cell v := z
        cases z'⟩
    · rw [List.mem_singleton.mp z]
      exact ⟨o, ho, fun v z => by rw [d] at z; cases z⟩
  keep := fun i h h' st k => by
    obtain ⟨⟨old, he⟩, hi⟩ := st
    exact ⟨⟨old, k e (by simp) _ he⟩, hi.at fun o q => k it (by simp) o q⟩
  item := by
    intro X hP hw hK hc i pins s σ H E I hf st hg
    subst hP hw hK
    obtain ⟨xs, x, hq, hx⟩ := hg
    obtain ⟨its, rv, p, hz⟩ := I.list hq
    obtain ⟨u, hu, ru⟩ := rv.get hx
    obtain ⟨⟨old, he⟩, hit⟩ := st
    have fe := hf e (by simp)
    have fi := hf it (by simp)
    have hel : e < s.heap.objs.size := Heap.lt_size he
    refine wpAny_pyNext_enum_item he hit p.isList (x := u) (by simpa using hu) hne fun h1 he1 hit1 ht1 hz1 hk1 => ⟨_, rfl, ?_⟩
    refine wpAny_letOwnedTupleGo_enum he1 fun h2 he2 hs2 => ?_
    have hs2' : Heap.SameBut e h1 h2 := hs2
    have hnone : H s.heap.objs.size = none := I.hok.fresh (Nat.le_refl _)
    refine ⟨.ref s.heap.objs.size, upd H s.heap.objs.size (.tup [.int (i : Int), x]), I.turned2 (t' := s.toks + 1) (e := e) (it := it) (fun b o hb1 hb2 q => (hs2'.2 b hb1).trans (hk1 b o hb1 hb2 q)) rfl ?_ fe fi, rfl, ⟨x, _, fun ys hy => by rw [I.list_inj hy hq]; exact hx, hnone, rfl, rfl⟩, ⟨⟨_, by rw [Int.natCast_add]; exact he2⟩, hit1.extBut hs2'.extBut (Ne.symm hne)⟩, fun b hb => ?_⟩
    · exact ⟨by show 2 ≤ sizeLine; decide, [.int i s.toks, u], .cons ⟨_, rfl⟩ (.cons ru .nil), ⟨_, (hs2'.2 _ (Nat.ne_of_gt hel)).trans ht1, rfl, _, rfl⟩⟩
    · have hb0 : H b = none := (hf b hb).1
      have hbl : b < s.heap.objs.size := by
        rcases List.mem_cons.mp hb with z | z
        · rw [z]; exact hel
        · rw [List.mem_singleton.mp z]
          obtain ⟨o, ho, _⟩ := id hit
          exact Heap.lt_size ho
      rw [upd_ne (Nat.ne_of_lt hbl)]
      exact hb0
  done := by
    intro X hP hw hK hc i pins s σ H E I hf st hg
    subst hP hw hK
    obtain ⟨xs, hq, hx⟩ := hg
    obtain ⟨its, rv, p, hz⟩ := I.list hq
    obtain ⟨⟨old, he⟩, hit⟩ := st
    obtain ⟨f0, f1, f2, f3, f4, f5⟩ := hf it (by simp)
    have hl := rv.length
    exact wpAny_pyNext_enum_end (I.ok.hd hc) he hit p.isList (by simp; ((try clear f0 f1 f2 f3 hc hne hz); omega)) fun h' eb => ⟨rfl, I.turned (t' := s.toks) (fun b o hb q => eb b o hb q) f0 f1 f3 f4 f5⟩
  self := fun _ _ _ _ _ ⟨⟨_, he⟩, _⟩ h => wpAny_pyIter_enum he h
section
variable {X : Cx} {e : Expr} {te : TE} {p p2 pos pos2 : Pos}
noncomputable def iEnum (K : PySem.W.Frag) (tl : TE) : TI := fun σ H R => tl σ H fun x H1 => ∃ a, x = .ref a ∧ (∃ xs, SqL K H1 a xs) ∧ R (Ite K a) H1
theorem pi_enum {elts : List Expr} {x1} {tp : Pos} (hg : Gl X "enumerate") (hm : X.mg "enumerate" = none) (he : PE X e te) (hs : starEach [e] X.env = (false, eval e X.env) :: starEach [] X.env := by rfl) : PI X (.Tuple elts x1 tp) (.Call (.Name "enumerate" p) [e] [] pos) (iEnum X.K te) := by
  intro pins s σ H R I h
  refine wpAny_Call_Name_kw (ld_blt I hg hm PyProof.Rows.boot_enumerate ?_ (by decide) (by decide))
  refine PyProof.Rows.callWith_type1 (thn (pa_cons he pa_nil hs pos pins s σ H (fun vs H1 => ∃ a, vs = [.ref a] ∧ (∃ xs, SqL X.K H1 a xs) ∧ R (Ite X.K a) H1) I ?_) fun us s1 ⟨vs, H1, I1, r1, q1⟩ => ?_) hs rfl
  · show te σ H _
    have e2 : (fun x H1 => tNil σ H1 fun xs H2 => (fun vs H1 => ∃ a, vs = [V.ref a] ∧ (∃ xs, SqL X.K H1 a xs) ∧ R (Ite X.K a) H1) (x :: xs) H2) = fun x H1 => ∃ a, x = V.ref a ∧ (∃ xs, SqL X.K H1 a xs) ∧ R (Ite X.K a) H1 := by
      funext x H1
      simp only [tNil, List.cons.injEq, and_true]
    have := h
    unfold iEnum at this
    rw [← e2] at this
    exact this
  · obtain ⟨a, rfl, ⟨xs, hq⟩, hR⟩ := q1
    obtain ⟨u, rfl, ru⟩ := vals1 r1
    cases ru
    obtain ⟨its, rv, pl, hz⟩ := I1.list hq
    refine call_enumerate_list pl.isList fun h' he' hit hz' hk => ?_
    refine wpAny_pyIter_enum he' ?_
    refine ⟨s1.heap.objs.size + 1, [s1.heap.objs.size + 1, s1.heap.objs.size], _, _, H1, rfl, I1.kept (t' := s1.toks) hk, turn_enum a _ _ (Nat.succ_ne_self _), ⟨⟨_, he'⟩, hit⟩, fun b hb => ?_, hR⟩
    rcases List.mem_cons.mp hb with z | z
    · rw [z]; exact I1.fpOk (Nat.le_succ _) (I1.hok.fresh (Nat.le_succ _))
    · rw [List.mem_singleton.mp z]; exact I1.fpOk (Nat.le_refl _) (I1.hok.fresh (Nat.le_refl _))
end
theorem forE {K : PySem.W.Frag} {a : Addr} {g : TG} {tb : TS} {D : Ends} {σ : St} {H : Hp} (ns : List Int) (Pv : Nat → St → Hp → Prop) (h0 : Pv 0 σ H) (hl : ∀ i σ H, Pv i σ H → SqL K H a (ns.map V.int))
    (hs : ∀ i (x : Int) σ H t H', ns[i]? = some x → Pv i σ H → Same H H' → H' t = some (.tup [.int (i : Int), .int x]) → g (.ref t) σ H' fun σ2 H2 => tb { D with nx := Pv (i + 1), ct := Pv (i + 1), bk := D.nx } σ2 H2) (hd : ∀ σ H, Pv ns.length σ H → D.nx σ H) :
    ForIt (Ite K a) g tb D σ H := by
  refine ⟨fun i m σ H => m = ns.length - i ∧ i ≤ ns.length ∧ Pv i σ H, ⟨ns.length, by simp, Nat.zero_le _, h0⟩, ?_⟩
  rintro i m σ H ⟨rfl, hi, p⟩
  have q := hl i σ H p
  by_cases hlt : i < ns.length
  · have hx : ns[i]? = some ns[i] := List.getElem?_eq_getElem hlt
    have hx' : (ns.map V.int)[i]? = some (.int ns[i]) := by rw [List.getElem?_map, hx]; rfl
    refine .inr ⟨⟨_, _, q, hx'⟩, Pv (i + 1), fun σ' H' p' => ⟨ns.length - (i + 1), by ((try clear hi hx hx'); omega), rfl, hlt, p'⟩, fun x H' y => ?_⟩
    obtain ⟨y, t, hy, ht, rfl, rfl⟩ := y
    have hy := hy _ q
    rw [hx'] at hy
    cases hy
    exact hs i _ σ H t _ hx p (same_new ht _) upd_same
  · have e : i = ns.length := by omega
    subst e
    exact .inl ⟨⟨_, q, by simp⟩, hd σ H p⟩
section
variable {X : Cx} {e lo hi st : Expr} {te : TE} {tl th tk : TO} {pos p2 : Pos}
end
section
variable {X : Cx}
noncomputable def rGetL (K : PySem.W.Frag) : R2 := fun x y H Q => ∃ p xs i v, x = .ref p ∧ y = .int i ∧ 0 ≤ i ∧ SqL K H p xs ∧ xs[i.toNat]? = some v ∧ Q v H
theorem get_list : PGet X (rGetL X.K) := by
  intro pins s σ H o i ov iv Q I ro ri h
  obtain ⟨p, xs, k, v, rfl, rfl, h0, hq, hv, q⟩ := h
  cases ro
  obtain ⟨t, rfl⟩ := ri
  obtain ⟨its, r, pl, hz⟩ := I.list hq
  obtain ⟨u, eu, ru⟩ := r.get hv
  have hn := line63
  have hl := (List.getElem?_eq_some_iff.mp hv).1
  exact wpAny_getItem_list pl.isList h0 (by ((try clear eu h0 hv); omega)) (x := u) (by simpa using eu) ⟨v, H, I, ru, q⟩
theorem cut_init {α : Type} (f : α → V) (xs : List α) : cutV (xs.map f) none (some (-1)) = xs.dropLast.map f := by
  have e : HT.sIx (xs.map f).length (xs.map f).length (some (-1)) = xs.length - 1 := by
    rw [List.length_map]
    simp only [HT.sIx]
    split <;> omega
  unfold cutV
  rw [HT.sIx_none, e, List.drop_zero, Nat.sub_zero, List.dropLast_eq_take, List.map_take]
end
section
variable {X : Cx} {a b : Expr} {ta : TA} {p p2 pos pos2 : Pos}
end
end L2
namespace L2
open PySem PySem.Spec PyProof.Rows
namespace So
open PySem.W
section
variable {n : Nat} {key : Nat → Int} {cmp : Nat → Nat → (Bool → Shared → Prop) → Shared → Prop} {s : Shared}
end
end So
end L2
namespace L2
open PySem PySem.Spec PyProof.Rows
section
variable {P : Program} {w : World} {K : PySem.W.Frag} {mg : Str → Option Value} {base : Heap} {x qual : Str} {st : Stmt} {f : Addr} {fd : FuncData} {ps : List Str} {sp : Nat → Sp}
end
section
variable {X : Cx}
end
namespace So
open PySem.W
section
variable {pr : Program} {wo : World} {Ar : Around} {Er : Value → Shared → Prop} {st : Shared}
end
end So
section
variable {X : Cx}
end
end L2
namespace L2
open PySem PySem.Spec PyProof.Rows
noncomputable def tComp2 (caps : List Nat) (wi : TI) (g : TG) (tt : TT) (te : TE) : TE := fun σ H Q => wi σ H fun J H1 => ∃ (n : Nat) (W : Nat → List V → Hp → Prop), n ≤ sizeLine ∧ W 0 [] H1 ∧ ∀ i ys H2, W i ys H2 →
  (J.stop i H2 ∧ ∀ p, H2 p = none → Q (.ref p) (upd H2 p (.lst ys))) ∨
  (J.go i H2 ∧ i < n ∧ ∀ x H3, J.yld i H2 x H3 → ∀ o1 o2 : Option V, g x (o1 :: o2 :: capV caps σ) H3 fun σ4 H4 => (∃ v1 v2 : V, σ4 = some v1 :: some v2 :: capV caps σ) ∧ tt σ4 H4 fun b H5 => if b = true then te σ4 H5 fun v H6 => W (i + 1) (ys ++ [v]) H6 else W (i + 1) ys H5)
section
variable {X : Cx} {scope : Scope} {cl : List (Str × Addr)} {caps : List Nat} {xs : List Str} {C : Addr} {s : Shared} {H : Hp} {fp : List Addr} {pins : List (Addr × Obj)} {σ : St}
theorem comp_start2 (I : Inv X pins σ H s) (hcl : ClOk X.env.cells cl) (hk : scope.kind = .function) (hfp : ∀ b ∈ fp, FpOk X pins H b) (hlt : ∀ b ∈ fp, b < s.heap.objs.size)
    (hhas : ((relabel scope X.env).names.all fun y => !(y.2 == .cell || y.2 == .free) || (cl.lookup y.1).isSome) = true) (hC : s.heap.objs.size ≤ C)
    (hcap : CapsOk X (relabel scope X.env) cl caps xs) (hlen : caps.length = xs.length) {x y : Str} {h₁ : Heap} {t : Nat} {m : Str → Option Value} (hn : h₁.Ns C m) (kp : ∀ b o, s.heap.get? b = some o → h₁.get? b = some o) :
    Inv (compCx X (x :: y :: xs) scope cl C s H fp) [] (none :: none :: capV caps σ) H { s with heap := h₁, toks := t } where
  ok := comp_ok I hcl hk hfp hlt hhas hC
  os := rfl
  bare := I.bare
  base := Un.kept kp
  loc := by
    refine ⟨m, hn, fun i z v h1 h2 _ => ?_⟩
    cases i with
    | zero => simp at h2
    | succ i =>
    cases i with
    | zero => simp at h2
    | succ i =>
      obtain ⟨j, e1, e2, e3, e4, c, e5⟩ := cap_get (X := X) (scope := scope) hcap (i := i) (by simpa [compCx] using h1) (by simpa using h2)
      obtain ⟨m₀, _, hl⟩ := I.loc
      obtain ⟨u, r, lk⟩ := hl j z v e1 e2 (.inr (.inl e3))
      refine ⟨u, r, .inr ⟨.inl e4, c, e5, ?_⟩⟩
      rcases lk with ⟨z1, _⟩ | ⟨_, c', q1, q2⟩
      · have z' : X.env.scope.names.lookup z = some .local := z1
        rw [e3] at z'
        cases z'
      · rw [hcl.get e5] at q1
        cases q1
        obtain ⟨o, ho, hd⟩ := q2
        exact ⟨o, kp _ _ ho, hd⟩
  cell := fun z c e => by
    obtain ⟨v, o, ho, hd⟩ := I.cell z c (hcl.get e)
    exact ⟨v, o, kp _ _ ho, hd⟩
  free := I.hok.fresh hC
  freeC := fun z c e => I.freeC z c (hcl.get e)
  pin := fun p hp => by
    have hp' : p ∈ ([] : List (Addr × Obj)) := hp
    cases hp'
  hok := I.hok.kept kp
  len := by simp [compCx, capV, hlen]
end
section
variable {X : Cx}
theorem comp_block2 {elt iter tgt : Expr} {x y : Str} {pos : Pos} {g : TG} {ifs : List Expr} {scope : Scope} {cl : List (Str × Addr)} {caps : List Nat} {xs : List Str} {tt : TT} {te : TE}
    (hc : X.calm = true) (hcl : ClOk X.env.cells cl) (hcap : CapsOk X (relabel scope X.env) cl caps xs) (hlen : caps.length = xs.length)
    (hkind : scope.kind = .function) (hcell : ∀ y ∈ scope.names, y.2 ≠ .cell)
    (hhas : ((relabel scope X.env).names.all fun y => !(y.2 == .cell || y.2 == .free) || (cl.lookup y.1).isSome) = true)
    (hg : ∀ C s H fp, PG (compCx X (x :: y :: xs) scope cl C s H fp) tgt g)
    (ht : ∀ C s H fp, PTs (compCx X (x :: y :: xs) scope cl C s H fp) ifs tt) (he : ∀ C s H fp, PE (compCx X (x :: y :: xs) scope cl C s H fp) elt te)
    {pins : List (Addr × Obj)} {σ : St} {H1 : Hp} {s2 : Shared} {it : Addr} {fp : List Addr} {tn : Nat → Heap → Prop} {J : It} {Q : VK}
    (I2 : Inv X pins σ H1 s2) (T : Turn X.prog X.w X.K tgt J fp it tn) (st0 : tn 0 s2.heap) (hfp : ∀ b ∈ fp, FpOk X pins H1 b)
    (hq : ∃ (n : Nat) (W : Nat → List V → Hp → Prop), n ≤ sizeLine ∧ W 0 [] H1 ∧ ∀ i ys H2, W i ys H2 →
      (J.stop i H2 ∧ ∀ p, H2 p = none → Q (.ref p) (upd H2 p (.lst ys))) ∨
      (J.go i H2 ∧ i < n ∧ ∀ x H3, J.yld i H2 x H3 → ∀ o1 o2 : Option V, g x (o1 :: o2 :: capV caps σ) H3 fun σ4 H4 => (∃ v1 v2 : V, σ4 = some v1 :: some v2 :: capV caps σ) ∧ tt σ4 H4 fun b H5 => if b = true then te σ4 H5 fun v H6 => W (i + 1) (ys ++ [v]) H6 else W (i + 1) ys H5))
    {RR : Value → Addr → Result → Shared → Prop}
    (hRR : ∀ s1 D C m H', Inv X pins σ H' s1 → s1.heap.Ns C m → Loose X pins H' C → Q (.ref D) H' → RR (.ref D) C (.ok .next) s1) :
    wpAny (model X.prog X.w) X.A (newList []) (fun acc s₃ => wpAny (model X.prog X.w) X.A (newFunctionEnv scope X.env.globals cl [] X.env.qual none .none (some X.env)) (fun cenv s₄ =>
      codeAny (model X.prog X.w) X.A (.compStart (.ListComp elt [⟨tgt, iter, ifs, 0⟩] scope pos) 0 (.ref it) acc { cenv with scope := relabel scope X.env }) (RR acc cenv.locals) s₄) X.xe s₃) X.xe s2 := by
  obtain ⟨n, W, hn, w0, hW⟩ := hq
  have hlt : ∀ b ∈ fp, b < s2.heap.objs.size := fun b hb => by
    obtain ⟨o, ho, _⟩ := T.obj 0 s2.heap st0 b hb
    exact Heap.lt_size ho
  refine wpAny_newObj_type (wpAny_newFunctionEnv hcell (by intro y hy; simp at hy) (fun h₁ hns₁ hsb₁ => ?_) hkind)
  dsimp only at hns₁ hsb₁ ⊢
  generalize hH2 : s2.heap.push { cls := .type "list", dict := none, data := .seq ([] : List Value).toArray } = G at hns₁ hsb₁ ⊢
  have hC : G.objs.size = s2.heap.objs.size + 1 := by rw [← hH2, Heap.size_push]
  have hDC : s2.heap.objs.size ≠ G.objs.size := by ((try clear hH2 hc hhas hkind hlen hn); omega)
  have old : ∀ b o, s2.heap.get? b = some o → h₁.get? b = some o := fun b o e => hsb₁.extBut b o (adr (by have h1 : @LT.lt Nat _ b s2.heap.objs.size := Heap.lt_size e; ((try clear e hDC hH2 hc hhas hkind hlen hn); omega))) (Heap.get?_push_of_some _ (hH2 ▸ Heap.get?_push_of_some _ e))
  have hacc : h₁.get? s2.heap.objs.size = some { cls := .type "list", dict := none, data := .seq ([] : List Value).toArray } :=
    hsb₁.extBut _ _ hDC (Heap.get?_push_of_some _ (hH2 ▸ Heap.get?_push_size _ rfl))
  have I3 : Inv (compCx X (x :: y :: xs) scope cl G.objs.size s2 H1 fp) [] (none :: none :: capV caps σ) H1 { s2 with heap := h₁, toks := s2.toks + ([] : List (Str × Value)).length } :=
    comp_start2 I2 hcl hkind hfp hlt hhas (by ((try clear hDC hH2 hacc hc hhas hkind hlen hn); omega)) hcap hlen hns₁ old
  have st1 : tn 0 h₁ := T.keep 0 _ _ st0 fun b hb o e => old b o e
  have fpX : ∀ {pins' : List (Addr × Obj)} {H' : Hp} (b : Addr), b ∈ fp → H' b = none → (∀ p ∈ pins', p.1 ≠ b) → FpOk (compCx X (x :: y :: xs) scope cl G.objs.size s2 H1 fp) pins' H' b := fun b hb hh hp =>
    ⟨hh, fun z => by have h1 : @LT.lt Nat _ b s2.heap.objs.size := hlt b hb; have z' : @Eq Nat b G.objs.size := z; ((try clear hDC hH2 hacc hc hh hhas hkind hlen hn z); omega), fun z => by
      rcases List.mem_cons.mp (I2.stkSub b z) with q | q
      · exact (hfp b hb).2.1 q
      · exact (hfp b hb).2.2.1 q, .inl hb, fun y c e => (hfp b hb).2.2.2.2.1 y c (hcl.get e), fun p hp' => hp p hp'⟩
  let XC := compCx X (x :: y :: xs) scope cl G.objs.size s2 H1 fp
  have loop : ∀ s3 : Shared, s3 = { s2 with heap := h₁, toks := s2.toks + ([] : List (Str × Value)).length } →
      codeAny (model X.prog X.w) X.A (.compLoop (.ListComp elt [⟨tgt, iter, ifs, 0⟩] scope pos) 0 (.ref it) (.ref s2.heap.objs.size) (compEnvC scope cl G.objs.size X.env))
        (RR (.ref s2.heap.objs.size) G.objs.size) s3 := by
    rintro s3 rfl
    refine comp_loop (fun m s' => ∃ (i : Nat) (ys : List V) (Hn : Hp) (its : List Value) (k : Nat) (v0 v1 : Option V), m = n + 1 - i ∧ i ≤ n ∧ ys.length ≤ i ∧ W i ys Hn ∧ Vals ys its ∧ tn i s'.heap ∧ (∀ b ∈ fp, Hn b = none) ∧
      Inv XC [(s2.heap.objs.size, { cls := .type "list", data := .seq its.toArray k })] (v0 :: v1 :: capV caps σ) Hn s') ?_ (n + 1) ?_
    · rintro m s' ⟨i, ys, Hn, its, k, v0, v1, rfl, hin, hyl, w, rv, st, hfn, J'⟩
      have pD := J'.pin _ (List.mem_append_right _ (List.mem_singleton.mpr rfl))
      have neD : ∀ b ∈ fp, ∀ p ∈ [((s2.heap.objs.size, ({ cls := .type "list", data := .seq its.toArray k } : Obj)))], p.1 ≠ b := fun b hb p hp z => by
        have h1 : @LT.lt Nat instLTNat b s2.heap.objs.size := hlt b hb
        rw [List.mem_singleton.mp hp] at z
        have z' : @Eq Nat s2.heap.objs.size b := z
        ((try clear hC hDC hH2 hacc hc hhas hin hkind hlen hn hyl pD z'); omega)
      rcases hW i ys Hn w with ⟨hstop, fin⟩ | ⟨hgo, hi', hgo'⟩
      · -- it stops
        refine wpAny_mono (T.done XC rfl rfl rfl hc i _ s' _ Hn (fun _ _ => False) J' (fun b hb => fpX b hb (hfn b hb) (neD b hb)) st hstop) (fun r s1 hr => ?_) fun _ _ z => z
        obtain ⟨rfl, J1⟩ := hr
        obtain ⟨mC, hnC, _⟩ := J1.loc
        have pD1 := J1.pin _ (List.mem_append_right _ (List.mem_singleton.mpr rfl))
        have hD' : s1.heap.get? s2.heap.objs.size = some { cls := .type "list", data := .seq its.toArray k } := pD1.1
        have hHD : Hn s2.heap.objs.size = none := pD1.2.1
        have hHC : Hn G.objs.size = none := J1.free
        have un : Un (frs X.stack) fp H1 (upd Hn s2.heap.objs.size (.lst ys)) s2.heap s1.heap := by
          have u := J1.base
          have lt2 : ∀ b o, s2.heap.get? b = some o → b ≠ G.objs.size ∧ b ≠ s2.heap.objs.size := fun b o e => by
            have h1 := ltN e
            exact ⟨adr (by ((try clear e hD' hDC hH2 hHC hHD hacc hc hhas hin hkind hlen hn hyl pD pD1); omega)), adr (by ((try clear e hC hD' hDC hH2 hHC hHD hacc hc hhas hin hkind hlen hn hyl pD pD1); omega))⟩
          refine ⟨u.keep, u.slot, fun b o e n1 n2 => ?_, u.there, fun b zs e => ?_, fun b o u' e => ?_, fun b ps e => ?_⟩
          · rw [upd_ne (lt2 b o e).2]
            exact u.free b o e n1 n2
          · have q := u.tups b zs e
            rw [upd_ne (fun z => by rw [z, hHD] at q; cases q)]
            exact q
          · have q := u.frzs b o u' e
            rw [upd_ne (fun z => by rw [z, hHD] at q; cases q)]
            exact q
          · obtain ⟨more, q⟩ := u.tbls b ps e
            refine ⟨more, ?_⟩
            rw [upd_ne (fun z => by rw [z, hHD] at q; cases q)]
            exact q
        have hok : HOk X.prog X.w (upd Hn s2.heap.objs.size (.lst ys)) s1.heap := fun a o e => by
          by_cases ha : a = s2.heap.objs.size
          · subst ha
            rw [upd_same] at e
            cases e
            exact ⟨by ((try clear hC hD' hDC hH2 hHC hHD hacc hc hhas hkind hlen pD pD1); omega), its, k, rv, hD'⟩
          · rw [upd_ne ha] at e
            have q : ObjOk X.prog X.w Hn s1.heap a o := J1.hok a o e
            refine q.stay (fun b u' hb e' => e') (fun b e' => ?_) fun b zs e' => ?_
            · rw [upd_ne (fun z => by rw [z, hHD] at e'; cases e')]; exact e'
            · rw [upd_ne (fun z => by rw [z, hHD] at e'; cases e')]; exact e'
        have I4 : Inv X pins σ (upd Hn s2.heap.objs.size (.lst ys)) s1 :=
          I2.call' (ch := fp) J1.os un hok J1.bare fun b hb => ⟨(hfp b hb).2.2.2.1, (hfp b hb).2.1, (hfp b hb).2.2.2.2.1, (hfp b hb).2.2.2.2.2⟩
        refine hRR s1 _ _ mC _ I4 hnC ⟨by rw [upd_ne (Ne.symm hDC)]; exact hHC, fun z => ?_, by have := I2.sz; ((try clear hD' hDC hH2 hHC hHD hacc hc hhas hin hkind hlen hn hyl pD pD1); omega), fun y c e z => ?_, fun p hp z => ?_⟩ (fin _ hHD)
        · have h1 : @LT.lt Nat instLTNat X.env.locals s2.heap.objs.size := I2.lt
          have z' : @Eq Nat G.objs.size X.env.locals := z
          ((try clear hD' hDC hH2 hHC hHD hacc hc hhas hin hkind hlen hn hyl pD pD1 z); omega)
        · obtain ⟨v', o', ho', _⟩ := I2.cell y c e
          have h1 := ltN ho'
          have z' : @Eq Nat c G.objs.size := z
          ((try clear e hD' hDC hH2 hHC hHD hacc hc hhas hin hkind hlen hn ho' hyl pD pD1 z); omega)
        · have h1 := ltN (I2.pin p hp).1
          have z' : @Eq Nat p.1 G.objs.size := z
          ((try clear hD' hDC hH2 hHC hHD hacc hc hhas hin hkind hlen hn hyl pD pD1 z); omega)
      · -- a turn
        refine wpAny_mono (T.item XC rfl rfl rfl hc i _ s' _ Hn (fun _ _ => False) J' (fun b hb => fpX b hb (hfn b hb) (neD b hb)) st hgo) (fun r s1 hr => ?_) fun _ _ z => z
        obtain ⟨u, rfl, hr⟩ := hr
        refine wpAny_mono hr (fun _ s2' h2 => ?_) fun _ _ z => z
        obtain ⟨v, H3, J1, ru, hy, st1', hf3⟩ := h2
        have ob4 : ∀ b ∈ fp, ∃ o, s2'.heap.get? b = some o ∧ ∀ v, o.data ≠ .cell v := fun b hb => T.obj _ _ st1' b hb
        have J3 := J1.pinned (fun b hb => fpX b hb (hf3 b hb) (neD b hb)) ob4
        have tnAt : ∀ {σ' : St} {H' : Hp} {s'' : Shared}, Inv XC ([(s2.heap.objs.size, ({ cls := .type "list", data := .seq its.toArray k } : Obj))] ++ pinsAt fp s2'.heap) σ' H' s'' → tn (i + 1) s''.heap ∧ ∀ b ∈ fp, H' b = none := fun J4 =>
          ⟨T.keep _ _ _ st1' fun b hb o e => (J4.pin (b, o) (List.mem_append_right _ (List.mem_append_right _ (mem_pinsAt hb e)))).1, fun b hb => by
            obtain ⟨o, e, _⟩ := ob4 b hb
            exact (J4.pin (b, o) (List.mem_append_right _ (List.mem_append_right _ (mem_pinsAt hb e)))).2.1⟩
        refine wpAny_mono (hg _ _ _ _ _ s2' _ H3 v u _ J3 ru (hgo' v H3 hy v0 v1)) (fun _ s4 h4 => ?_) fun _ _ z => z
        obtain ⟨σ4, H3', J3', ⟨w1, w2, rfl⟩, q3⟩ := h4
        refine thn (ht _ _ _ _ _ s4 _ H3' _ J3' q3) fun ok s5 ⟨H4, J4, q4⟩ => ?_
        cases ok with
        | false =>
          rw [if_neg (by simp)]
          have q4' : W (i + 1) ys H4 := q4
          obtain ⟨a1, a2⟩ := tnAt J4
          exact ⟨n + 1 - (i + 1), by ((try clear hC hDC hH2 hacc hc hhas hin hkind hlen hn hyl pD); omega), i + 1, ys, H4, its, k, some w1, some w2, rfl, by ((try clear hC hDC hH2 hacc hc hhas hin hkind hlen hn hyl pD); omega), by ((try clear hC hDC hH2 hacc hc hhas hi' hin hkind hlen hn pD); omega), q4', rv, a1, a2, J4.unpinned⟩
        | true =>
          rw [if_pos rfl]
          have q4' : te (some w1 :: some w2 :: capV caps σ) H4 fun v H5 => W (i + 1) (ys ++ [v]) H5 := q4
          refine thn (he _ _ _ _ _ s5 _ H4 _ J4 q4') fun uv s6 ⟨y, H5, J5, ry, q5⟩ => ?_
          obtain ⟨a1, a2⟩ := tnAt J5
          have pD6 := J5.pin _ (List.mem_append_right _ (List.mem_append_left _ (List.mem_singleton.mpr rfl)))
          have hl6 := rv.length
          refine call_meets F.slot_list_append ⟨_, pD6.1, rfl⟩ F.entry_list_append (F.args_list_append_2 _ _) (PySem.list_append s2.heap.objs.size its.toArray k uv (by rw [List.size_toArray]; ((try clear hC hDC hH2 hacc hc hhas hin hkind hlen pD pD6); omega))) ⟨pD6.1, ?_⟩
          have J6 : Inv XC [] (some w1 :: some w2 :: capV caps σ) H5 s6 := J5.pins_of fun p hp => by cases hp
          have ne6 : s2.heap.objs.size ∉ fp := fun z => by have h1 : @LT.lt Nat instLTNat s2.heap.objs.size s2.heap.objs.size := hlt _ z; ((try clear hC hDC hH2 hacc hc hhas hi' hin hkind hl6 hlen hn hyl pD pD6); omega)
          have J7 : Inv XC [] (some w1 :: some w2 :: capV caps σ) H5 { s6 with heap := s6.heap.update s2.heap.objs.size (Obj.mapSeq fun xs => xs.push uv), toks := s6.toks } :=
            J6.turned (it := s2.heap.objs.size) (fun b o hb e => by rw [Heap.get?_update_other _ _ (Ne.symm hb)]; exact e) pD6.2.1 (fun z => hDC z) (.inr (Nat.le_refl _)) (fun y c e z => by
              have e1 := I2.cell y c (hcl.get e)
              obtain ⟨v', o', ho', _⟩ := e1
              have h1 := ltN ho'
              have z' : @Eq Nat c s2.heap.objs.size := z
              ((try clear e hC hDC hH2 hacc hc hhas hi' hin hkind hl6 hlen hn ho' hyl ne6 pD pD6 z); omega)) (fun p hp => by cases hp)
          refine ⟨n + 1 - (i + 1), by ((try clear hC hDC hH2 hacc hc hhas hin hkind hl6 hlen hn hyl ne6 pD pD6); omega), i + 1, ys ++ [y], H5, its ++ [uv], k + 1, some w1, some w2, rfl, by ((try clear hC hDC hH2 hacc hc hhas hin hkind hl6 hlen hn hyl ne6 pD pD6); omega), by rw [List.length_append, List.length_singleton]; ((try clear hC hDC hH2 hacc hc hhas hi' hin hkind hlen hn ne6 pD pD6); omega), q5, rv.append (.cons ry .nil), ?_, a2, ?_⟩
          · refine T.keep _ _ _ a1 fun b hb o e => ?_
            show (s6.heap.update s2.heap.objs.size _).get? b = some o
            rw [Heap.get?_update_other _ _ (fun z => ne6 (by rw [z]; exact hb))]
            exact e
          · refine J7.pins_of fun p hp => ?_
            rw [List.mem_singleton.mp hp]
            refine ⟨?_, pD6.2.1, fun z => hDC z, pD6.2.2.2.1, fun v' z => ?_⟩
            · show (s6.heap.update s2.heap.objs.size _).get? s2.heap.objs.size = _
              rw [Heap.get?_update_self _ pD6.1 rfl]
              simp only [Obj.mapSeq, List.push_toArray]
              rw [if_neg (by simp)]
            · have z' : Data.seq _ _ = Data.cell v' := z
              cases z'
    · exact ⟨0, [], H1, [], 0, none, none, by ((try clear hC hDC hH2 hacc hc hhas hkind hlen hn); omega), by ((try clear hC hDC hH2 hacc hc hhas hkind hlen hn); omega), by simp, w0, .nil, st1, fun b hb => (hfp b hb).1, I3.pins_of fun p hp => by
        rw [List.mem_singleton.mp hp]
        refine ⟨hacc, I2.hok.fresh (Nat.le_refl _), fun z => hDC z, fun z => ?_, fun v' z => ?_⟩
        · have := I2.stkFree _ z
          rcases List.mem_cons.mp (I2.stkSub _ z) with q | q
          · have h1 : @LT.lt Nat instLTNat X.env.locals s2.heap.objs.size := I2.lt
            have z' : @Eq Nat s2.heap.objs.size X.env.locals := q
            ((try clear hC hDC hH2 hacc hc hhas hkind hlen hn q this); omega)
          · exact I2.nofs (Nat.le_refl _) q
        · have z' : Data.seq _ _ = Data.cell v' := z
          cases z'⟩
  exact codeAny_compStart_list (loop _ rfl) (T.self X.A 0 _ _ _ st1 (loop _ rfl))
theorem pe_comp2 {elt iter : Expr} {x y : Str} {px py pt pos : Pos} {k1 : Nat} {ifs : List Expr} {scope : Scope} {cl : List (Str × Addr)} (caps : List Nat) (xs : List Str) {wi : TI} {tt : TT} {te : TE}
    (hc : X.calm = true) (hclos : closureFor scope X.env = pure cl) (hcl : ClOk X.env.cells cl) (hcap : CapsOk X (relabel scope X.env) cl caps xs) (hlen : caps.length = xs.length)
    (hkind : scope.kind = .function) (hcell : ∀ y ∈ scope.names, y.2 ≠ .cell) (hnames : ∀ y ∈ scope.names, y.2 = .local → scope.names.lookup y.1 = some .local)
    (hhas : ((relabel scope X.env).names.all fun y => !(y.2 == .cell || y.2 == .free) || (cl.lookup y.1).isSome) = true)
    (hx : (relabel scope X.env).names.lookup x = some .local) (hy : (relabel scope X.env).names.lookup y = some .local) (hN : (x :: y :: xs).Nodup) (hi : PI X (.Tuple [.Name x px, .Name y py] k1 pt) iter wi) (ht : ∀ C s H fp, PTs (compCx X (x :: y :: xs) scope cl C s H fp) ifs tt) (he : ∀ C s H fp, PE (compCx X (x :: y :: xs) scope cl C s H fp) elt te)
    (hs : ∀ v, foldedSetIterable iter X.env v = pure v := by intro _; rfl) : PE X (.ListComp elt [⟨.Tuple [.Name x px, .Name y py] k1 pt, iter, ifs, 0⟩] scope pos) (tComp2 caps wi (gTup X.K 2 (gCons (gName 0) (gCons (gName 1) gNil))) tt te) := by
  intro pins s σ H Q I h
  rw [eval_ListComp]
  refine wpAny_comprehension_free (use := none) rfl hs hclos hkind hnames (wpAny_mono (hi pins s σ H _ I h) (fun v s1 h1 => wpAny_mono h1 (fun itv s2 h2 => ?_) fun _ _ e => e) fun _ _ e => e)
  obtain ⟨it, fp, tn, J, H1, rfl, I2, T, st0, hfp, hq⟩ := h2
  refine comp_block2 (RR := fun acc C => compPost (model X.prog X.w) X.A X.xe none (EP X pins σ Q) acc C) hc hcl hcap hlen hkind hcell hhas (fun C s H fp => pg_tup (X := compCx X (x :: y :: xs) scope cl C s H fp) hc (pgs_cons (pg_name (i := 0) hN rfl (.inl hx) (.inr hx)) (pgs_cons (pg_name (i := 1) hN rfl (.inl hy) (.inr hy)) pgs_nil))) ht he I2 T st0 hfp hq ?_
  intro s1 D C m H' I4 hn l q
  exact ⟨m, hn, fun h' hsb => ⟨.ref D, H', I4.letGo l hsb, rfl, q⟩⟩
end
end L2
namespace L2
open PySem PySem.Spec PyProof.Rows
section
variable {K : PySem.W.Frag} {H : Hp} {l m : Addr} {as cs : List Addr} {fs gs : List (Int × Int)} {Q : VK}
end
noncomputable def CompIt2 (J : It) (caps : List Nat) (g : TG) (tt : TT) (te : TE) (σ : St) (H : Hp) (Q : VK) : Prop := ∃ (n : Nat) (W : Nat → List V → Hp → Prop), n ≤ sizeLine ∧ W 0 [] H ∧ ∀ i ys H2, W i ys H2 →
  (J.stop i H2 ∧ ∀ p, H2 p = none → Q (.ref p) (upd H2 p (.lst ys))) ∨
  (J.go i H2 ∧ i < n ∧ ∀ x H3, J.yld i H2 x H3 → ∀ o1 o2 : Option V, g x (o1 :: o2 :: capV caps σ) H3 fun σ4 H4 => (∃ v1 v2 : V, σ4 = some v1 :: some v2 :: capV caps σ) ∧ tt σ4 H4 fun b H5 => if b = true then te σ4 H5 fun v H6 => W (i + 1) (ys ++ [v]) H6 else W (i + 1) ys H5)
theorem w_comp2 {caps : List Nat} {wi : TI} {g : TG} {tt : TT} {te : TE} {σ : St} {H : Hp} {Q : VK} : tComp2 caps wi g tt te σ H Q = wi σ H fun J H1 => CompIt2 J caps g tt te σ H1 Q := rfl
end L2
namespace L2
open PySem PySem.Spec PyProof.Rows
section
variable {X : Cx} {pins : List (Addr × Obj)} {σ : St} {H : Hp} {s : Shared} {h' : Heap}
theorem Inv.turnedS {t' : Nat} {ch : List Addr} (I : Inv X pins σ H s) (k : ∀ b u, b ∉ ch → s.heap.get? b = some u → h'.get? b = some u) (f : ∀ b, b ∈ ch → FpOk X pins H b) : Inv X pins σ H { s with heap := h', toks := t' } := by
  have nit : ∀ b u, H b = some u → b ∉ ch := fun b u e z => ne_of_none e (f b z).1 rfl
  refine I.step (g' := s.gens) (d' := s.drawn) (ch := ch) (fun b hb => ?_) (fun b o _ _ hc e _ => k b o hc e) (fun b o _ _ hc e _ => ⟨o.slots, k b o hc e⟩) (fun _ _ _ _ n => n)
    (fun b o hc e => ⟨o, k b o hc e⟩) (fun _ _ e => e) (fun _ _ _ e => e) (fun b ps e => ⟨#[], by rw [e]; simp⟩) (fun m hm => ?_) (fun b u e => ?_) I.bare
  · obtain ⟨f0, f1, f2, f3, f4, f5⟩ := f b hb
    exact ⟨f3, f1, f4, f5⟩
  · obtain ⟨o, es, ep, ho, r⟩ := hm
    exact ⟨o, es, ep, k _ o (fun z => (f _ z).2.1 rfl) ho, r⟩
  · refine (I.hok b u e).stay (fun c v hc q => k c v ?_ q) (fun _ q => q) fun _ _ q => q
    rcases hc with z | z
    · rw [z]; exact nit b u e
    · exact nit c _ z
theorem Inv.turnedN {t' : Nat} {a : Addr} {o : HO} {ch : List Addr} (I : Inv X pins σ H s) (k : ∀ b u, b ∉ ch → s.heap.get? b = some u → h'.get? b = some u) (ha : a = s.heap.objs.size) (new : ObjOk X.prog X.w (upd H a o) h' a o) (f : ∀ b, b ∈ ch → FpOk X pins H b) :
    Inv X pins σ (upd H a o) { s with heap := h', toks := t' } := by
  have hnone : H a = none := I.hok.fresh (by rw [ha]; exact Nat.le_refl _)
  have lts : ∀ b u, s.heap.get? b = some u → b ≠ a := fun b u q => by rw [ha]; exact Nat.ne_of_lt (Heap.lt_size q)
  have ntr : ∀ b u, H b = some u → b ∉ ch := fun b u q z => ne_of_none q (f b z).1 rfl
  refine I.step (g' := s.gens) (d' := s.drawn) (ch := ch) (fun b hb => ?_) (fun b u _ _ hc q _ => k b u hc q) (fun b u _ _ hc q _ => ⟨u.slots, k b u hc q⟩) (fun b u _ q n => by rw [upd_ne (lts b u q)]; exact n)
    (fun b u hc q => ⟨u, k b u hc q⟩) (fun b zs q => by rw [upd_ne (ne_of_none q hnone)]; exact q) (fun b u v q => by rw [upd_ne (ne_of_none q hnone)]; exact q) (fun b ps q => ⟨#[], by rw [upd_ne (ne_of_none q hnone), q]; simp⟩) (fun m hm => ?_) (fun b u q => ?_) I.bare
  · obtain ⟨f0, f1, f2, f3, f4, f5⟩ := f b hb
    exact ⟨f3, f1, f4, f5⟩
  · obtain ⟨u, es, ep, ho, r⟩ := hm
    exact ⟨u, es, ep, k _ u (fun z => (f _ z).2.1 rfl) ho, r⟩
  · by_cases hb : b = a
    · subst hb
      rw [upd_same] at q
      cases q
      exact new
    · rw [upd_ne hb] at q
      have w : ObjOk X.prog X.w H s.heap b u := I.hok b u q
      have ntr' : ∀ c, (c = b ∨ ∃ u, H c = some u) → c ∉ ch := fun c hc => by
        rcases hc with z | ⟨_, z⟩
        · rw [z]; exact ntr b u q
        · exact ntr c _ z
      refine w.stay (fun c v hc q' => k c v (ntr' c ?_) q') (fun c q' => ?_) fun c zs q' => ?_
      · rcases hc with z | z
        · exact .inl z
        · exact .inr ⟨_, z⟩
      · rw [upd_ne (ne_of_none q' hnone)]; exact q'
      · rw [upd_ne (ne_of_none q' hnone)]; exact q'
end
noncomputable def Itz (K : PySem.W.Frag) (a b : Addr) : It :=
  ⟨fun i H => ∃ xs ys x y, SqL K H a xs ∧ SqL K H b ys ∧ xs[i]? = some x ∧ ys[i]? = some y, fun i H x H' => ∃ y z t, (∀ xs, SqL K H a xs → xs[i]? = some y) ∧ (∀ xs, SqL K H b xs → xs[i]? = some z) ∧ H t = none ∧ x = .ref t ∧ H' = upd H t (.tup [y, z]), fun i H => ∃ xs ys, SqL K H a xs ∧ SqL K H b ys ∧ (xs.length ≤ i ∨ ys.length ≤ i)⟩
theorem ane {x y : Nat} (h : x ≠ y) : ¬ (x : Addr) = (y : Addr) := h
theorem ne_list {h : Heap} {l c : Addr} {xs : Array Value} (hl : h.IsList l xs) (hc : ∃ o, h.get? c = some o ∧ o.cls ≠ .type "list") : l ≠ c := by
  obtain ⟨o, ho, n⟩ := hc
  obtain ⟨u, hu, cu, _⟩ := hl
  intro z
  rw [z, ho] at hu
  cases hu
  exact n cu
theorem turn_zip {P : Program} {w : World} {K : PySem.W.Frag} {elts : List Expr} {x1} {tp : Pos} (a b : Addr) (n : Nat) : Turn P w K (.Tuple elts x1 tp) (Itz K a b) [n + 4, n + 2, n + 3, n, n + 1] (n + 4) (fun i h => IsZip h (n + 4) (n + 2) (n + 3) .none ∧ IsPair h (n + 2) (.ref n) (.ref (n + 1)) ∧ (∃ u v, IsPair h (n + 3) u v) ∧ h.IsListIter n a i ∧ h.IsListIter (n + 1) b i) where
  mem := by simp
  obj := fun i h st c hc => by
    obtain ⟨h1, h2, ⟨u, v, h3⟩, ⟨o4, q4, c4, d4⟩, ⟨o5, q5, c5, d5⟩⟩ := st
    simp only [List.mem_cons, List.not_mem_nil, or_false] at hc
    rcases hc with z | z | z | z | z
    · subst z
      exact ⟨_, h1, fun v z => by
        have z' : Data.fields _ = Data.cell v := z
        cases z'⟩
    · subst z
      exact ⟨_, h2, fun v z => by
        have z' : Data.seq _ = Data.cell v := z
        cases z'⟩
    · subst z
      exact ⟨_, h3, fun v z => by
        have z' : Data.seq _ = Data.cell v := z
        cases z'⟩
    · subst z
      exact ⟨o4, q4, fun v z => by rw [d4] at z; cases z⟩
    · subst z
      exact ⟨o5, q5, fun v z => by rw [d5] at z; cases z⟩
  keep := fun i h h' st k => by
    obtain ⟨h1, h2, ⟨u, v, h3⟩, h4, h5⟩ := st
    exact ⟨k _ (by simp) _ h1, k _ (by simp) _ h2, ⟨u, v, k _ (by simp) _ h3⟩, h4.at fun o q => k n (by simp) o q, h5.at fun o q => k (n + 1) (by simp) o q⟩
  item := by
    intro X hP hw hK hc i pins s σ H E I hf st hg
    subst hP hw hK
    obtain ⟨xs, ys, x, y, hq1, hq2, hx, hy⟩ := hg
    obtain ⟨its, rv, pl, hz⟩ := I.list hq1
    obtain ⟨u, hu, ru⟩ := rv.get hx
    obtain ⟨its2, rv2, pl2, hz2⟩ := I.list hq2
    obtain ⟨u2, hu2, ru2⟩ := rv2.get hy
    obtain ⟨h1, h2, ⟨v1, v2, h3⟩, h4, h5⟩ := st
    have c1 : ∃ o, s.heap.get? (n + 4) = some o ∧ o.cls ≠ .type "list" := ⟨_, h1, by show Value.type "zip" ≠ Value.type "list"; decide⟩
    have c3 : ∃ o, s.heap.get? (n + 3) = some o ∧ o.cls ≠ .type "list" := ⟨_, h3, by show Value.type "tuple" ≠ Value.type "list"; decide⟩
    have c4 : ∃ o, s.heap.get? n = some o ∧ o.cls ≠ .type "list" := by obtain ⟨o, q, c, _⟩ := h4; exact ⟨o, q, by rw [c]; decide⟩
    have c5 : ∃ o, s.heap.get? (n + 1) = some o ∧ o.cls ≠ .type "list" := by obtain ⟨o, q, c, _⟩ := h5; exact ⟨o, q, by rw [c]; decide⟩
    have D : ZipApart (n + 4) (n + 2) (n + 3) n (n + 1) a b := ⟨ane (by ((try clear hc hu hu2 hx hy hz hz2); omega)), ane (by ((try clear hc hu hu2 hx hy hz hz2); omega)), ane (by ((try clear hc hu hu2 hx hy hz hz2); omega)), ane (by ((try clear hc hu hu2 hx hy hz hz2); omega)), ane (by ((try clear hc hu hu2 hx hy hz hz2); omega)), ane (by ((try clear hc hu hu2 hx hy hz hz2); omega)), ane (by ((try clear hc hu hu2 hx hy hz hz2); omega)), ane (by ((try clear hc hu hu2 hx hy hz hz2); omega)), ane (by ((try clear hc hu hu2 hx hy hz hz2); omega)), ane (by ((try clear hc hu hu2 hx hy hz hz2); omega)), ne_list pl.isList c1, ne_list pl.isList c3, ne_list pl.isList c4, ne_list pl.isList c5, ne_list pl2.isList c1, ne_list pl2.isList c3, ne_list pl2.isList c4, ne_list pl2.isList c5⟩
    have hel : n + 4 < s.heap.objs.size := Heap.lt_size h1
    refine wpAny_pyNext_zip_item D h1 h2 h3 h4 h5 pl.isList pl2.isList (x := u) (y := u2) (by simpa using hu) (by simpa using hu2) fun g1 a1 a2 a3 a4 a5 a6 a7 => ⟨_, rfl, ?_⟩
    refine wpAny_letOwnedTupleGo_zip a1 fun g2 b1 hs2 => ?_
    have hs2' : Heap.SameBut (n + 4) g1 g2 := hs2
    have hnone : H s.heap.objs.size = none := I.hok.fresh (Nat.le_refl _)
    have kk : ∀ c o, c ∉ [n + 4, n + 2, n + 3, n, n + 1] → s.heap.get? c = some o → g2.get? c = some o := fun c o hc q => by
      simp only [List.mem_cons, List.not_mem_nil, or_false, not_or] at hc
      exact (hs2'.2 c hc.1).trans (a7 c o hc.1 hc.2.2.1 hc.2.2.2.1 hc.2.2.2.2 q)
    refine ⟨.ref s.heap.objs.size, upd H s.heap.objs.size (.tup [x, y]), I.turnedN (t' := s.toks) kk rfl ?_ hf, rfl, ⟨x, y, _, fun zs hz => by rw [I.list_inj hz hq1]; exact hx, fun zs hz => by rw [I.list_inj hz hq2]; exact hy, hnone, rfl, rfl⟩, ⟨b1, ?_, ⟨_, _, (hs2'.2 _ (ane (by ((try clear a6 hc hel hnone hu hu2 hx hy hz hz2); omega)))).trans a2⟩, a3.extBut hs2'.extBut (ane (by ((try clear a6 hc hel hnone hu hu2 hx hy hz hz2); omega))), a4.extBut hs2'.extBut (ane (by ((try clear a6 hc hel hnone hu hu2 hx hy hz hz2); omega)))⟩, fun c hc => ?_⟩
    · exact ⟨by show 2 ≤ sizeLine; decide, [u, u2], .cons ru (.cons ru2 .nil), ⟨_, (hs2'.2 _ (ane (by ((try clear hc hnone hu hu2 hx hy hz hz2); omega)))).trans a5, rfl, _, rfl⟩⟩
    · exact (hs2'.2 _ (ane (by ((try clear a6 hc hel hnone hu hu2 hx hy hz hz2); omega)))).trans (a7 _ _ (ane (by ((try clear a6 hc hel hnone hu hu2 hx hy hz hz2); omega))) (ane (by ((try clear a6 hc hel hnone hu hu2 hx hy hz hz2); omega))) (ane (by ((try clear a6 hc hel hnone hu hu2 hx hy hz hz2); omega))) (ane (by ((try clear a6 hc hel hnone hu hu2 hx hy hz hz2); omega))) h2)
    · have hb0 : H c = none := (hf c hc).1
      have hbl : c < s.heap.objs.size := by
        simp only [List.mem_cons, List.not_mem_nil, or_false] at hc
        have hel' : (n : Nat) + 4 < s.heap.objs.size := hel
        rcases hc with z | z | z | z | z <;> rw [z] <;> show (_ : Nat) < s.heap.objs.size <;> ((try clear hb0 hc hnone hu hu2 hx hy hz hz2 z); omega)
      rw [upd_ne (Nat.ne_of_lt hbl)]
      exact hb0
  done := by
    intro X hP hw hK hc i pins s σ H E I hf st hg
    subst hP hw hK
    obtain ⟨xs, ys, hq1, hq2, hx⟩ := hg
    obtain ⟨its, rv, pl, hz⟩ := I.list hq1
    obtain ⟨its2, rv2, pl2, hz2⟩ := I.list hq2
    obtain ⟨h1, h2, ⟨v1, v2, h3⟩, h4, h5⟩ := st
    have l1 := rv.length
    have l2 := rv2.length
    have c1 : ∃ o, s.heap.get? (n + 4) = some o ∧ o.cls ≠ .type "list" := ⟨_, h1, by show Value.type "zip" ≠ Value.type "list"; decide⟩
    have c3 : ∃ o, s.heap.get? (n + 3) = some o ∧ o.cls ≠ .type "list" := ⟨_, h3, by show Value.type "tuple" ≠ Value.type "list"; decide⟩
    have c4 : ∃ o, s.heap.get? n = some o ∧ o.cls ≠ .type "list" := by obtain ⟨o, q, c, _⟩ := h4; exact ⟨o, q, by rw [c]; decide⟩
    have c5 : ∃ o, s.heap.get? (n + 1) = some o ∧ o.cls ≠ .type "list" := by obtain ⟨o, q, c, _⟩ := h5; exact ⟨o, q, by rw [c]; decide⟩
    have D : ZipApart (n + 4) (n + 2) (n + 3) n (n + 1) a b := ⟨ane (by ((try clear hc hx hz hz2 l1 l2); omega)), ane (by ((try clear hc hx hz hz2 l1 l2); omega)), ane (by ((try clear hc hx hz hz2 l1 l2); omega)), ane (by ((try clear hc hx hz hz2 l1 l2); omega)), ane (by ((try clear hc hx hz hz2 l1 l2); omega)), ane (by ((try clear hc hx hz hz2 l1 l2); omega)), ane (by ((try clear hc hx hz hz2 l1 l2); omega)), ane (by ((try clear hc hx hz hz2 l1 l2); omega)), ane (by ((try clear hc hx hz hz2 l1 l2); omega)), ane (by ((try clear hc hx hz hz2 l1 l2); omega)), ne_list pl.isList c1, ne_list pl.isList c3, ne_list pl.isList c4, ne_list pl.isList c5, ne_list pl2.isList c1, ne_list pl2.isList c3, ne_list pl2.isList c4, ne_list pl2.isList c5⟩
    refine wpAny_pyNext_zip_end (I.ok.hd hc) D h1 h2 h3 h4 h5 pl.isList pl2.isList ?_ fun g1 a7 => ⟨rfl, I.turnedS (t' := s.toks) (ch := [n + 4, n + 2, n + 3, n, n + 1]) (fun c o hc q => ?_) hf⟩
    · rcases hx with z | z
      · exact .inl (by simp; ((try clear hc hz hz2 l2); omega))
      · exact .inr (by simp; ((try clear hc hz hz2 l1); omega))
    · simp only [List.mem_cons, List.not_mem_nil, or_false, not_or] at hc
      exact a7 c o hc.1 hc.2.2.1 hc.2.2.2.1 hc.2.2.2.2 q
  self := fun _ _ _ _ _ ⟨hz, _⟩ h => wpAny_pyIter_zip hz h
section
variable {X : Cx} {e e2 : Expr} {te te2 : TE} {p pos : Pos}
noncomputable def iZip (K : PySem.W.Frag) (tl tl2 : TE) : TI := fun σ H R => tl σ H fun x H1 => tl2 σ H1 fun y H2 => ∃ a b, x = .ref a ∧ y = .ref b ∧ (∃ xs, SqL K H2 a xs) ∧ (∃ ys, SqL K H2 b ys) ∧ R (Itz K a b) H2
theorem pi_zip {elts : List Expr} {x1} {tp : Pos} (hg : Gl X "zip") (hm : X.mg "zip" = none) (he : PE X e te) (he2 : PE X e2 te2) (hs : starEach [e, e2] X.env = (false, eval e X.env) :: starEach [e2] X.env := by rfl) (hs2 : starEach [e2] X.env = (false, eval e2 X.env) :: starEach [] X.env := by rfl) : PI X (.Tuple elts x1 tp) (.Call (.Name "zip" p) [e, e2] [] pos) (iZip X.K te te2) := by
  intro pins s σ H R I h
  refine wpAny_Call_Name_kw (ld_blt I hg hm PyProof.Rows.boot_zip ?_ (by decide) (by decide))
  refine PyProof.Rows.callWith_type1 (thn (pa_cons he (pa_cons he2 pa_nil hs2) hs pos pins s σ H (fun vs H2 => ∃ a b, vs = [.ref a, .ref b] ∧ (∃ xs, SqL X.K H2 a xs) ∧ (∃ ys, SqL X.K H2 b ys) ∧ R (Itz X.K a b) H2) I ?_) fun us s1 ⟨vs, H1, I1, r1, q1⟩ => ?_) hs (by rw [hs2]; rfl)
  · show te σ H fun x H1 => te2 σ H1 fun y H2 => _
    have e3 : (fun x H1 => te2 σ H1 fun y H2 => tNil σ H2 fun xs H3 => (fun vs H2 => ∃ a b, vs = [V.ref a, V.ref b] ∧ (∃ xs, SqL X.K H2 a xs) ∧ (∃ ys, SqL X.K H2 b ys) ∧ R (Itz X.K a b) H2) (x :: y :: xs) H3) = fun x H1 => te2 σ H1 fun y H2 => ∃ a b, x = V.ref a ∧ y = V.ref b ∧ (∃ xs, SqL X.K H2 a xs) ∧ (∃ ys, SqL X.K H2 b ys) ∧ R (Itz X.K a b) H2 := by
      funext x H1
      congr 1
      funext y H2
      simp only [tNil, List.cons.injEq, and_true, and_assoc]
    have := h
    unfold iZip at this
    rw [← e3] at this
    exact this
  · obtain ⟨a, b, rfl, ⟨xs, hq⟩, ⟨ys, hq2⟩, hR⟩ := q1
    obtain ⟨u, u2, rfl, ru, ru2⟩ := vals2 r1
    cases ru
    cases ru2
    obtain ⟨its, rv, pl, hz⟩ := I1.list hq
    obtain ⟨its2, rv2, pl2, hz2⟩ := I1.list hq2
    refine call_zip_2 pl.isList pl2.isList fun h' a1 a2 a3 a4 a5 a6 hk => ?_
    refine wpAny_pyIter_zip a1 ?_
    refine ⟨s1.heap.objs.size + 4, [s1.heap.objs.size + 4, s1.heap.objs.size + 2, s1.heap.objs.size + 3, s1.heap.objs.size, s1.heap.objs.size + 1], _, _, H1, rfl, I1.kept (t' := s1.toks) hk, turn_zip a b _, ⟨a1, a2, ⟨_, _, a3⟩, a4, a5⟩, fun c hc => ?_, hR⟩
    have : s1.heap.objs.size ≤ c := by
      simp only [List.mem_cons, List.not_mem_nil, or_false] at hc
      rcases hc with z | z | z | z | z <;> rw [z] <;> show s1.heap.objs.size ≤ (_ : Nat) <;> ((try clear a6 hm hs hs2 hz hz2 z); omega)
    exact I1.fpOk this (I1.hok.fresh this)
end
theorem comp2Z {K : PySem.W.Frag} {a b : Addr} {caps : List Nat} {tt : TT} {te : TE} {σ : St} {H : Hp} {Q : VK} (ns ms : List Int) (Pv : Nat → List V → Hp → Prop) (hn : ns.length ≤ sizeLine) (hnm : ns.length = ms.length) (h0 : Pv 0 [] H) (hl : ∀ i ys H, Pv i ys H → SqL K H a (ns.map V.int) ∧ SqL K H b (ms.map V.int))
    (hs : ∀ i (x y : Int) ys H H', ns[i]? = some x → ms[i]? = some y → Pv i ys H → Same H H' → tt (some (.int x) :: some (.int y) :: capV caps σ) H' fun t H4 => if t = true then te (some (.int x) :: some (.int y) :: capV caps σ) H4 fun v H5 => Pv (i + 1) (ys ++ [v]) H5 else Pv (i + 1) ys H4)
    (hd : ∀ ys H, Pv ns.length ys H → ∀ p, H p = none → Q (.ref p) (upd H p (.lst ys))) : CompIt2 (Itz K a b) caps (gTup K 2 (gCons (gName 0) (gCons (gName 1) gNil))) tt te σ H Q := by
  refine ⟨ns.length, fun i ys H => i ≤ ns.length ∧ Pv i ys H, hn, ⟨Nat.zero_le _, h0⟩, ?_⟩
  rintro i ys H2 ⟨hi, p⟩
  obtain ⟨hS, hS2⟩ := hl i ys H2 p
  by_cases hlt : i < ns.length
  · have hb : ns[i]? = some ns[i] := List.getElem?_eq_getElem hlt
    have hv : (ns.map V.int)[i]? = some (.int ns[i]) := by rw [List.getElem?_map, hb]; rfl
    have hlt2 : i < ms.length := by ((try clear hb hi hn hv); omega)
    have hb2 : ms[i]? = some ms[i] := List.getElem?_eq_getElem hlt2
    have hv2 : (ms.map V.int)[i]? = some (.int ms[i]) := by rw [List.getElem?_map, hb2]; rfl
    refine .inr ⟨⟨_, _, _, _, hS, hS2, hv, hv2⟩, hlt, ?_⟩
    rintro y H3 ⟨y, z, t, hy, hz, ht, rfl, rfl⟩ o1 o2
    have hy := hy _ hS
    rw [hv] at hy
    cases hy
    have hz := hz _ hS2
    rw [hv2] at hz
    cases hz
    refine ⟨t, _, rfl, SqT.of upd_same, rfl, _, _, rfl, _, _, rfl, rfl, ⟨_, _, rfl⟩, ?_⟩
    have key := hs i _ _ ys H2 _ hb hb2 p (same_new ht (.tup [.int ns[i], .int ms[i]]))
    have e2 : (fun (t : Bool) (H4 : Hp) => if t = true then te (some (.int ns[i]) :: some (.int ms[i]) :: capV caps σ) H4 fun v H5 => Pv (i + 1) (ys ++ [v]) H5 else Pv (i + 1) ys H4) = fun t H4 => if t = true then te (some (.int ns[i]) :: some (.int ms[i]) :: capV caps σ) H4 fun v H5 => i + 1 ≤ ns.length ∧ Pv (i + 1) (ys ++ [v]) H5 else i + 1 ≤ ns.length ∧ Pv (i + 1) ys H4 := by
      funext t H4
      have z : i + 1 ≤ ns.length := hlt
      simp only [z, true_and]
    rw [e2] at key
    exact key
  · have e : i = ns.length := by ((try clear hn); omega)
    subst e
    exact .inl ⟨⟨_, _, hS, hS2, .inl (by rw [List.length_map]; ((try clear hlt hn hnm); omega))⟩, hd ys H2 p⟩
end L2
namespace L2
open PySem PySem.Spec PyProof.Rows
section
variable {X : Cx} {body suite suite2 : List Stmt} {b₀ b₁ : Stmt} {D D2 : Addr} {cx cx2 : Str} {np np2 hpos hpos2 pos : Pos} {tb : (St → XK) → TS} {ts ts2 : TS}
end
section
variable {X : Cx}
end
end L2
namespace L2
open PySem
theorem seqX {t u : TS} {D : Ends} {σ : St} {H : Hp} (h : ∀ X : St → Hp → Prop, (∀ σ' H', u D σ' H' → X σ' H') → t { D with nx := X } σ H) : tSeq t u D σ H := h (u D) fun _ _ z => z
theorem seqJ {t u : TS} {D : Ends} {σ : St} {H : Hp} (R : St → Hp → Prop) (h : t { D with nx := R } σ H) (hR : ∀ σ' H', R σ' H' → u D σ' H') : tSeq (tJoin t) u D σ H := joinB R h hR
theorem byX {G : Prop} (h : ∀ X : Prop, (G → X) → X) : G := h G id
end L2
namespace K73
/- Dr.DegP.zero Dr.DegP.pq Dr.emod_same Dr.same_of -/
open PySem L2
set_option maxHeartbeats 1000000
section
noncomputable def top (i : Nat) : Stmt := PySem.Challenge.pw_deeprests_k73_no_parts.main.body.getD i (.Pass ⟨0, 0, 0, 0⟩)
noncomputable abbrev s_power_of : Stmt := top 15
theorem S_power_of : FnScope ["p", "e", "power", "turn"] ["p", "e"] (defScope s_power_of) := ⟨rfl, rfl, rfl, by decide +kernel, rfl, by decide +kernel, by decide +kernel⟩
noncomputable abbrev s_inverse_by_prime : Stmt := top 16
theorem S_inverse_by_prime : FnScope ["p", "x", "fitting"] ["p", "x"] (defScope s_inverse_by_prime) := ⟨rfl, rfl, rfl, by decide +kernel, rfl, by decide +kernel, by decide +kernel⟩
noncomputable abbrev s_inverse_of : Stmt := top 17
theorem S_inverse_of : FnScope ["p", "e", "x", "power", "y", "reached"] ["p", "e", "x"] (defScope s_inverse_of) := ⟨rfl, rfl, rfl, by decide +kernel, rfl, by decide +kernel, by decide +kernel⟩
noncomputable abbrev s_degree_of : Stmt := top 19
theorem S_degree_of : FnScope ["f", "degree", "place", "number"] ["f"] (defScope s_degree_of) := ⟨rfl, rfl, rfl, by decide +kernel, rfl, by decide +kernel, by decide +kernel⟩
noncomputable abbrev s_poly_product : Stmt := top 20
theorem S_poly_product : FnScope ["f", "g", "product", "place", "number", "other_place", "other_number"] ["f", "g"] (defScope s_poly_product) := ⟨rfl, rfl, rfl, by decide +kernel, rfl, by decide +kernel, by decide +kernel⟩
noncomputable abbrev s_rests_of : Stmt := top 22
theorem S_rests_of : FnScope ["p", "f"] ["p", "f"] (defScope s_rests_of) := ⟨rfl, rfl, rfl, by decide +kernel, rfl, by decide +kernel, by decide +kernel⟩
noncomputable abbrev s_poly_difference : Stmt := top 23
theorem S_poly_difference : FnScope ["f", "g", "longest", "padded", "place", "number"] ["f", "g"] (defScope s_poly_difference) := ⟨rfl, rfl, rfl, by decide +kernel, rfl, by decide +kernel, by decide +kernel⟩
noncomputable abbrev s_divided_by_prime : Stmt := top 24
theorem S_divided_by_prime : FnScope ["p", "f", "g", "degree", "inverse", "quotient", "rest", "place", "times", "step"] ["p", "f", "g"] (defScope s_divided_by_prime) := ⟨rfl, rfl, rfl, by decide +kernel, rfl, by decide +kernel, by decide +kernel⟩
noncomputable abbrev s_inverse_beside : Stmt := top 25
theorem S_inverse_beside : FnScope ["p", "h", "g", "ahead", "row", "divided", "following"] ["p", "h", "g"] (defScope s_inverse_beside) := ⟨rfl, rfl, rfl, by decide +kernel, rfl, by decide +kernel, by decide +kernel⟩
noncomputable abbrev s_may_part : Stmt := top 26
theorem S_may_part : FnScope ["p", "N", "f", "g", "h"] ["p", "N", "f", "g", "h"] (defScope s_may_part) := ⟨rfl, rfl, rfl, by decide +kernel, rfl, by decide +kernel, by decide +kernel⟩
noncomputable abbrev s_raised : Stmt := top 27
theorem S_raised : FnScope ["f", "power", "more"] ["f", "power", "more"] (defScope s_raised) := ⟨rfl, rfl, rfl, by decide +kernel, rfl, by decide +kernel, by decide +kernel⟩
noncomputable abbrev s_parts_at : Stmt := top 28
theorem S_parts_at : FnScope ["p", "N", "f", "g", "h", "g_rests", "h_rests", "inverse", "G", "H", "power", "turn", "missing", "u", "v"] ["p", "N", "f", "g", "h"] (defScope s_parts_at) := ⟨rfl, rfl, rfl, by decide +kernel, rfl, by decide +kernel, by decide +kernel⟩
noncomputable abbrev s__law_cell_at : Stmt := top 30
theorem S__law_cell_at : FnScope ["script", "k"] ["script", "k"] (defScope s__law_cell_at) := ⟨rfl, rfl, rfl, by decide +kernel, rfl, by decide +kernel, by decide +kernel⟩
noncomputable abbrev s__law_prime : Stmt := top 31
theorem S__law_prime : FnScope ["cell", "primes"] ["cell"] (defScope s__law_prime) := ⟨rfl, rfl, rfl, by decide +kernel, rfl, by decide +kernel, by decide +kernel⟩
noncomputable abbrev s__law_times : Stmt := top 32
theorem S__law_times : FnScope ["f", "g", "found", "k", "j"] ["f", "g"] (defScope s__law_times) := ⟨rfl, rfl, rfl, by decide +kernel, rfl, by decide +kernel, by decide +kernel⟩
noncomputable abbrev s__law_good : Stmt := top 33
theorem S__law_good : FnScope ["p", "cell", "other", "a", "b", "g", "h", "c", "f"] ["p", "cell", "other"] (defScope s__law_good) := ⟨rfl, rfl, rfl, by decide +kernel, rfl, by decide +kernel, by decide +kernel⟩
noncomputable abbrev s__law_spoilt : Stmt := top 34
theorem S__law_spoilt : FnScope ["p", "good", "cell", "f", "g", "h", "a", "way", "N", "at", "some"] ["p", "good", "cell"] (defScope s__law_spoilt) := ⟨rfl, rfl, rfl, by decide +kernel, rfl, by decide +kernel, by decide +kernel⟩
noncomputable abbrev s__law_kinds : Stmt := top 35
theorem S__law_kinds : FnScope ["p", "N", "f", "g", "h", "kinds", "e"] ["p", "N", "f", "g", "h"] (defScope s__law_kinds) := ⟨rfl, rfl, rfl, by decide +kernel, rfl, by decide +kernel, by decide +kernel⟩
noncomputable abbrev s_law : Stmt := top 36
theorem S_law : FnScope ["script", "p", "k", "good", "deep", "handed", "N", "f", "g", "h", "found"] ["script"] (defScope s_law) := ⟨rfl, rfl, rfl, by decide +kernel, rfl, by decide +kernel, by decide +kernel⟩
structure Bi (mg : Str → Option Value) (K : PySem.W.Frag) : Prop where
  b_ValueError : mg "ValueError" = none
  b_enumerate : mg "enumerate" = none
  b_isinstance : mg "isinstance" = none
  b_len : mg "len" = none
  b_list : mg "list" = none
  b_max : mg "max" = none
  b_min : mg "min" = none
  b_range : mg "range" = none
  b_zip : mg "zip" = none
  c_NoBall : mg "NoBall" = some (.ref (clK K "NoBall"))
  c_NoDepth : mg "NoDepth" = some (.ref (clK K "NoDepth"))
  c_NoInverse : mg "NoInverse" = some (.ref (clK K "NoInverse"))
  c_NoName : mg "NoName" = some (.ref (clK K "NoName"))
  c_NoParts : mg "NoParts" = some (.ref (clK K "NoParts"))
  c_NoPrime : mg "NoPrime" = some (.ref (clK K "NoPrime"))
  c_NoRow : mg "NoRow" = some (.ref (clK K "NoRow"))
  c_NoSingle : mg "NoSingle" = some (.ref (clK K "NoSingle"))
  c_NoSmall : mg "NoSmall" = some (.ref (clK K "NoSmall"))
  c_NoText : mg "NoText" = some (.ref (clK K "NoText"))
  c_RestError : mg "RestError" = some (.ref (clK K "RestError"))
  c_TooDeep : mg "TooDeep" = some (.ref (clK K "TooDeep"))
  c_TooGreat : mg "TooGreat" = some (.ref (clK K "TooGreat"))
  x_NoParts : ExcK K (clK K "NoParts")
  m_NoParts_RestError : PySem.W.exmOne K (.ref (clK K "NoParts")) (.ref (clK K "RestError")) = some true
  f_NoParts : Xc.ExcC K (clK K "NoParts")
  i_NoParts_NoBall : PySem.W.kitOne K (.ref (clK K "NoParts")) (.ref (clK K "NoBall")) = some false
  i_NoParts_NoDepth : PySem.W.kitOne K (.ref (clK K "NoParts")) (.ref (clK K "NoDepth")) = some false
  i_NoParts_NoInverse : PySem.W.kitOne K (.ref (clK K "NoParts")) (.ref (clK K "NoInverse")) = some false
  i_NoParts_NoName : PySem.W.kitOne K (.ref (clK K "NoParts")) (.ref (clK K "NoName")) = some false
  i_NoParts_NoParts : PySem.W.kitOne K (.ref (clK K "NoParts")) (.ref (clK K "NoParts")) = some true
  i_NoParts_NoPrime : PySem.W.kitOne K (.ref (clK K "NoParts")) (.ref (clK K "NoPrime")) = some false
  i_NoParts_NoRow : PySem.W.kitOne K (.ref (clK K "NoParts")) (.ref (clK K "NoRow")) = some false
  i_NoParts_NoSingle : PySem.W.kitOne K (.ref (clK K "NoParts")) (.ref (clK K "NoSingle")) = some false
  i_NoParts_NoSmall : PySem.W.kitOne K (.ref (clK K "NoParts")) (.ref (clK K "NoSmall")) = some false
  i_NoParts_NoText : PySem.W.kitOne K (.ref (clK K "NoParts")) (.ref (clK K "NoText")) = some false
  i_NoParts_RestError : PySem.W.kitOne K (.ref (clK K "NoParts")) (.ref (clK K "RestError")) = some true
  i_NoParts_TooDeep : PySem.W.kitOne K (.ref (clK K "NoParts")) (.ref (clK K "TooDeep")) = some false
  i_NoParts_TooGreat : PySem.W.kitOne K (.ref (clK K "NoParts")) (.ref (clK K "TooGreat")) = some false
  i_NoParts_ValueError : PySem.W.kitOne K (.ref (clK K "NoParts")) (.type "ValueError") = some true
variable {P : Program} {w : World} {K : PySem.W.Frag} {mg : Str → Option Value} {base : Heap} {f : Addr} {fd : FuncData}
theorem log_small {p : Int} (h : 2 ≤ p ∧ p < 1000) : CDivW 0 p := ⟨by omega, by
  have h1 : p.natAbs < 1000 := by omega
  have h2 : p.natAbs.log2 < 10 := (Nat.log2_lt (by ((try clear h1); omega))).mpr (Nat.lt_trans h1 (by decide))
  ((try clear h h1); omega)⟩
theorem atI_ints {ns : List Int} {i : Int} (h0 : 0 ≤ i) (h1 : i < (ns.length : Int)) : atI (ns.map V.int) i = some (.int (ns.getD i.toNat 0)) := by
  have hk : i.toNat < ns.length := by omega
  have ek : i = ((i.toNat : Nat) : Int) := by ((try clear h1 hk); omega)
  have g : atI (ns.map V.int) ((i.toNat : Nat) : Int) = some (.int (ns.getD i.toNat 0)) := atI_nat (by rw [List.getElem?_map, List.getElem?_eq_getElem hk, List.getD_eq_getElem?_getD, List.getElem?_eq_getElem hk]; rfl)
  rw [← ek] at g
  exact g
theorem getD_in {ns : List Int} {i : Int} (h0 : 0 ≤ i) (h1 : i < (ns.length : Int)) : ns.getD i.toNat 0 ∈ ns := by
  rw [List.getD_eq_getElem?_getD, List.getElem?_eq_getElem (by omega)]
  exact List.getElem_mem _
theorem mod_in (x : Int) {m : Int} (h : 0 < m) : 0 ≤ x % m ∧ x % m < m := ⟨Int.emod_nonneg x (by omega), Int.emod_lt_of_pos x h⟩
noncomputable def Sh (n : Int) : Prop := Builtin.Int.intBits n ≤ 2 ^ 20 + 64
theorem sh_div {n m : Int} (h : Sh n) (hm : 0 < m) : Sh (n / m) := by
  unfold Sh at *
  have : n / m = n.fdiv m := (Int.fdiv_eq_ediv_of_nonneg n (by ((try clear h); omega))).symm
  rw [this]
  exact PyProof.Rows.bits_fdiv h
theorem pow_bits {p : Int} (hp : 2 ≤ p ∧ p < 1000) (n : Nat) : (p ^ n).natAbs < 2 ^ (10 * n + 1) := by
  have h1 : p ^ n ≤ 1024 ^ n := int_pow_le (by omega) (by omega) _
  have h2 : (1024 : Int) ^ n = ((2 ^ (10 * n) : Nat) : Int) := by
    rw [Nat.pow_mul]
    simp
  have h3 := Dr.pow_pos hp.1 n
  rw [Nat.pow_succ]
  ((try clear hp); omega)
theorem us1 {us : List Value} (h : us.length = 1) : ∃ a0, us = [a0] := List.length_eq_one_iff.mp h
theorem us2 : ∀ {us : List Value}, us.length = 2 → ∃ a0 a1, us = [a0, a1]
  | [], h => (by cases h)
  | a0 :: r, h => by
    obtain ⟨a1, rfl⟩ := us1 (us := r) (by simpa using h)
    exact ⟨a0, a1, rfl⟩
theorem us3 : ∀ {us : List Value}, us.length = 3 → ∃ a0 a1 a2, us = [a0, a1, a2]
  | [], h => (by cases h)
  | a0 :: r, h => by
    obtain ⟨a1, a2, rfl⟩ := us2 (us := r) (by simpa using h)
    exact ⟨a0, a1, a2, rfl⟩
theorem us4 : ∀ {us : List Value}, us.length = 4 → ∃ a0 a1 a2 a3, us = [a0, a1, a2, a3]
  | [], h => (by cases h)
  | a0 :: r, h => by
    obtain ⟨a1, a2, a3, rfl⟩ := us3 (us := r) (by simpa using h)
    exact ⟨a0, a1, a2, a3, rfl⟩
theorem us5 : ∀ {us : List Value}, us.length = 5 → ∃ a0 a1 a2 a3 a4, us = [a0, a1, a2, a3, a4]
  | [], h => (by cases h)
  | a0 :: r, h => by
    obtain ⟨a1, a2, a3, a4, rfl⟩ := us4 (us := r) (by simpa using h)
    exact ⟨a0, a1, a2, a3, a4, rfl⟩
theorem mulSm {a b : Int} {m n : Nat} (ha : Dr.Sm a m) (hb : Dr.Sm b n) (h : m + n ≤ 134217728) : IntMulOk a b := PyProof.Rows.mulOk_of_bits (PyProof.Rows.intBits_le ha) (PyProof.Rows.intBits_le hb) h
theorem sm_of {a : Int} {k : Nat} (B : Int) (h : -B ≤ a ∧ a ≤ B) (hB : B.natAbs < 2 ^ k) : Dr.Sm a k := by
  unfold Dr.Sm
  omega
theorem rep_zero (n : Nat) : (List.replicate n [V.int 0]).flatten = (List.replicate n (0 : Int)).map V.int := by
  induction n with
  | zero => rfl
  | succ n ih => simp [List.replicate_succ, ih]
theorem ixN_nn {n : Nat} {k : Int} (h0 : 0 ≤ k) (h1 : k < (n : Int)) : ixN n k = some k.toNat := by
  unfold ixN
  simp only [h0, if_true, if_pos]
  rw [if_pos (by ((try clear h0); omega))]
theorem get_int {fs : List Int} {k : Int} (h0 : 0 ≤ k) (h1 : k < (fs.length : Int)) : ∃ v, fs[k.toNat]? = some v ∧ atI (fs.map V.int) k = some (.int v) ∧ ixN (fs.map V.int).length k = some k.toNat ∧ (fs.map V.int)[k.toNat]? = some (.int v) := by
  have hk : k.toNat < fs.length := by omega
  have e : fs[k.toNat]? = some fs[k.toNat] := List.getElem?_eq_getElem hk
  refine ⟨fs[k.toNat], e, ?_, ixN_nn h0 (by rw [List.length_map]; exact h1), by rw [List.getElem?_map, e]; rfl⟩
  rw [atI_ints h0 h1, List.getD_eq_getElem?_getD, e]
  rfl
theorem set_int (fs : List Int) (k : Nat) (v : Int) : (fs.map V.int).set k (.int v) = (fs.set k v).map V.int := by rw [List.map_set]
theorem mem_set {fs : List Int} {k : Nat} {v c : Int} (h : c ∈ fs.set k v) : c ∈ fs ∨ c = v := List.mem_or_eq_of_mem_set h
theorem steps {i T : Nat} {v n : Int} (h : v.natAbs ≤ i * T) (h' : n.natAbs ≤ T) : (v + n).natAbs ≤ (i + 1) * T := by
  rw [Nat.succ_mul]
  omega
noncomputable def sp_power_of (_ : PySem.W.Frag) : Sp := fun vs H Q _ => ∃ (p e : Int), vs = [.int p, .int e] ∧ (2 ≤ p ∧ p < 1000) ∧ (0 ≤ e ∧ e < 100000) ∧ Q (.int (p ^ e.toNat)) H
theorem ok_power_of (B : Bi mg K) (F : Fun K "power_of" "power_of" s_power_of f fd) : FnOk P w K mg base CX0 1 f fd ["p", "e"] (sp_power_of K) := by
  refine F.ok S_power_of (fun vs H Q E h => ?_) (fun cdv A outer s H vs Q E hr h => ?_)
  · obtain ⟨p, e, rfl, _⟩ := h
    rfl
  obtain ⟨p, e, rfl, hp, he, q⟩ := h
  have S := S_power_of
  refine ⟨_, ((pss_cons (ps_set (i := 2) S.nd rfl (Or.inl rfl) pe_int)
    (pss_cons (ps_for PassesOwn.never rfl (pi_range1 rfl B.b_range (pa_cons (pv 1) pa_nil)) (pg_name (i := 3) S.nd rfl (Or.inl rfl)) (pss_one (ps_set (i := 2) S.nd rfl (Or.inl rfl) (pe_op op_mulW (pv 2) (pv 0)))))
    (pss_one (ps_ret (pv 2)))))), ?_⟩
  refine ⟨_, rfl, e, rfl, by ((try clear hp); omega), by ((try clear hp); omega), ?_⟩
  refine for_range (n := e.toNat) (fun i σ H' => H' = H ∧ ∃ t, σ = [some (.int p), some (.int e), some (.int (p ^ i)), t]) ⟨rfl, none, by rw [Int.pow_zero]; rfl⟩ ?_ ?_
  · rintro i σ H' hi ⟨rfl, t, rfl⟩
    refine ⟨_, rfl, _, rfl, _, _, rfl, rfl, IntMulOk.of_right (intBits_le_64 (by ((try clear he hi); omega)) (by ((try clear he hi); omega))), rfl, some (.int (0 + (i : Int))), ?_⟩
    rw [Int.pow_succ]
    rfl
  · rintro σ H' ⟨rfl, t, rfl⟩
    exact ⟨_, rfl, q⟩
noncomputable def sp_inverse_by_prime (_ : PySem.W.Frag) : Sp := fun vs H Q _ => ∃ (p x : Int), vs = [.int p, .int x] ∧ p ∈ Dr.primes ∧ x % p ≠ 0 ∧ ∀ (y : Int) (H' : Hp), 1 ≤ y ∧ y < p → x * y % p = 1 → Same H H' → Q (.int y) H'
local macro_rules | `(tactic| walk_at "dr1") => `(tactic| simp only [tNext, tRet, tDrop, tIfS, tTest, tB, tAnd, tOr, tNot, tAsg, gName, gTup, gLst, gCons, gNil, tAug, tVar, tC, tOp, tUn, rI, rI0, rU, rEq, rNe, ipI, tCons, tNil, tTup, tLst, tCall, tCB, tSl, tNoPart, tPart, gSub, tAugS, rGetL, iEnum, iZip, rSlL, rIxL, rIxT, rSetL, rCat, rRep, tNever, tRaise, tTryAs, Ends.gone, tCallX, cx_K, cc_K, w_tyl, Int.reduceLT, Int.reduceLE, Nat.reduceLT, Nat.reduceLeDiff, w_for, w_comp, w_comp2, capV, Option.getD_some, iRng1, iRng2, iRng3, iList, L2.start, sc_ii, isCls, clsV, List.getElem?_cons_zero, List.getElem?_cons_succ, List.set_cons_zero, List.set_cons_succ, List.map_cons, List.map_nil, List.cons_append, List.nil_append, List.append_nil, List.replicate_succ, List.replicate_zero, List.length_cons, List.length_nil, Option.some.injEq, exists_eq, exists_eq', exists_eq_left, exists_eq_left', exists_and_left, exists_and_right, List.cons.injEq, V.int.injEq, V.bl.injEq, V.ref.injEq, reduceCtorEq, and_true, true_and, and_assoc, false_and, and_false, or_false, false_or, exists_false, decide_eq_true_eq, Bool.not_eq_true', decide_eq_false_iff_not, Bool.not_eq_true, Bool.false_eq_true, ite_true, ite_false, if_true, if_false, Bool.not_true, Bool.not_false, Bool.true_eq, beq_self_eq_true, decide_true, decide_false, eq_self_iff_true, not_true_eq_false, not_false_eq_true])
theorem ok_inverse_by_prime (B : Bi mg K) (F : Fun K "inverse_by_prime" "inverse_by_prime" s_inverse_by_prime f fd) : FnOk P w K mg base CX0 1 f fd ["p", "x"] (sp_inverse_by_prime K) := by
  refine F.ok S_inverse_by_prime (fun vs H Q E h => ?_) (fun cdv A outer s H vs Q E hr h => ?_)
  · obtain ⟨p, x, rfl, _⟩ := h
    rfl
  obtain ⟨p, x, rfl, hp, hx, q⟩ := h
  have S := S_inverse_by_prime
  have p2 := Dr.primes_ge hp
  have hpp : 2 ≤ p ∧ p < 1000 := by ((try clear hx); omega)
  refine ⟨_, ((pss_cons (ps_comp [0, 1] ["p", "x"] rfl S.nd (k := 2) rfl rfl rfl rfl ⟨rfl, rfl, trivial⟩ ⟨rfl, rfl, rfl, rfl, rfl, rfl, rfl, rfl, trivial⟩ rfl rfl (by decide) (by decide) rfl rfl (by decide) (pi_range2 rfl B.b_range (pa_cons pe_int (pa_cons (pv 0) pa_nil))) (fun _ _ _ _ => (pts_one (pt_cmpR op_eq (pe_op op_mod (pe_op op_mulW (pv 2) (pv 0)) (pv 1)) pe_int (nomark _)))) (fun _ _ _ _ => (pv 0)))
    (pss_one (ps_ret (pe_ix ix_list (pv 2) pe_int (fun _ _ => rfl)))))), ?_⟩
  (first | refine hX _ _ ?_ | skip); (try dsimp only); try (repeat (first | dsimp only [tSeq] | walk_at "dr1"))
  repeat (refine And.intro (by first | ((try clear hx); omega) | exact ⟨by decide, by decide⟩ | decide | assumption | exact log_small (by assumption) | exact Dr.pow_pos (by omega) _ | exact IntMulOk.of_left (by decide) | exact cell_sh (by assumption) (by omega) | exact sh_div (by assumption) (by decide) | exact sh_div (cell_sh (by assumption) (by omega)) (by decide)) ?_)
  obtain ⟨Pv, hPv⟩ : ∃ Pv : Nat → List V → Hp → Prop, ∀ i ys H', Pv i ys H' ↔ (H' = H ∧ ∃ zs : List Int, ys = zs.map V.int ∧ (∀ z, z ∈ zs → (1 ≤ z ∧ z < p) ∧ x * z % p = 1) ∧ (∀ y : Int, 1 ≤ y → y < 1 + i → x * y % p = 1 → zs ≠ [])) := ⟨_, fun _ _ _ => Iff.rfl⟩
  (first | refine hX _ _ ?_ | skip); refine compR Pv (by unfold sizeLine; ((try clear hpp hx); omega)) ((hPv _ _ _).mpr ⟨rfl, [], rfl, by simp, fun y h1 h2 => by ((try clear hpp hx p2); omega)⟩) ?_ ?_
  · intro i ys H' hi zz
    obtain ⟨rfl, zs, rfl, h1, h2⟩ := (hPv _ _ _).mp zz
    (first | refine hX _ _ ?_ | skip); (try dsimp only); try (repeat (first | dsimp only [tSeq] | walk_at "dr1"))
    refine ⟨IntMulOk.of_right (intBits_le_64 (by ((try clear hi hpp hx p2); omega)) (by ((try clear hpp hx); omega))), by ((try clear hi hpp hx); omega), ite2 (fun c => ?_) (fun c => ?_)⟩
    · refine (hPv _ _ _).mpr ⟨rfl, zs ++ [1 + (i : Int)], by simp, fun z hz => ?_, fun y _ _ _ => by simp⟩
      rcases List.mem_append.mp hz with w | w
      · exact h1 z w
      · rw [List.mem_singleton.mp w]
        exact ⟨by ((try clear c hpp hx); omega), c⟩
    · refine (hPv _ _ _).mpr ⟨rfl, zs, rfl, h1, fun y y1 y2 y3 => ?_⟩
      by_cases w : y = 1 + (i : Int)
      · rw [w] at y3
        exact absurd y3 c
      · exact h2 y y1 (by ((try clear c hi hpp hx p2 y1 y3); omega)) y3
  · intro ys H' zz
    obtain ⟨rfl, zs, rfl, h1, h2⟩ := (hPv _ _ _).mp zz
    intro l n_l; generalize e_l : upd _ l _ = H1; obtain ⟨g1, k1⟩ := newH e_l n_l; clear e_l
    obtain ⟨y, y1, y2, y3⟩ := Dr.inv_ex hp hx
    have hne := h2 y y1 (by ((try clear hpp hx k1 n_l y1 y3); omega)) y3
    cases zs with
    | nil => exact absurd rfl hne
    | cons z zs =>
      (first | refine hX _ _ ?_ | skip); (try dsimp only); try (repeat (first | dsimp only [tSeq] | walk_at "dr1"))
      refine ⟨_, SqL.of k1, _, atI_nat (j := 0) rfl, ?_⟩
      obtain ⟨a1, a2⟩ := h1 z (List.mem_cons_self ..)
      exact q z H1 a1 a2 g1
theorem bits_below {p : Int} (hp : 2 ≤ p ∧ p < 1000) {x : Int} (n : Nat) (h0 : 0 ≤ x) (h : x < p ^ n) : Builtin.Int.intBits x ≤ 10 * n + 1 := PyProof.Rows.intBits_le (by
  have := pow_bits hp n
  have := Dr.pow_pos hp.1 n
  ((try clear hp); omega))
noncomputable def sp_inverse_of (_ : PySem.W.Frag) : Sp := fun vs H Q _ => ∃ (p e x : Int), vs = [.int p, .int e, .int x] ∧ p ∈ Dr.primes ∧ (0 ≤ e ∧ e < 1000) ∧ Builtin.Int.intBits x ≤ 2 ^ 22 ∧ (e = 0 ∨ x % p ≠ 0) ∧ ∀ (y : Int) (H' : Hp), Dr.InvE p x y e.toNat → Same H H' → Q (.int y) H'
theorem ok_inverse_of (B : Bi mg K) (d_power_of : Def P w K mg base "power_of" 1 ["p", "e"] (sp_power_of K)) (d_inverse_by_prime : Def P w K mg base "inverse_by_prime" 1 ["p", "x"] (sp_inverse_by_prime K)) (F : Fun K "inverse_of" "inverse_of" s_inverse_of f fd) : FnOk P w K mg base CX0 2 f fd ["p", "e", "x"] (sp_inverse_of K) := by
  refine F.ok S_inverse_of (fun vs H Q E h => ?_) (fun cdv A outer s H vs Q E hr h => ?_)
  · obtain ⟨p, e, x, rfl, _⟩ := h
    rfl
  obtain ⟨p, e, x, rfl, hp, he, hb, hx, q⟩ := h
  have S := S_inverse_of
  have p2 := Dr.primes_ge hp
  have hpp : 2 ≤ p ∧ p < 1000 := by ((try clear hb he hx); omega)
  refine ⟨_, ((pss_cons (ps_if (pt_cmpR op_eq (pv 1) pe_int (nomark _)) (pss_one (ps_ret pe_int)) pss_nil)
    (pss_cons (ps_if (pt_cmpR op_eq (pe_op op_mod (pv 2) (pv 0)) pe_int (nomark _)) (pss_one ps_never) pss_nil)
    (pss_cons (ps_set (i := 3) S.nd rfl (Or.inl rfl) (pe_def d_power_of hr rfl (pa_cons (pv 0) (pa_cons (pv 1) pa_nil))))
    (pss_cons (ps_set (i := 4) S.nd rfl (Or.inl rfl) (pe_def d_inverse_by_prime hr rfl (pa_cons (pv 0) (pa_cons (pv 2) pa_nil))))
    (pss_cons (ps_set (i := 5) S.nd rfl (Or.inl rfl) pe_int)
    (pss_cons (ps_while PassesOwn.never (pt_cmpR op_lt (pv 5) (pv 1) (nomark _)) (pss_cons (ps_set (i := 4) S.nd rfl (Or.inl rfl) (pe_op op_mod (pe_op op_mulW (pv 4) (pe_op op_sub pe_int (pe_op op_mulW (pv 2) (pv 4)))) (pv 3)))
    (pss_one (ps_set (i := 5) S.nd rfl (Or.inl rfl) (pe_op op_mulW (pv 5) pe_int)))))
    (pss_one (ps_ret (pv 4)))))))))), ?_⟩
  (first | refine hX _ _ ?_ | skip); (try dsimp only); try (repeat (first | dsimp only [tSeq] | walk_at "dr1")); (try simp only [sp_power_of, sp_inverse_by_prime]); try (repeat (first | dsimp only [tSeq] | walk_at "dr1"))
  refine ite2 (fun c => ?_) (fun c => ?_)
  · refine q 0 H ?_ (Same.refl H)
    rw [c]
    exact Dr.InvE.zero p x
  have hx' : x % p ≠ 0 := by
    rcases hx with z | z
    · exact absurd z c
    · exact z
  refine ⟨by ((try clear c hb he hpp hx hx'); omega), ite2 (fun d => absurd d hx') (fun d => ?_)⟩
  repeat (refine And.intro (by first | ((try clear c hb hpp hx hx'); omega) | exact ⟨by decide, by decide⟩ | decide | assumption | exact log_small (by assumption) | exact Dr.pow_pos (by omega) _ | exact IntMulOk.of_left (by decide) | exact cell_sh (by assumption) (by omega) | exact sh_div (by assumption) (by decide) | exact sh_div (cell_sh (by assumption) (by omega)) (by decide)) ?_)
  intro y H1 y1 y2 g1
  have e1 : 1 ≤ e.toNat := by ((try clear hb hpp hx p2 y1 y2); omega)
  have hpe : p ≤ p ^ e.toNat := by
    have : p ^ 1 ≤ p ^ e.toNat := by
      obtain ⟨k, hk⟩ : ∃ k, e.toNat = 1 + k := ⟨e.toNat - 1, by ((try clear c d hb he hpp hx hx' p2 y1 y2); omega)⟩
      rw [hk, Dr.pow_add']
      have := Dr.pow_pos hpp.1 k
      have h2 : 0 < p ^ 1 := Dr.pow_pos hpp.1 1
      have := Int.mul_le_mul_of_nonneg_left (show 1 ≤ p ^ k by ((try clear c d e1 h2 hb he hk hpp hx hx' p2 y1 y2); omega)) (show 0 ≤ p ^ 1 by ((try clear c d e1 hb he hk hpp hx hx' p2 this y1 y2); omega))
      ((try clear c d e1 h2 hb he hk hpp hx hx' p2 y1 y2); omega)
    rwa [Int.pow_succ, Int.pow_zero, Int.one_mul] at this
  obtain ⟨W, hW⟩ : ∃ W : Nat → St → Hp → Prop, ∀ m σ H2, W m σ H2 ↔ (H2 = H1 ∧ ∃ (y : Int) (r : Nat), σ = [some (.int p), some (.int e), some (.int x), some (.int (p ^ e.toNat)), some (.int y), some (.int (r : Int))] ∧ 1 ≤ r ∧ 0 ≤ y ∧ y < p ^ e.toNat ∧ (x * y - 1) % p ^ (min r e.toNat) = 0 ∧ m = e.toNat - r) := ⟨_, fun _ _ _ => Iff.rfl⟩
  (first | refine hX _ _ ?_ | skip); refine whB W (e.toNat - 1) ((hW _ _ _).mpr ⟨rfl, y, 1, rfl, by ((try clear c d e1 hb he hpe hpp hx hx' p2 y1 y2); omega), by ((try clear c d e1 hb he hpe hpp hx hx' p2 y2); omega), by ((try clear c d e1 hb he hpp hx hx' p2 y2); omega), ?_, rfl⟩) ?_
  · rw [Nat.min_eq_left e1, Int.pow_succ, Int.pow_zero, Int.one_mul]
    rw [Int.sub_emod, y2]
    simp
  · intro m σ H2 z
    obtain ⟨rfl, y, r, rfl, r1, z1, z2, z3, rfl⟩ := (hW _ _ _).mp z
    (first | refine hX _ _ ?_ | skip); (try dsimp only); try (repeat (first | dsimp only [tSeq] | walk_at "dr1")); (try simp only [sp_power_of, sp_inverse_by_prime]); try (repeat (first | dsimp only [tSeq] | walk_at "dr1"))
    refine ite2 (fun c => ?_) (fun c => ?_)
    · refine ⟨_, fun _ _ h => h, ?_⟩
      have by' : Builtin.Int.intBits y ≤ 10 * e.toNat + 1 := bits_below hpp _ z1 z2
      have b1 : IntMulOk x y := PyProof.Rows.mulOk_of_bits hb by' (by ((try clear by' d e1 hb hpe hpp hx hx' p2 y1 y2 z1 z2 z3); omega))
      have b2 : Builtin.Int.intBits (x * y) ≤ 2 ^ 22 + (10 * e.toNat + 1) := PySem.intBits_mul_le hb by'
      have b3 : Builtin.Int.intBits (2 - x * y) ≤ 2 ^ 22 + (10 * e.toNat + 1) + 1 := Nat.le_trans (PySem.intBits_sub_le (m := 2 ^ 22 + (10 * e.toNat + 1)) (Nat.le_trans (show Builtin.Int.intBits 2 ≤ 64 by decide) (by ((try clear b2 by' c d hb he hpe hpp hx hx' p2 r1 y1 y2 z1 z2 z3); omega))) b2) (by ((try clear b2 by' c d e1 hb he hpe hpp hx hx' p2 r1 y1 y2 z1 z2 z3); omega))
      have b4 : IntMulOk y (2 - x * y) := PyProof.Rows.mulOk_of_bits by' b3 (by ((try clear b2 b3 by' d e1 hb hpe hpp hx hx' p2 y1 y2 z1 z2 z3); omega))
      have hpos := Dr.pow_pos hpp.1 e.toNat
      refine ⟨b1, b4, hpos, IntMulOk.of_right (by decide), e.toNat - r * 2, by ((try clear b2 b3 by' d hb hpe hpos hpp hx hx' p2 y1 y2 z1 z2 z3); omega), (hW _ _ _).mpr ⟨rfl, y * (2 - x * y) % p ^ e.toNat, r * 2, by simp, by ((try clear b2 b3 by' c d e1 hb he hpe hpos hpp hx hx' p2 y1 y2 z1 z2 z3); omega), Int.emod_nonneg _ (by ((try clear b2 b3 by' c d e1 hb he hpe hpp hx hx' p2 r1 y1 y2 z1 z2 z3); omega)), Int.emod_lt_of_pos _ hpos, Dr.inv_step z3, rfl⟩⟩
    · have hr : min r e.toNat = e.toNat := by ((try clear d hb he hpe hpp hx hx' p2 r1 y1 y2 z1 z2 z3); omega)
      rw [hr] at z3
      exact q y H2 ⟨z1, z2, z3⟩ g1
noncomputable def sp_degree_of (K : PySem.W.Frag) : Sp := fun vs H Q _ => ∃ (a : Addr) (f : List Int), vs = [.ref a] ∧ SqL K H a (f.map V.int) ∧ ∀ (d : Int) (H' : Hp), Dr.IsDeg f d → Same H H' → Q (.int d) H'
theorem ok_degree_of (B : Bi mg K) (F : Fun K "degree_of" "degree_of" s_degree_of f fd) : FnOk P w K mg base CX0 1 f fd ["f"] (sp_degree_of K) := by
  refine F.ok S_degree_of (fun vs H Q E h => ?_) (fun cdv A outer s H vs Q E hr h => ?_)
  · obtain ⟨a, f, rfl, _⟩ := h
    rfl
  obtain ⟨a, f, rfl, hS, q⟩ := h
  have S := S_degree_of
  refine ⟨_, ((pss_cons (ps_set (i := 1) S.nd rfl (Or.inl rfl) (pe_un un_neg pe_int))
    (pss_cons (ps_for PassesOwn.never rfl (pi_enum rfl B.b_enumerate (pv 0)) (pg_tup rfl (pgs_cons (pg_name (i := 2) S.nd rfl (Or.inl rfl)) (pgs_cons (pg_name (i := 3) S.nd rfl (Or.inl rfl)) pgs_nil))) (pss_one (ps_if (pt_cmpR op_ne (pv 3) pe_int (nomark _)) (pss_one (ps_set (i := 1) S.nd rfl (Or.inl rfl) (pv 2))) pss_nil)))
    (pss_one (ps_ret (pv 1)))))), ?_⟩
  (first | refine hX _ _ ?_ | skip); (try dsimp only); try (repeat (first | dsimp only [tSeq] | walk_at "dr1"))
  refine ⟨⟨_, hS⟩, ?_⟩
  obtain ⟨Pv, hPv⟩ : ∃ Pv : Nat → St → Hp → Prop, ∀ i σ H2, Pv i σ H2 ↔ (Same H H2 ∧ ∃ (d : Int) (t2 t3 : Option V), Dr.IsDeg (f.take i) d ∧ σ = [some (.ref a), some (.int d), t2, t3]) := ⟨_, fun _ _ _ => Iff.rfl⟩
  (first | refine hX _ _ ?_ | skip); refine forE f Pv ((hPv _ _ _).mpr ⟨Same.refl _, -1, none, none, by simpa using Dr.IsDeg.nil, rfl⟩) (fun i σ H2 z => by obtain ⟨g, _⟩ := (hPv _ _ _).mp z; exact g.seq hS) ?_ ?_
  · intro i c σ H2 t H3 hc z g3 ht
    obtain ⟨g2, d, t2, t3, hd, rfl⟩ := (hPv _ _ _).mp z
    (first | refine hX _ _ ?_ | skip); (try dsimp only); try (repeat (first | dsimp only [tSeq] | walk_at "dr1"))
    refine ⟨_, SqT.of ht, rfl, _, _, rfl, ?_⟩
    refine ⟨_, _, rfl, rfl, rfl, ?_⟩
    simp only [V.int.injEq]
    have g := g2.trans g3
    have hd' := hd.take_succ hc
    refine ite2 (fun c0 => ?_) (fun c0 => ?_)
    · rw [if_pos c0] at hd'
      exact (hPv _ _ _).mpr ⟨g, _, _, _, hd', rfl⟩
    · rw [if_neg c0] at hd'
      exact (hPv _ _ _).mpr ⟨g, _, _, _, hd', rfl⟩
  · intro σ H2 z
    obtain ⟨g2, d, t2, t3, hd, rfl⟩ := (hPv _ _ _).mp z
    (first | refine hX _ _ ?_ | skip); (try dsimp only); try (repeat (first | dsimp only [tSeq] | walk_at "dr1"))
    rw [List.take_length] at hd
    exact q d H2 hd g2
noncomputable def sp_poly_product (K : PySem.W.Frag) : Sp := fun vs H Q _ => ∃ (a b : Addr) (f g : List Int) (m n : Nat), vs = [.ref a, .ref b] ∧ SqL K H a (f.map V.int) ∧ SqL K H b (g.map V.int) ∧ (0 < f.length ∧ f.length ≤ 60 ∧ 0 < g.length ∧ g.length ≤ 60) ∧ Dr.PolyB f m ∧ Dr.PolyB g n ∧ (m ≤ 1000000 ∧ n ≤ 1000000) ∧
  ∀ (c : Addr) (r : List Int) (H' : Hp), Dr.IsProd f g r → Dr.PolyB r (m + n + 12) → H c = none → Same H H' → H' c = some (.lst (r.map V.int)) → Q (.ref c) H'
theorem ok_poly_product (B : Bi mg K) (F : Fun K "poly_product" "poly_product" s_poly_product f fd) : FnOk P w K mg base CX0 1 f fd ["f", "g"] (sp_poly_product K) := by
  refine F.ok S_poly_product (fun vs H Q E h => ?_) (fun cdv A outer s H vs Q E hr h => ?_)
  · obtain ⟨a, b, f, g, m, n, rfl, _⟩ := h
    rfl
  obtain ⟨a, b, f, g, m, n, rfl, hS, hS', hl, hf, hg, hmn, q⟩ := h
  have S := S_poly_product
  refine ⟨_, ((pss_cons (ps_set (i := 2) S.nd rfl (Or.inl rfl) (pe_op op_rep (pe_lst (pa_cons pe_int pa_nil)) (pe_op op_sub (pe_op op_add (pe_callB call_len_seq rfl B.b_len PySem.boot_len (pa_cons (pv 0) pa_nil)) (pe_callB call_len_seq rfl B.b_len PySem.boot_len (pa_cons (pv 1) pa_nil))) pe_int)))
    (pss_cons (ps_for PassesOwn.never rfl (pi_enum rfl B.b_enumerate (pv 0)) (pg_tup rfl (pgs_cons (pg_name (i := 3) S.nd rfl (Or.inl rfl)) (pgs_cons (pg_name (i := 4) S.nd rfl (Or.inl rfl)) pgs_nil))) (pss_one (ps_for PassesOwn.never rfl (pi_enum rfl B.b_enumerate (pv 1)) (pg_tup rfl (pgs_cons (pg_name (i := 5) S.nd rfl (Or.inl rfl)) (pgs_cons (pg_name (i := 6) S.nd rfl (Or.inl rfl)) pgs_nil))) (pss_one (ps_augS (pv 2) (pe_op op_add (pv 3) (pv 5)) get_list (pe_op op_mulW (pv 4) (pv 6)) ip_add set_list)))))
    (pss_one (ps_ret (pv 2)))))), ?_⟩
  (first | refine hX _ _ ?_ | skip); (try dsimp only); try (repeat (first | dsimp only [tSeq] | walk_at "dr1"))
  refine ⟨by decide, ?_⟩
  intro l0 n_l0; generalize e_l0 : upd _ l0 _ = H1; obtain ⟨g1, k1⟩ := newH e_l0 n_l0; clear e_l0
  refine ⟨_, .inl (g1.seq hS), _, .inl (g1.seq hS'), ?_⟩
  simp only [List.length_map]
  refine ⟨_, k1, by ((try clear hmn k1 n_l0); omega), by ((try clear hmn k1 n_l0); omega), by simp only [List.length_cons, List.length_nil]; unfold sizeLine; ((try clear hmn k1 n_l0); omega), ?_⟩
  intro l n_l; generalize e_l : upd _ l _ = H2; obtain ⟨g2, k2⟩ := newH e_l n_l; clear e_l
  rw [rep_zero] at k2
  have g12 := g1.trans g2
  have nl : H l = none := g1.free n_l
  refine ⟨⟨_, g12.seq hS⟩, ?_⟩
  obtain ⟨M, hM⟩ : ∃ M : Nat, M = 2 ^ (m + n) := ⟨_, rfl⟩
  obtain ⟨Pv, hPv⟩ : ∃ Pv : Nat → St → Hp → Prop, ∀ i σ H3, Pv i σ H3 ↔ (Same H H3 ∧ ∃ (r : List Int) (t3 t4 t5 t6 : Option V), r.length + 1 = f.length + g.length ∧ (∀ c, c ∈ r → c.natAbs ≤ i * g.length * M) ∧ (∀ x, Dr.pev r x = Dr.pev (f.take i) x * Dr.pev g x) ∧ H3 l = some (.lst (r.map V.int)) ∧ σ = [some (.ref a), some (.ref b), some (.ref l), t3, t4, t5, t6]) := ⟨_, fun _ _ _ => Iff.rfl⟩
  (first | refine hX _ _ ?_ | skip); refine forE f Pv ((hPv _ _ _).mpr ⟨g12, _, none, none, none, none, by rw [List.length_replicate]; ((try clear hM hmn k1 k2 n_l n_l0 nl); omega), fun c hc => by rw [(List.mem_replicate.mp hc).2]; simp, fun x => by rw [Dr.pev_zeros]; simp [Dr.pev], k2, rfl⟩) (fun i σ H3 z => by obtain ⟨g, _⟩ := (hPv _ _ _).mp z; exact g.seq hS) ?_ ?_
  · intro i c σ H3 t H4 hc z g4 ht
    obtain ⟨g3, r, t3, t4, t5, t6, hrl, hrb, hre, k3, rfl⟩ := (hPv _ _ _).mp z
    have k4 := g4 _ _ k3
    have hi := (List.getElem?_eq_some_iff.mp hc).1
    have G4 := g3.trans g4
    (first | refine hX _ _ ?_ | skip); (try dsimp only); try (repeat (first | dsimp only [tSeq] | walk_at "dr1"))
    refine ⟨_, SqT.of ht, rfl, _, _, rfl, _, _, rfl, rfl, ?_⟩
    try try (repeat (first | dsimp only [tSeq] | walk_at "dr1"))
    refine ⟨⟨_, G4.seq hS'⟩, ?_⟩
    obtain ⟨Pw, hPw⟩ : ∃ Pw : Nat → St → Hp → Prop, ∀ j σ H5, Pw j σ H5 ↔ (Same H H5 ∧ ∃ (r : List Int) (t5 t6 : Option V), r.length + 1 = f.length + g.length ∧ (∀ c, c ∈ r → c.natAbs ≤ (i * g.length + j) * M) ∧ (∀ x, Dr.pev r x = Dr.pev (f.take i) x * Dr.pev g x + c * x ^ i * Dr.pev (g.take j) x) ∧ H5 l = some (.lst (r.map V.int)) ∧ σ = [some (.ref a), some (.ref b), some (.ref l), some (.int (i : Int)), some (.int c), t5, t6]) := ⟨_, fun _ _ _ => Iff.rfl⟩
    (first | refine hX _ _ ?_ | skip); refine forE g Pw ((hPw _ _ _).mpr ⟨G4, r, t5, t6, hrl, hrb, fun x => by rw [hre]; simp [Dr.pev], k4, rfl⟩) (fun i σ H3 z => by obtain ⟨g, _⟩ := (hPw _ _ _).mp z; exact g.seq hS') ?_ ?_
    · intro j d σ H5 t H6 hd z g6 ht
      obtain ⟨g5, r, t5, t6, hrl, hrb, hre, k5, rfl⟩ := (hPw _ _ _).mp z
      have k6 := g6 _ _ k5
      have hj := (List.getElem?_eq_some_iff.mp hd).1
      (first | refine hX _ _ ?_ | skip); (try dsimp only); try (repeat (first | dsimp only [tSeq] | walk_at "dr1"))
      refine ⟨_, SqT.of ht, rfl, _, _, rfl, _, _, rfl, rfl, ?_⟩
      try try (repeat (first | dsimp only [tSeq] | walk_at "dr1"))
      obtain ⟨v, e1, _, e3, e4⟩ := get_int (fs := r) (k := (i : Int) + (j : Int)) (by ((try clear hM hc hd hi hj hl hmn hrl ht k1 k2 k3 k4 k5 k6 n_l n_l0 nl); omega)) (by ((try clear hM hc hd hl hmn ht k1 k2 k3 k4 k5 k6 n_l n_l0 nl); omega))
      have hcd : (c * d).natAbs ≤ M := by
        rw [hM]
        exact Nat.le_of_lt ((hf c (List.mem_of_getElem? hc)).mul (hg d (List.mem_of_getElem? hd)))
      refine ⟨by ((try clear e1 e3 e4 hM hc hcd hd hi hj hl hmn hrl ht k1 k2 k3 k4 k5 k6 n_l n_l0 nl); omega), _, SqL.of k6, _, e4, mulSm (hf c (List.mem_of_getElem? hc)) (hg d (List.mem_of_getElem? hd)) (by ((try clear e1 e3 e4 hM hc hcd hd hi hj hl hrl ht k1 k2 k3 k4 k5 k6 n_l n_l0 nl); omega)), v, rfl, _, k6, _, e3, ?_⟩
      rw [set_int]
      have eij : ((i : Int) + (j : Int)).toNat = i + j := by ((try clear e1 e3 e4 hM hc hcd hd hi hj hl hmn hrl ht k1 k2 k3 k4 k5 k6 n_l n_l0 nl); omega)
      rw [eij] at e1 ⊢
      refine (hPw _ _ _).mpr ⟨(g5.trans g6).up nl _, _, _, _, by rw [List.length_set]; exact hrl, fun e he => ?_, fun x => ?_, upd_same, rfl⟩
      · rcases mem_set he with w | w
        · exact Nat.le_trans (hrb e w) (Nat.mul_le_mul_right _ (Nat.le_succ _))
        · rw [w]
          exact steps (hrb v (List.mem_of_getElem? e1)) hcd
      · rw [Dr.pev_set x (c * d) r (i + j) v e1, hre, Dr.pev_take_succ hd, Dr.pow_add']
        generalize x ^ i = X
        generalize x ^ j = Y
        grind
    · intro σ H5 z
      obtain ⟨g5, r, t5, t6, hrl, hrb, hre, k5, rfl⟩ := (hPw _ _ _).mp z
      refine (hPv _ _ _).mpr ⟨g5, r, _, _, _, _, hrl, fun c hc => ?_, fun x => ?_, k5, rfl⟩
      · rw [Nat.succ_mul]
        exact hrb c hc
      · rw [hre, List.take_length, Dr.pev_take_succ hc]
        grind
  · intro σ H3 z
    obtain ⟨g3, r, t3, t4, t5, t6, hrl, hrb, hre, k3, rfl⟩ := (hPv _ _ _).mp z
    (first | refine hX _ _ ?_ | skip); (try dsimp only); try (repeat (first | dsimp only [tSeq] | walk_at "dr1"))
    rw [List.take_length] at hre
    refine q l r H3 ⟨hrl, hre⟩ (fun c hc => ?_) nl g3 k3
    have h1 := hrb c hc
    have h2 : f.length * g.length * M ≤ 3600 * M := Nat.mul_le_mul_right _ (Nat.mul_le_mul (show f.length ≤ 60 by ((try clear h1 hM hmn k1 k2 k3 n_l n_l0 nl); omega)) (show g.length ≤ 60 by ((try clear h1 hM hmn hrl k1 k2 k3 n_l n_l0 nl); omega)))
    show c.natAbs < 2 ^ (m + n + 12)
    rw [Nat.pow_add, ← hM]
    have : (2 : Nat) ^ 12 = 4096 := by decide
    have : 0 < M := by rw [hM]; exact Nat.pow_pos (by decide)
    ((try clear hl hmn hrl k1 k2 k3 n_l n_l0 nl); omega)
noncomputable def sp_rests_of (K : PySem.W.Frag) : Sp := fun vs H Q _ => ∃ (p : Int) (b : Addr) (f : List Int), vs = [.int p, .ref b] ∧ SqL K H b (f.map V.int) ∧ f.length ≤ 60 ∧ (2 ≤ p ∧ p < 1000) ∧ ∀ (r : Addr) (H' : Hp), H r = none → Same H H' → H' r = some (.lst ((f.map (· % p)).map V.int)) → Q (.ref r) H'
theorem comp_mod {K : PySem.W.Frag} {H : Hp} {a : Addr} {l : List Int} {p : Int} {σ : St} {Q : VK} {i : Nat} (hS : SqL K H a (l.map V.int)) (hl : l.length ≤ 60) (hp : 0 < p) (hi : σ[i]? = some (some (.int p))) (q : ∀ r, H r = none → Q (.ref r) (upd H r (.lst ((l.map (· % p)).map V.int)))) :
    CompIt (Itl K a) [i] (fun _ H Q => Q true H) (tOp (rI (fun _ j => 0 < j) fun i j => V.int (i % j)) (tVar 0) (tVar 1)) σ H Q := by
  obtain ⟨Pc, hPc⟩ : ∃ Pc : Nat → List V → Hp → Prop, ∀ i ys H1, Pc i ys H1 ↔ (H1 = H ∧ ys = ((l.take i).map (· % p)).map V.int) := ⟨_, fun _ _ _ => Iff.rfl⟩
  (first | refine hX _ _ ?_ | skip); refine compI l Pc (by unfold sizeLine; ((try clear hi hp); omega)) ((hPc _ _ _).mpr ⟨rfl, by simp⟩) (fun i ys H4 z => by obtain ⟨rfl, _⟩ := (hPc _ _ _).mp z; exact hS) ?_ ?_
  · intro j c ys H1 hc z
    obtain ⟨rfl, rfl⟩ := (hPc _ _ _).mp z
    simp only [capV, List.map_cons, List.map_nil, hi, Option.getD_some]
    (first | refine hX _ _ ?_ | skip); (try dsimp only); try (repeat (first | dsimp only [tSeq] | walk_at "dr1"))
    refine ⟨hp, (hPc _ _ _).mpr ⟨rfl, ?_⟩⟩
    rw [List.take_add_one, hc, List.map_append, List.map_append]
    simp
  · intro ys H1 z
    obtain ⟨rfl, rfl⟩ := (hPc _ _ _).mp z
    intro r hr
    have := q r hr
    rw [List.take_length]
    exact this
theorem mods_b {p : Int} (hp : 2 ≤ p ∧ p < 1000) (f : List Int) : Dr.PolyB (f.map (· % p)) 10 := fun c hc => by
  obtain ⟨x, _, rfl⟩ := List.mem_map.mp hc
  have := mod_in x (show 0 < p by omega)
  exact sm_of 1000 (by omega) (by decide)
theorem mods_r {p : Int} (hp : 2 ≤ p) (f : List Int) : ∀ x, x ∈ f.map (· % p) → 0 ≤ x ∧ x < p := fun c hc => by
  obtain ⟨x, _, rfl⟩ := List.mem_map.mp hc
  exact mod_in x (show 0 < p by omega)
theorem range_b {p : Int} (hp : p < 1000) {f : List Int} (h : ∀ x, x ∈ f → 0 ≤ x ∧ x < p) : Dr.PolyB f 10 := fun c hc => by
  have := h c hc
  exact sm_of 1000 (by omega) (by decide)
theorem ok_rests_of (B : Bi mg K) (F : Fun K "rests_of" "rests_of" s_rests_of f fd) : FnOk P w K mg base CX0 1 f fd ["p", "f"] (sp_rests_of K) := by
  refine F.ok S_rests_of (fun vs H Q E h => ?_) (fun cdv A outer s H vs Q E hr h => ?_)
  · obtain ⟨p, b, f, rfl, _⟩ := h
    rfl
  obtain ⟨p, b, f, rfl, hS, hl, hp, q⟩ := h
  have S := S_rests_of
  refine ⟨_, ((pss_one (ps_ret (pe_comp [0] ["p"] rfl rfl ⟨rfl, trivial⟩ ⟨rfl, rfl, rfl, rfl, trivial⟩ rfl rfl (by decide) (by decide) rfl rfl (by decide) (pi_list (pv 1)) (fun _ _ _ _ => pts_nil) (fun _ _ _ _ => (pe_op op_mod (pv 0) (pv 1))))))), ?_⟩
  (try dsimp only); (first | refine hX _ _ ?_ | skip); (try dsimp only); (first | refine seqX (fun X hX => ?_) | skip); try walk_at "dr1"
  refine ⟨⟨_, hS⟩, comp_mod hS hl (by ((try clear hl); omega)) rfl ?_⟩
  intro ls n_ls; generalize e_ls : upd _ ls _ = H1; obtain ⟨g1, k1⟩ := newH e_ls n_ls; clear e_ls
  exact q ls H1 n_ls g1 k1
noncomputable def sp_poly_difference (K : PySem.W.Frag) : Sp := fun vs H Q _ => ∃ (a b : Addr) (f g : List Int) (m : Nat), vs = [.ref a, .ref b] ∧ SqL K H a (f.map V.int) ∧ SqL K H b (g.map V.int) ∧ (f.length ≤ 60 ∧ g.length ≤ 60) ∧ Dr.PolyB f m ∧ Dr.PolyB g m ∧
  ∀ (c : Addr) (r : List Int) (H' : Hp), r.length = max f.length g.length → (∀ x, Dr.pev r x = Dr.pev f x - Dr.pev g x) → Dr.PolyB r (m + 1) → H c = none → Same H H' → H' c = some (.lst (r.map V.int)) → Q (.ref c) H'
theorem ok_poly_difference (B : Bi mg K) (F : Fun K "poly_difference" "poly_difference" s_poly_difference f fd) : FnOk P w K mg base CX0 1 f fd ["f", "g"] (sp_poly_difference K) := by
  refine F.ok S_poly_difference (fun vs H Q E h => ?_) (fun cdv A outer s H vs Q E hr h => ?_)
  · obtain ⟨a, b, f, g, m, rfl, _⟩ := h
    rfl
  obtain ⟨a, b, f, g, m, rfl, hS, hS', hl, hf, hg, q⟩ := h
  have S := S_poly_difference
  refine ⟨_, ((pss_cons (ps_set (i := 2) S.nd rfl (Or.inl rfl) (pe_callB (call_max2 rfl) rfl B.b_max L2.bt_max (pa_cons (pe_callB call_len_seq rfl B.b_len PySem.boot_len (pa_cons (pv 0) pa_nil)) (pa_cons (pe_callB call_len_seq rfl B.b_len PySem.boot_len (pa_cons (pv 1) pa_nil)) pa_nil))))
    (pss_cons (ps_set (i := 3) S.nd rfl (Or.inl rfl) (pe_op op_cat (pe_callTy call_list_of rfl B.b_list L2.bt_list (pa_cons (pv 0) pa_nil)) (pe_op op_rep (pe_lst (pa_cons pe_int pa_nil)) (pe_op op_sub (pv 2) (pe_callB call_len_seq rfl B.b_len PySem.boot_len (pa_cons (pv 0) pa_nil))))))
    (pss_cons (ps_for PassesOwn.never rfl (pi_enum rfl B.b_enumerate (pv 1)) (pg_tup rfl (pgs_cons (pg_name (i := 4) S.nd rfl (Or.inl rfl)) (pgs_cons (pg_name (i := 5) S.nd rfl (Or.inl rfl)) pgs_nil))) (pss_one (ps_augS (pv 3) (pv 4) get_list (pv 5) ip_sub set_list)))
    (pss_one (ps_ret (pv 3))))))), ?_⟩
  (try dsimp only); (first | refine hX _ _ ?_ | skip); (try dsimp only); (first | refine seqX (fun X hX => ?_) | skip); try walk_at "dr1"
  refine ⟨_, .inl hS, _, .inl hS', ?_⟩
  simp only [List.length_map]
  generalize eL : (if _ > (f.length : Int) then _ else (f.length : Int)) = L
  have bL : L = ((max f.length g.length : Nat) : Int) := by
    rw [← eL]
    split <;> ((try clear eL hl); omega)
  clear eL
  subst bL
  (try dsimp only); (first | refine hX _ _ ?_ | skip); (try dsimp only); (first | refine seqX (fun X hX => ?_) | skip); try walk_at "dr1"
  refine ⟨_, .inl hS, ?_⟩
  intro l1 n_l1; generalize e_l1 : upd _ l1 _ = H1; obtain ⟨g1, k1⟩ := newH e_l1 n_l1; clear e_l1
  refine ⟨by decide, ?_⟩
  intro l2 n_l2; generalize e_l2 : upd _ l2 _ = H2; obtain ⟨g2, k2⟩ := newH e_l2 n_l2; clear e_l2
  refine ⟨_, .inl (g2.seq (g1.seq hS)), _, k2, by simp only [List.length_map]; ((try clear hl k1 k2 n_l1 n_l2); omega), by simp only [List.length_map]; ((try clear k1 k2 n_l1 n_l2); omega), by simp only [List.length_cons, List.length_nil, List.length_map]; unfold sizeLine; ((try clear k1 k2 n_l1 n_l2); omega), ?_⟩
  intro l3 n_l3; generalize e_l3 : upd _ l3 _ = H3; obtain ⟨g3, k3⟩ := newH e_l3 n_l3; clear e_l3
  rw [rep_zero] at k3
  refine ⟨_, g3 _ _ (g2 _ _ k1), _, k3, by simp only [List.length_map, List.length_replicate]; unfold sizeLine; ((try clear k1 k2 k3 n_l1 n_l2 n_l3); omega), ?_⟩
  intro l n_l; generalize e_l : upd _ l _ = H4; obtain ⟨g4, k4⟩ := newH e_l n_l; clear e_l
  have G4 := g1.trans (g2.trans (g3.trans g4))
  have nl : H l = none := g1.free (g2.free (g3.free n_l))
  obtain ⟨f0, ef0⟩ : ∃ f0, f0 = f ++ List.replicate (max f.length g.length - f.length) 0 := ⟨_, rfl⟩
  have k4 : H4 l = some (.lst (f0.map V.int)) := by
    rw [k4, ef0, List.map_append]
    congr 3
    simp only [List.length_map]
    congr 2
    ((try clear ef0 hl k1 k2 k3 k4 n_l n_l1 n_l2 n_l3 nl); omega)
  have lf0 : f0.length = max f.length g.length := by rw [ef0, List.length_append, List.length_replicate]; ((try clear ef0 hl k1 k2 k3 k4 n_l n_l1 n_l2 n_l3 nl); omega)
  have bf0 : Dr.PolyB f0 m := fun x hx => by
    rw [ef0] at hx
    rcases List.mem_append.mp hx with z | z
    · exact hf x z
    · rw [(List.mem_replicate.mp z).2]; exact Dr.Sm.zero _
  have ev0 : ∀ x, Dr.pev f0 x = Dr.pev f x := fun x => by rw [ef0, Dr.pev_append, Dr.pev_zeros]; simp
  clear ef0
  (try dsimp only); (first | refine hX _ _ ?_ | skip); (try dsimp only); (first | refine seqX (fun X hX => ?_) | skip); try walk_at "dr1"
  refine ⟨⟨_, G4.seq hS'⟩, ?_⟩
  obtain ⟨Pv, hPv⟩ : ∃ Pv : Nat → St → Hp → Prop, ∀ i σ H5, Pv i σ H5 ↔ (Same H H5 ∧ ∃ (r : List Int) (t4 t5 : Option V), r.length = max f.length g.length ∧ (∀ (k : Nat) (c : Int), r[k]? = some c → Dr.Sm c (m + 1) ∧ (i ≤ k → Dr.Sm c m)) ∧ (∀ x, Dr.pev r x = Dr.pev f x - Dr.pev (g.take i) x) ∧ H5 l = some (.lst (r.map V.int)) ∧ σ = [some (.ref a), some (.ref b), some (.int ((max f.length g.length : Nat) : Int)), some (.ref l), t4, t5]) := ⟨_, fun _ _ _ => Iff.rfl⟩
  (first | refine hX _ _ ?_ | skip); refine forE g Pv ((hPv _ _ _).mpr ⟨G4, f0, none, none, lf0, fun k c hc => ⟨(bf0 c (List.mem_of_getElem? hc)).mono (by ((try clear hc hl k1 k2 k3 k4 lf0 n_l n_l1 n_l2 n_l3 nl); omega)), fun _ => bf0 c (List.mem_of_getElem? hc)⟩, fun x => by rw [ev0]; simp [Dr.pev], k4, rfl⟩) (fun i σ H3 z => by obtain ⟨g, _⟩ := (hPv _ _ _).mp z; exact g.seq hS') ?_ ?_
  · intro i d σ H5 t H6 hd z g6 ht
    obtain ⟨g5, r, t4, t5, hrl, hrb, hre, k5, rfl⟩ := (hPv _ _ _).mp z
    have k6 := g6 _ _ k5
    have hi := (List.getElem?_eq_some_iff.mp hd).1
    (first | refine hX _ _ ?_ | skip); (try dsimp only); try (repeat (first | dsimp only [tSeq] | walk_at "dr1"))
    refine ⟨_, SqT.of ht, rfl, _, _, rfl, _, _, rfl, rfl, ?_⟩
    try try (repeat (first | dsimp only [tSeq] | walk_at "dr1"))
    obtain ⟨v, e1, _, e3, e4⟩ := get_int (fs := r) (k := (i : Int)) (by ((try clear hd hi hl hrl ht k1 k2 k3 k4 k5 k6 lf0 n_l n_l1 n_l2 n_l3 nl); omega)) (by ((try clear hd hl ht k1 k2 k3 k4 k5 k6 lf0 n_l n_l1 n_l2 n_l3 nl); omega))
    refine ⟨by ((try clear e1 e3 e4 hd hi hl hrl ht k1 k2 k3 k4 k5 k6 lf0 n_l n_l1 n_l2 n_l3 nl); omega), _, SqL.of k6, _, e4, v, rfl, _, k6, _, e3, ?_⟩
    rw [set_int]
    rw [Int.toNat_natCast] at e1 ⊢
    refine (hPv _ _ _).mpr ⟨(g5.trans g6).up nl _, _, _, _, by rw [List.length_set]; exact hrl, fun k c hc => ?_, fun x => ?_, upd_same, rfl⟩
    · rw [List.getElem?_set] at hc
      split at hc
      · rename_i ek
        subst ek
        split at hc
        · cases hc
          exact ⟨(((hrb i v e1).2 (Nat.le_refl _)).sub (hg d (List.mem_of_getElem? hd))).mono (by ((try clear e1 e3 e4 hd hi hl hrl ht k1 k2 k3 k4 k5 k6 lf0 n_l n_l1 n_l2 n_l3 nl); omega)), fun z => by ((try clear e1 e3 e4 hd hi hl hrl ht k1 k2 k3 k4 k5 k6 lf0 n_l n_l1 n_l2 n_l3 nl); omega)⟩
        · cases hc
      · exact ⟨(hrb k c hc).1, fun z => (hrb k c hc).2 (by ((try clear e1 e3 e4 hc hd hi hl hrl ht k1 k2 k3 k4 k5 k6 lf0 n_l n_l1 n_l2 n_l3 nl); omega))⟩
    · rw [show v - d = v + -d by ((try clear e1 e3 e4 hd hi hl hrl ht k1 k2 k3 k4 k5 k6 lf0 n_l n_l1 n_l2 n_l3 nl); omega), Dr.pev_set x (-d) r i v e1, hre, Dr.pev_take_succ hd]
      generalize x ^ i = X
      grind
  · intro σ H5 z
    obtain ⟨g5, r, t4, t5, hrl, hrb, hre, k5, rfl⟩ := (hPv _ _ _).mp z
    (first | refine hX _ _ ?_ | skip); (try dsimp only); try (repeat (first | dsimp only [tSeq] | walk_at "dr1"))
    refine q l r H5 hrl (fun x => by rw [hre, List.take_length]) (fun c hc => ?_) nl g5 k5
    obtain ⟨k, hk, e⟩ := List.getElem_of_mem hc
    exact (hrb k c (by rw [List.getElem?_eq_getElem hk, e])).1
noncomputable def sp_raised (K : PySem.W.Frag) : Sp := fun vs H Q _ => ∃ (a b : Addr) (f u : List Int) (w : Int) (m n k : Nat), vs = [.ref a, .int w, .ref b] ∧ SqL K H a (f.map V.int) ∧ SqL K H b (u.map V.int) ∧ f.length = u.length ∧ f.length ≤ 60 ∧ Dr.PolyB f m ∧ Dr.PolyB u n ∧ Dr.Sm w k ∧ (n ≤ 1000 ∧ k ≤ 10000) ∧
  ∀ (c : Addr) (H' : Hp), H c = none → Same H H' → H' c = some (.lst ((List.zipWith (fun a b => a + w * b) f u).map V.int)) → Q (.ref c) H'
theorem ok_raised (B : Bi mg K) (F : Fun K "raised" "raised" s_raised f fd) : FnOk P w K mg base CX0 1 f fd ["f", "power", "more"] (sp_raised K) := by
  refine F.ok S_raised (fun vs H Q E h => ?_) (fun cdv A outer s H vs Q E hr h => ?_)
  · obtain ⟨a, b, f, u, w, m, n, k, rfl, _⟩ := h
    rfl
  obtain ⟨a, b, f, u, w, m, n, k, rfl, hS, hS', hfu, hl, hf, hu, hw, hnk, q⟩ := h
  have S := S_raised
  refine ⟨_, ((pss_one (ps_ret (pe_comp2 [1] ["power"] rfl rfl ⟨rfl, trivial⟩ ⟨rfl, rfl, rfl, rfl, trivial⟩ rfl rfl (by decide) (by decide) rfl rfl rfl (by decide) (pi_zip rfl B.b_zip (pv 0) (pv 2)) (fun _ _ _ _ => pts_nil) (fun _ _ _ _ => (pe_op op_add (pv 0) (pe_op op_mulW (pv 2) (pv 1)))))))), ?_⟩
  (try dsimp only); (first | refine hX _ _ ?_ | skip); (try dsimp only); (first | refine seqX (fun X hX => ?_) | skip); try walk_at "dr1"
  refine ⟨⟨_, hS⟩, ⟨_, hS'⟩, ?_⟩
  obtain ⟨Pc, hPc⟩ : ∃ Pc : Nat → List V → Hp → Prop, ∀ i ys H1, Pc i ys H1 ↔ (Same H H1 ∧ ys = ((List.zipWith (fun a b => a + w * b) f u).take i).map V.int) := ⟨_, fun _ _ _ => Iff.rfl⟩
  refine comp2Z f u Pc (by unfold sizeLine; ((try clear hnk); omega)) hfu ((hPc _ _ _).mpr ⟨Same.refl _, by simp⟩) (fun i ys H4 z => by obtain ⟨g, _⟩ := (hPc _ _ _).mp z; exact ⟨g.seq hS, g.seq hS'⟩) ?_ ?_
  · intro i x y ys H1 H2 hx hy z g2
    obtain ⟨g1, rfl⟩ := (hPc _ _ _).mp z
    (first | refine hX _ _ ?_ | skip); (try dsimp only); try (repeat (first | dsimp only [tSeq] | walk_at "dr1"))
    refine ⟨mulSm hw (hu y (List.mem_of_getElem? hy)) (by ((try clear hfu hl hx hy); omega)), (hPc _ _ _).mpr ⟨g1.trans g2, ?_⟩⟩
    rw [List.take_add_one, List.getElem?_zipWith, hx, hy, List.map_append]
    rfl
  · intro ys H1 z
    obtain ⟨g1, rfl⟩ := (hPc _ _ _).mp z
    rw [List.take_of_length_le (by rw [List.length_zipWith]; ((try clear hl hnk); omega))]
    intro l n_l; generalize e_l : upd _ l _ = H2; obtain ⟨g2, k2⟩ := newH e_l n_l; clear e_l
    exact q l H2 (g1.free n_l) (g1.trans g2) k2
noncomputable def sp_divided_by_prime (K : PySem.W.Frag) : Sp := fun vs H Q _ => ∃ (p : Int) (a b : Addr) (f g : List Int), vs = [.int p, .ref a, .ref b] ∧ SqL K H a (f.map V.int) ∧ SqL K H b (g.map V.int) ∧ (f.length ≤ 60 ∧ g.length ≤ 60) ∧ p ∈ Dr.primes ∧ (∀ x, x ∈ g → 0 ≤ x ∧ x < p) ∧ (∃ x, x ∈ g ∧ x ≠ 0) ∧
  ∀ (t c e : Addr) (n : Nat) (D R : List Int) (H' : Hp), Dr.IsDeg g (n : Int) → Dr.Divd p f g n D R → H c = none → H e = none → Same H H' → H' c = some (.lst (D.map V.int)) → H' e = some (.lst (R.map V.int)) → H' t = some (.tup [.ref c, .ref e]) → Q (.ref t) H'
theorem take_deg {g : List Int} {n : Nat} (h : ∀ (j : Nat) (b : Int), n < j → g[j]? = some b → b = 0) (hn : n < g.length) (x : Int) : Dr.pev (g.take (n + 1)) x = Dr.pev g x := by
  have e : g = g.take (n + 1) ++ List.replicate (g.length - (n + 1)) 0 := by
    refine List.ext_getElem (by rw [List.length_append, List.length_take, List.length_replicate]; omega) fun i h1 h2 => ?_
    by_cases ci : i < n + 1
    · rw [List.getElem_append_left (by rw [List.length_take]; ((try clear h1 h2); omega)), List.getElem_take]
    · rw [List.getElem_append_right (by rw [List.length_take]; ((try clear h1 h2); omega)), List.getElem_replicate]
      exact h i _ (by ((try clear h1 h2 hn); omega)) (List.getElem?_eq_getElem h1)
  conv => rhs; rw [e]
  exact (Dr.pev_pad _ _ _).symm
inductive DpW (H : Hp) (p : Int) (f g : List Int) (n : Nat) (a b : Addr) (y : Int) (lq lr : Addr) (mm : Nat) (σ : St) (H6 : Hp) : Prop
  | mk (q0 : Same H H6) (place : Int) (D R : List Int) (t8 t9 : Option V) (q1 : Dr.Dv p f g n place D R) (q2 : (-1 ≤ place ∨ f.length ≤ n)) (q3 : place < (f.length : Int) - n) (q4 : H6 lq = some (.lst (D.map V.int))) (q5 : H6 lr = some (.lst (R.map V.int))) (q6 : mm = (place + 1).toNat) (q7 : σ = [some (.int p), some (.ref a), some (.ref b), some (.int (n : Int)), some (.int y), some (.ref lq), some (.ref lr), some (.int place), t8, t9])
inductive DpI (H : Hp) (p : Int) (g : List Int) (n pl : Nat) (tm : Int) (R D : List Int) (a b : Addr) (y : Int) (lq lr : Addr) (j : Nat) (σ : St) (H8 : Hp) : Prop
  | mk (q0 : Same H H8) (S : List Int) (t9 : Option V) (q1 : Dr.Dw p g n pl tm R j S) (q2 : H8 lq = some (.lst ((D.set pl tm).map V.int))) (q3 : H8 lr = some (.lst (S.map V.int))) (q4 : σ = [some (.int p), some (.ref a), some (.ref b), some (.int (n : Int)), some (.int y), some (.ref lq), some (.ref lr), some (.int (pl : Int)), some (.int tm), t9])
theorem ok_divided_by_prime (B : Bi mg K) (d_inverse_of : Def P w K mg base "inverse_of" 2 ["p", "e", "x"] (sp_inverse_of K)) (d_degree_of : Def P w K mg base "degree_of" 1 ["f"] (sp_degree_of K)) (d_rests_of : Def P w K mg base "rests_of" 1 ["p", "f"] (sp_rests_of K)) (F : Fun K "divided_by_prime" "divided_by_prime" s_divided_by_prime f fd) : FnOk P w K mg base CX0 3 f fd ["p", "f", "g"] (sp_divided_by_prime K) := by
  refine F.ok S_divided_by_prime (fun vs H Q E h => ?_) (fun cdv A outer s H vs Q E hr h => ?_)
  · obtain ⟨p, a, b, f, g, rfl, _⟩ := h
    rfl
  obtain ⟨p, a, b, f, g, rfl, hS, hS', hl, hpp, hg, hnz, q⟩ := h
  have S := S_divided_by_prime
  have p2 := Dr.primes_ge hpp
  have hp : 2 ≤ p ∧ p < 1000 := by ((try clear hl); omega)
  refine ⟨_, ((pss_cons (ps_set (i := 3) S.nd rfl (Or.inl rfl) (pe_def d_degree_of hr rfl (pa_cons (pv 2) pa_nil)))
    (pss_cons (ps_set (i := 4) S.nd rfl (Or.inl rfl) (pe_def d_inverse_of hr rfl (pa_cons (pv 0) (pa_cons pe_int (pa_cons (pe_ix ix_list (pv 2) (pv 3) (fun _ _ => rfl)) pa_nil)))))
    (pss_cons (ps_set (i := 5) S.nd rfl (Or.inl rfl) (pe_op op_rep (pe_lst (pa_cons pe_int pa_nil)) (pe_op op_sub (pe_callB call_len_seq rfl B.b_len PySem.boot_len (pa_cons (pv 1) pa_nil)) (pv 3))))
    (pss_cons (ps_set (i := 6) S.nd rfl (Or.inl rfl) (pe_def d_rests_of hr rfl (pa_cons (pv 0) (pa_cons (pv 1) pa_nil))))
    (pss_cons (ps_set (i := 7) S.nd rfl (Or.inl rfl) (pe_op op_sub (pe_op op_sub (pe_callB call_len_seq rfl B.b_len PySem.boot_len (pa_cons (pv 1) pa_nil)) pe_int) (pv 3)))
    (pss_cons (ps_while PassesOwn.never (pt_cmpR op_ge (pv 7) pe_int (nomark _)) (pss_cons (ps_set (i := 8) S.nd rfl (Or.inl rfl) (pe_op op_mod (pe_op op_mulW (pe_ix ix_list (pv 6) (pe_op op_add (pv 7) (pv 3)) (fun _ _ => rfl)) (pv 4)) (pv 0)))
    (pss_cons (ps_asg (pv 8) (pg_sub (pv 5) (pv 7) set_list))
    (pss_cons (ps_for PassesOwn.never rfl (pi_range1 rfl B.b_range (pa_cons (pe_op op_add (pv 3) pe_int) pa_nil)) (pg_name (i := 9) S.nd rfl (Or.inl rfl)) (pss_one (ps_asg (pe_op op_mod (pe_op op_sub (pe_ix ix_list (pv 6) (pe_op op_add (pv 7) (pv 9)) (fun _ _ => rfl)) (pe_op op_mulW (pv 8) (pe_ix ix_list (pv 2) (pv 9) (fun _ _ => rfl)))) (pv 0)) (pg_sub (pv 6) (pe_op op_add (pv 7) (pv 9)) set_list))))
    (pss_one (ps_aug (i := 7) S.nd rfl (Or.inl rfl) pe_int ip_sub))))))
    (pss_one (ps_ret (pe_tup (pa_cons (pv 5) (pa_cons (pe_slice sl_list (pv 6) po_none (po_some (pv 3))) pa_nil)))))))))))), ?_⟩
  (try dsimp only); (first | refine hX _ _ ?_ | skip); (try dsimp only); (first | refine seqX (fun X hX => ?_) | skip); try walk_at "dr1"; (try simp only [sp_inverse_of, sp_degree_of, sp_rests_of]); try walk_at "dr1"
  refine ⟨g, hS', fun d H1 hd g1 => ?_⟩
  obtain ⟨n, c0, rfl, hc0, c0n, hab⟩ : ∃ (k : Nat) (c : Int), d = (k : Int) ∧ g[k]? = some c ∧ c ≠ 0 ∧ ∀ (j : Nat) (b : Int), k < j → g[j]? = some b → b = 0 := by
    rcases hd with ⟨_, z⟩ | z
    · obtain ⟨x, hx, x0⟩ := hnz
      exact absurd (z x hx) x0
    · exact z
  have hn := (List.getElem?_eq_some_iff.mp hc0).1
  have r0 := hg c0 (List.mem_of_getElem? hc0)
  have c0p : c0 % p ≠ 0 := by rw [Int.emod_eq_of_lt r0.1 r0.2]; exact c0n
  (try dsimp only); (first | refine hX _ _ ?_ | skip); (try dsimp only); (first | refine seqX (fun X hX => ?_) | skip); try walk_at "dr1"; (try simp only [sp_inverse_of, sp_degree_of, sp_rests_of]); try walk_at "dr1"
  refine ⟨_, g1.seq hS', _, atI_nat (j := n) (by rw [List.getElem?_map, hc0]; rfl), _, rfl, hpp, Nat.le_trans (intBits_le_64 (by ((try clear c0n c0p hc0 hl hn hp p2); omega)) (by ((try clear c0n c0p hc0 hl hn hp); omega))) (by decide), .inr c0p, fun y H2 hy g2 => ?_⟩
  have e1 : Int.toNat 1 = 1 := rfl
  rw [e1] at hy
  have hy1 : (c0 * y - 1) % p = 0 := by have := hy.one; rwa [Int.pow_one] at this
  have hylo := hy.lo
  have hyhi : y < p := by have := hy.hi; rwa [Int.pow_one] at this
  have G2 := g1.trans g2
  (try dsimp only); (first | refine hX _ _ ?_ | skip); (try dsimp only); (first | refine seqX (fun X hX => ?_) | skip); try walk_at "dr1"; (try simp only [sp_inverse_of, sp_degree_of, sp_rests_of]); try walk_at "dr1"
  refine ⟨by decide, ?_⟩
  intro l1 n_l1; generalize e_l1 : upd _ l1 _ = H3; obtain ⟨g3, k3⟩ := newH e_l1 n_l1; clear e_l1
  refine ⟨_, .inl (g3.seq (G2.seq hS)), _, k3, by simp only [List.length_map]; ((try clear c0n c0p e1 hc0 hp hy1 hyhi hylo k3 n_l1 p2 r0); omega), by simp only [List.length_map]; ((try clear c0n c0p e1 hc0 hn hp hy1 hyhi hylo k3 n_l1 p2 r0); omega), by simp only [List.length_cons, List.length_nil, List.length_map]; unfold sizeLine; ((try clear c0n c0p e1 hc0 hp hy1 hyhi hylo k3 n_l1 p2 r0); omega), ?_⟩
  intro lq n_lq; generalize e_lq : upd _ lq _ = H4; obtain ⟨g4, k4⟩ := newH e_lq n_lq; clear e_lq
  rw [rep_zero] at k4
  have G4 := G2.trans (g3.trans g4)
  have nq : H lq = none := G2.free (g3.free n_lq)
  (try dsimp only); (first | refine hX _ _ ?_ | skip); (try dsimp only); (first | refine seqX (fun X hX => ?_) | skip); try walk_at "dr1"; (try simp only [sp_inverse_of, sp_degree_of, sp_rests_of]); try walk_at "dr1"
  refine ⟨f, G4.seq hS, by ((try clear c0n c0p e1 hc0 hn hp hy1 hyhi hylo k3 k4 n_l1 n_lq nq p2 r0); omega), hp.1, hp.2, fun lr H5 nr g5 k5 => ?_⟩
  have G5 := G4.trans g5
  have nr0 : H lr = none := G4.free nr
  have kq5 := g5 _ _ k4
  have nqr : lq ≠ lr := fun z => by rw [z, nr] at k4; cases k4
  (try dsimp only); (first | refine hX _ _ ?_ | skip); (try dsimp only); (first | refine seqX (fun X hX => ?_) | skip); try walk_at "dr1"; (try simp only [sp_inverse_of, sp_degree_of, sp_rests_of]); try walk_at "dr1"
  refine ⟨_, .inl (G5.seq hS), ?_⟩
  simp only [List.length_map]
  have eq0 : ((f.length : Int) - (n : Int)).toNat = f.length - n := by ((try clear c0n c0p e1 hc0 hl hn hp hy1 hyhi hylo k3 k4 k5 kq5 n_l1 n_lq nq nqr nr nr0 p2 r0); omega)
  rw [List.length_map, eq0] at kq5
  (try dsimp only); (first | refine hX _ _ ?_ | skip); (try dsimp only); (first | refine seqX (fun X hX => ?_) | skip); try walk_at "dr1"; (try simp only [sp_inverse_of, sp_degree_of, sp_rests_of]); try walk_at "dr1"
  obtain ⟨W, hW⟩ : ∃ W : Nat → St → Hp → Prop, ∀ mm σ H6, W mm σ H6 ↔ (DpW H p f g n a b y lq lr mm σ H6) := ⟨_, fun _ _ _ => Iff.rfl⟩
  (first | refine hX _ _ ?_ | skip); refine whB W _ ((hW _ _ _).mpr ⟨G5, _, _, _, none, none, Dr.Dv.start hp.1, by ((try clear c0n c0p e1 eq0 hc0 hl hn hp hy1 hyhi hylo k3 k4 k5 kq5 n_l1 n_lq nq nqr nr nr0 p2 r0); omega), by ((try clear c0n c0p e1 eq0 hc0 hl hn hp hy1 hyhi hylo k3 k4 k5 kq5 n_l1 n_lq nq nqr nr nr0 p2 r0); omega), kq5, k5, rfl, rfl⟩) ?_
  intro mm σ H6 z
  refine byX fun X hX => ?_; obtain ⟨g6, place, D, R, t8, t9, hv, hpl, hpl2, kD, kR, rfl, rfl⟩ := (hW _ _ _).mp z; refine hX ?_; clear hX X
  (first | refine hX _ _ ?_ | skip); (try dsimp only); try (repeat (first | dsimp only [tSeq] | walk_at "dr1")); (try simp only [sp_inverse_of, sp_degree_of, sp_rests_of]); try (repeat (first | dsimp only [tSeq] | walk_at "dr1"))
  refine ite2 (fun c1 => ?_) (fun c1 => ?_)
  · refine ⟨_, fun _ _ h => h, ?_⟩
    obtain ⟨pl, rfl⟩ : ∃ pl : Nat, place = (pl : Int) := ⟨place.toNat, by ((try clear c0n c0p e1 eq0 hc0 hl hn hp hpl hpl2 hy1 hyhi hylo k3 k4 k5 kD kR kq5 n_l1 n_lq nq nqr nr nr0 p2 r0); omega)⟩
    have hpn : pl + n < f.length := by ((try clear c0n c0p c1 e1 eq0 hc0 hl hn hp hpl hy1 hyhi hylo k3 k4 k5 kD kR kq5 n_l1 n_lq nq nqr nr nr0 p2 r0); omega)
    have lR := hv.lr
    have lD := hv.lq
    obtain ⟨w, ew, ew2, _, _⟩ := get_int (fs := R) (k := (pl : Int) + (n : Int)) (by ((try clear c0n c0p c1 e1 eq0 hc0 hp hpl hpl2 hpn hy1 hyhi hylo k3 k4 k5 kD kR kq5 lD lR n_l1 n_lq nq nqr nr nr0 p2 r0); omega)) (by ((try clear c0n c0p c1 e1 eq0 hc0 hl hn hp hpl hpn hy1 hyhi hylo k3 k4 k5 kD kR kq5 lD n_l1 n_lq nq nqr nr nr0 p2 r0); omega))
    rw [show ((pl : Int) + (n : Int)).toNat = pl + n by ((try clear c0n c0p c1 e1 eq0 ew ew2 hc0 hp hpl hpl2 hpn hy1 hyhi hylo k3 k4 k5 kD kR kq5 lD lR n_l1 n_lq nq nqr nr nr0 p2 r0); omega)] at ew
    have rw0 := hv.rr w (List.mem_of_getElem? ew)
    have mt := mod_in (w * y) (show 0 < p by ((try clear c0n c0p c1 e1 eq0 ew ew2 hc0 hl hn hp hpl hpl2 hpn hy1 hyhi hylo k3 k4 k5 kD kR kq5 lD lR n_l1 n_lq nq nqr nr nr0 r0 rw0); omega))
    obtain ⟨v0, _, _, e3, _⟩ := get_int (fs := D) (k := (pl : Int)) (by ((try clear c0n c0p e1 eq0 ew ew2 hc0 hl hn hp hpl hpl2 hpn hy1 hyhi hylo k3 k4 k5 kD kR kq5 lD lR mt n_l1 n_lq nq nqr nr nr0 p2 r0 rw0); omega)) (by ((try clear c0n c0p c1 e1 eq0 ew ew2 hc0 hl hn hp hpn hy1 hyhi hylo k3 k4 k5 kD kR kq5 mt n_l1 n_lq nq nqr nr nr0 p2 r0 rw0); omega))
    (try dsimp only); (first | refine hX _ _ ?_ | skip); (try dsimp only); (first | refine seqX (fun X hX => ?_) | skip); try walk_at "dr1"; (try simp only [sp_inverse_of, sp_degree_of, sp_rests_of]); try walk_at "dr1"
    refine ⟨_, SqL.of kR, _, ew2, _, rfl, IntMulOk.of_left (intBits_le_64 (by ((try clear c0n c0p c1 e1 e3 eq0 ew ew2 hc0 hl hn hp hpl hpl2 hpn hy1 hyhi hylo k3 k4 k5 kD kR kq5 lD lR mt n_l1 n_lq nq nqr nr nr0 p2 r0); omega)) (by ((try clear c0n c0p c1 e1 e3 eq0 ew ew2 hc0 hl hn hp hpl hpl2 hpn hy1 hyhi hylo k3 k4 k5 kD kR kq5 lD lR mt n_l1 n_lq nq nqr nr nr0 r0); omega))), by ((try clear c0n c0p c1 e1 e3 eq0 ew ew2 hc0 hl hn hp hpl hpl2 hpn hy1 hyhi hylo k3 k4 k5 kD kR kq5 lD lR mt n_l1 n_lq nq nqr nr nr0 r0 rw0); omega), ?_⟩
    obtain ⟨tm, etm⟩ : ∃ tm, tm = w * y % p := ⟨_, rfl⟩
    rw [← etm] at mt
    rw [← etm]
    (try dsimp only); (first | refine hX _ _ ?_ | skip); (try dsimp only); (first | refine seqX (fun X hX => ?_) | skip); try walk_at "dr1"; (try simp only [sp_inverse_of, sp_degree_of, sp_rests_of]); try walk_at "dr1"
    refine ⟨_, kD, _, e3, ?_⟩
    rw [set_int, Int.toNat_natCast]
    generalize e7 : upd H6 lq _ = H7
    have kD7 : H7 lq = some (.lst ((D.set pl tm).map V.int)) := by rw [← e7, upd_same]
    have kR7 : H7 lr = some (.lst (R.map V.int)) := by rw [← e7, upd_ne (Ne.symm nqr)]; exact kR
    have g7 : Same H H7 := by rw [← e7]; exact g6.up nq _
    clear e7
    (try dsimp only); (first | refine hX _ _ ?_ | skip); (try dsimp only); (first | refine seqX (fun X hX => ?_) | skip); try walk_at "dr1"; (try simp only [sp_inverse_of, sp_degree_of, sp_rests_of]); try walk_at "dr1"
    refine ⟨by ((try clear c0n c0p c1 e1 e3 eq0 etm ew ew2 hc0 hl hn hp hpl hpl2 hpn hy1 hyhi hylo k3 k4 k5 kD kD7 kR kR7 kq5 lD lR mt n_l1 n_lq nq nqr nr nr0 p2 r0 rw0); omega), by ((try clear c0n c0p c1 e1 e3 eq0 etm ew ew2 hc0 hp hpl hpl2 hpn hy1 hyhi hylo k3 k4 k5 kD kD7 kR kR7 kq5 lD lR mt n_l1 n_lq nq nqr nr nr0 p2 r0 rw0); omega), ?_⟩
    obtain ⟨Pw, hPw⟩ : ∃ Pw : Nat → St → Hp → Prop, ∀ j σ H8, Pw j σ H8 ↔ (DpI H p g n pl tm R D a b y lq lr j σ H8) := ⟨_, fun _ _ _ => Iff.rfl⟩
    (first | refine hX _ _ ?_ | skip); refine forR Pw ((hPw _ _ _).mpr ⟨g7, R, _, Dr.Dw.start hv.rr, kD7, kR7, rfl⟩) ?_ ?_
    · intro j σ H8 hj z
      obtain ⟨g8, S, t9, hw, kD8, kS, rfl⟩ := (hPw _ _ _).mp z
      have hj2 : j ≤ n := by ((try clear c0n c0p c1 e1 e3 eq0 etm ew ew2 hc0 hl hn hp hpl hpl2 hpn hy1 hyhi hylo k3 k4 k5 kD kD7 kD8 kR kR7 kS kq5 lD lR mt n_l1 n_lq nq nqr nr nr0 p2 r0 rw0); omega)
      have lS := hw.len
      obtain ⟨c, ec, ec2, ec3, _⟩ := get_int (fs := S) (k := (pl : Int) + (0 + (j : Int))) (by ((try clear c0n c0p c1 e1 e3 eq0 etm ew ew2 hc0 hj hj2 hl hn hp hpl hpl2 hpn hy1 hyhi hylo k3 k4 k5 kD kD7 kD8 kR kR7 kS kq5 lD lR lS mt n_l1 n_lq nq nqr nr nr0 p2 r0 rw0); omega)) (by ((try clear c0n c0p c1 e1 e3 eq0 etm ew ew2 hc0 hj hl hn hp hpl hpn hy1 hyhi hylo k3 k4 k5 kD kD7 kD8 kR kR7 kS kq5 lD mt n_l1 n_lq nq nqr nr nr0 p2 r0 rw0); omega))
      have ejn : ((pl : Int) + (0 + (j : Int))).toNat = pl + j := by ((try clear c0n c0p c1 e1 e3 ec ec2 ec3 eq0 etm ew ew2 hc0 hj hj2 hl hn hp hpl hpl2 hpn hy1 hyhi hylo k3 k4 k5 kD kD7 kD8 kR kR7 kS kq5 lD lR lS mt n_l1 n_lq nq nqr nr nr0 p2 r0 rw0); omega)
      rw [ejn] at ec
      obtain ⟨bj, ebj⟩ : ∃ bj, g[j]? = some bj := ⟨_, List.getElem?_eq_getElem (show j < g.length by ((try clear c0n c0p c1 e1 e3 ec ec2 ec3 ejn eq0 etm ew ew2 hc0 hj hl hp hpl hpl2 hpn hy1 hyhi hylo k3 k4 k5 kD kD7 kD8 kR kR7 kS kq5 lD lR lS mt n_l1 n_lq nq nqr nr nr0 p2 r0 rw0); omega))⟩
      have rc := hw.rr c (List.mem_of_getElem? ec)
      have rb := hg bj (List.mem_of_getElem? ebj)
      have ab : atI (g.map V.int) (0 + (j : Int)) = some (.int bj) := by
        rw [Int.zero_add]
        exact atI_nat (by rw [List.getElem?_map, ebj]; rfl)
      (first | refine hX _ _ ?_ | skip); (try dsimp only); try (repeat (first | dsimp only [tSeq] | walk_at "dr1")); (try simp only [sp_inverse_of, sp_degree_of, sp_rests_of]); try (repeat (first | dsimp only [tSeq] | walk_at "dr1"))
      refine ⟨_, SqL.of kS, _, ec2, _, g8.seq hS', _, ab, _, rfl, IntMulOk.of_left (intBits_le_64 (by ((try clear ab c0n c0p c1 e1 e3 ebj ec ec2 ec3 ejn eq0 ew ew2 hc0 hj hj2 hl hn hp hpl hpl2 hpn hy1 hyhi hylo k3 k4 k5 kD kD7 kD8 kR kR7 kS kq5 lD lR lS n_l1 n_lq nq nqr nr nr0 p2 r0 rb rc rw0); omega)) (by ((try clear ab c0n c0p c1 e1 e3 ebj ec ec2 ec3 ejn eq0 ew ew2 hc0 hj hj2 hl hn hp hpl hpl2 hpn hy1 hyhi hylo k3 k4 k5 kD kD7 kD8 kR kR7 kS kq5 lD lR lS n_l1 n_lq nq nqr nr nr0 r0 rb rc rw0); omega))), _, rfl, by ((try clear ab c0n c0p c1 e1 e3 ebj ec ec2 ec3 ejn eq0 etm ew ew2 hc0 hj hj2 hl hn hp hpl hpl2 hpn hy1 hyhi hylo k3 k4 k5 kD kD7 kD8 kR kR7 kS kq5 lD lR lS mt n_l1 n_lq nq nqr nr nr0 r0 rb rc rw0); omega), _, kS, _, ec3, ?_⟩
      rw [set_int, ejn]
      refine (hPw _ _ _).mpr ⟨g8.up nr0 _, _, _, Dr.Dw.step hp.1 hw ec ebj hj2 (fun e => ?_), by rw [upd_ne nqr]; exact kD8, upd_same, rfl⟩
      subst e
      rw [hc0] at ebj
      cases ebj
      have eR : R.getD (pl + j) 0 = w := by rw [List.getD_eq_getElem?_getD, ew]; rfl
      rw [eR, etm]
      have h1 := Dr.dvd_mul_l (-w) hy1
      have h2 := Dr.dvd_mul_l (-c0) (Dr.rest_sub p (w * y))
      have := Dr.dvd_add_of h1 h2
      refine Eq.trans (congrArg (· % p) ?_) this
      generalize w * y % p = T
      grind
    · intro σ H8 z
      obtain ⟨g8, S, t9, hw, kD8, kS, rfl⟩ := (hPw _ _ _).mp z
      rw [show ((n : Int) + 1).toNat = n + 1 by ((try clear c0n c0p c1 e1 e3 eq0 etm ew ew2 hc0 hl hn hp hpl hpl2 hpn hy1 hyhi hylo k3 k4 k5 kD kD7 kD8 kR kR7 kS kq5 lD lR mt n_l1 n_lq nq nqr nr nr0 p2 r0 rw0); omega)] at hw
      (first | refine hX _ _ ?_ | skip); (try dsimp only); try (repeat (first | dsimp only [tSeq] | walk_at "dr1")); (try simp only [sp_inverse_of, sp_degree_of, sp_rests_of]); try (repeat (first | dsimp only [tSeq] | walk_at "dr1"))
      refine ⟨((pl : Int) - 1 + 1).toNat, by ((try clear c0n c0p c1 e1 e3 eq0 etm ew ew2 hc0 hl hn hp hpl hpl2 hpn hy1 hyhi hylo k3 k4 k5 kD kD7 kD8 kR kR7 kS kq5 lD lR mt n_l1 n_lq nq nqr nr nr0 p2 r0 rw0); omega), (hW _ _ _).mpr ⟨g8, _, _, _, _, _, hv.step hpn (take_deg hab hn) mt hw, by ((try clear c0n c0p c1 e1 e3 eq0 etm ew ew2 hc0 hl hn hp hpl hpl2 hpn hy1 hyhi hylo k3 k4 k5 kD kD7 kD8 kR kR7 kS kq5 lD lR mt n_l1 n_lq nq nqr nr nr0 p2 r0 rw0); omega), by ((try clear c0n c0p c1 e1 e3 eq0 etm ew ew2 hc0 hl hn hp hpl hpn hy1 hyhi hylo k3 k4 k5 kD kD7 kD8 kR kR7 kS kq5 lD mt n_l1 n_lq nq nqr nr nr0 p2 r0 rw0); omega), kD8, kS, rfl, rfl⟩⟩
  · (first | refine hX _ _ ?_ | skip); (try dsimp only); try (repeat (first | dsimp only [tSeq] | walk_at "dr1")); (try simp only [sp_inverse_of, sp_degree_of, sp_rests_of]); try (repeat (first | dsimp only [tSeq] | walk_at "dr1"))
    have hd2 := hv.done (by ((try clear c0n c0p e1 eq0 hc0 hl hn hp hpl2 hy1 hyhi hylo k3 k4 k5 kD kR kq5 n_l1 n_lq nq nqr nr nr0 p2 r0); omega))
    refine ⟨_, SqL.of kR, ?_⟩
    intro le n_le; generalize e_le : upd _ le _ = H7; obtain ⟨g7, k7⟩ := newH e_le n_le; clear e_le
    rw [cut_to V.int _ (by ((try clear c0n c0p c1 e1 eq0 hc0 hl hn hp hpl hpl2 hy1 hyhi hylo k3 k4 k5 k7 kD kR kq5 n_l1 n_le n_lq nq nqr nr nr0 p2 r0); omega)), Int.toNat_natCast] at k7
    refine ⟨by decide, ?_⟩
    intro lt n_lt; generalize e_lt : upd _ lt _ = H8; obtain ⟨g8, k8⟩ := newH e_lt n_lt; clear e_lt
    exact q lt lq le n D _ H8 hd hd2 nq (g6.free n_le) (g6.trans (g7.trans g8)) (g8 _ _ (g7 _ _ kD)) (g8 _ _ k7) k8
noncomputable def sp_inverse_beside (K : PySem.W.Frag) : Sp := fun vs H Q _ => ∃ (p : Int) (a b : Addr) (h g : List Int), vs = [.int p, .ref a, .ref b] ∧ SqL K H a (h.map V.int) ∧ SqL K H b (g.map V.int) ∧ (2 ≤ g.length ∧ g.length ≤ 7 ∧ h.length ≤ 7) ∧ p ∈ Dr.primes ∧ (∀ x, x ∈ g → 0 ≤ x ∧ x < p) ∧ g.getLast? = some 1 ∧
  ∀ H', Same H H' → (¬ Dr.Bez p g h → Q .non H') ∧ ∀ (c : Addr) (t : List Int), Dr.Inv p g h t → (∀ x, x ∈ t → 0 ≤ x ∧ x < p) → (1 ≤ t.length ∧ t.length ≤ 43) → H c = none → H' c = some (.lst (t.map V.int)) → Q (.ref c) H'
theorem deg_of {p : Int} {g : List Int} {n : Nat} (hg : ∀ x, x ∈ g → 0 ≤ x ∧ x < p) (h : Dr.IsDeg g (n : Int)) : Dr.DegP p g n := by
  rcases h with ⟨z, _⟩ | ⟨k, c, e, hk, c0, hab⟩
  · omega
  · have : k = n := by ((try clear c0 hk); omega)
    subst this
    have r := hg c (List.mem_of_getElem? hk)
    refine ⟨?_, fun j hj => ?_⟩
    · rw [List.getD_eq_getElem?_getD, hk]
      show c % p ≠ 0
      rw [Int.emod_eq_of_lt r.1 r.2]
      exact c0
    · rw [List.getD_eq_getElem?_getD]
      cases w : g[j]? with
      | none => simp
      | some b => rw [hab j b hj w]; simp
theorem deg_last {p : Int} (hp : 2 ≤ p) {g : List Int} (h : g.getLast? = some 1) : Dr.DegP p g (g.length - 1) := by
  rw [List.getLast?_eq_getElem?] at h
  have := (List.getElem?_eq_some_iff.mp h).1
  refine ⟨?_, fun j hj => by rw [Dr.getD_len (by ((try clear h hp); omega))]; simp⟩
  rw [List.getD_eq_getElem?_getD, h]
  show (1 : Int) % p ≠ 0
  rw [Int.emod_eq_of_lt (by ((try clear h hp this); omega)) (by ((try clear h this); omega))]
  decide
inductive IbW (K : PySem.W.Frag) (H : Hp) (p : Int) (a b : Addr) (g h : List Int) (mm : Nat) (σ : St) (H6 : Hp) : Prop
  | mk (q0 : Same H H6) (A B a0 a1 b0 b1 : Addr) (r0 t0 r1 t1 : List Int) (d0 : Nat) (t5 t6 : Option V) (q1 : (H6 A = some (.tup [.ref a0, .ref a1]) ∧ H6 B = some (.tup [.ref b0, .ref b1]))) (q2 : (SqL K H6 a0 (r0.map V.int) ∧ H6 a1 = some (.lst (t0.map V.int)) ∧ H6 b0 = some (.lst (r1.map V.int)) ∧ H6 b1 = some (.lst (t1.map V.int)))) (q3 : (Dr.Row p g h r0 t0 ∧ Dr.Row p g h r1 t1 ∧ Dr.Eu p g h r0 r1)) (q4 : Dr.DegP p r0 d0) (q5 : (1 ≤ d0 ∧ r1.length ≤ d0 ∧ r0.length ≤ 7)) (q6 : (∀ x, x ∈ r0 → 0 ≤ x ∧ x < p)) (q7 : (∀ x, x ∈ r1 → 0 ≤ x ∧ x < p)) (q8 : (∀ x, x ∈ t0 → 0 ≤ x ∧ x < p)) (q9 : (∀ x, x ∈ t1 → 0 ≤ x ∧ x < p)) (q10 : (1 ≤ t0.length ∧ 1 ≤ t1.length ∧ t0.length + 7 * mm ≤ 43 ∧ t1.length + 7 * mm ≤ 43)) (q11 : mm = r1.length) (q12 : σ = [some (.int p), some (.ref a), some (.ref b), some (.ref A), some (.ref B), t5, t6])
theorem ok_inverse_beside (B : Bi mg K) (d_inverse_of : Def P w K mg base "inverse_of" 2 ["p", "e", "x"] (sp_inverse_of K)) (d_degree_of : Def P w K mg base "degree_of" 1 ["f"] (sp_degree_of K)) (d_poly_product : Def P w K mg base "poly_product" 1 ["f", "g"] (sp_poly_product K)) (d_rests_of : Def P w K mg base "rests_of" 1 ["p", "f"] (sp_rests_of K)) (d_poly_difference : Def P w K mg base "poly_difference" 1 ["f", "g"] (sp_poly_difference K)) (d_divided_by_prime : Def P w K mg base "divided_by_prime" 3 ["p", "f", "g"] (sp_divided_by_prime K)) (F : Fun K "inverse_beside" "inverse_beside" s_inverse_beside f fd) : FnOk P w K mg base CX0 4 f fd ["p", "h", "g"] (sp_inverse_beside K) := by
  refine F.ok S_inverse_beside (fun vs H Q E h => ?_) (fun cdv A outer s H vs Q E hr h => ?_)
  · obtain ⟨p, a, b, h, g, rfl, _⟩ := h
    rfl
  obtain ⟨p, a, b, h, g, rfl, hS, hS', hl, hpp, hg, hg1, q⟩ := h
  have S := S_inverse_beside
  have p2 := Dr.primes_ge hpp
  have hp : 2 ≤ p ∧ p < 1000 := by ((try clear hg1 hl); omega)
  refine ⟨_, ((pss_cons (ps_set (i := 3) S.nd rfl (Or.inl rfl) (pe_tup (pa_cons (pv 2) (pa_cons (pe_lst (pa_cons pe_int pa_nil)) pa_nil))))
    (pss_cons (ps_set (i := 4) S.nd rfl (Or.inl rfl) (pe_tup (pa_cons (pe_ix ix_tup (pe_def d_divided_by_prime hr rfl (pa_cons (pv 0) (pa_cons (pv 1) (pa_cons (pv 2) pa_nil)))) pe_int (fun _ _ => rfl)) (pa_cons (pe_lst (pa_cons pe_int pa_nil)) pa_nil))))
    (pss_cons (ps_while PassesOwn.never (pt_cmpR op_gt (pe_def d_degree_of hr rfl (pa_cons (pe_ix ix_tup (pv 4) pe_int (fun _ _ => rfl)) pa_nil)) pe_int (nomark _)) (pss_cons (ps_set (i := 5) S.nd rfl (Or.inl rfl) (pe_def d_divided_by_prime hr rfl (pa_cons (pv 0) (pa_cons (pe_ix ix_tup (pv 3) pe_int (fun _ _ => rfl)) (pa_cons (pe_ix ix_tup (pv 4) pe_int (fun _ _ => rfl)) pa_nil)))))
    (pss_cons (ps_set (i := 6) S.nd rfl (Or.inl rfl) (pe_tup (pa_cons (pe_ix ix_tup (pv 5) pe_int (fun _ _ => rfl)) (pa_cons (pe_def d_rests_of hr rfl (pa_cons (pv 0) (pa_cons (pe_def d_poly_difference hr rfl (pa_cons (pe_ix ix_tup (pv 3) pe_int (fun _ _ => rfl)) (pa_cons (pe_def d_poly_product hr rfl (pa_cons (pe_ix ix_tup (pv 5) pe_int (fun _ _ => rfl)) (pa_cons (pe_ix ix_tup (pv 4) pe_int (fun _ _ => rfl)) pa_nil))) pa_nil))) pa_nil))) pa_nil))))
    (pss_cons (ps_set (i := 3) S.nd rfl (Or.inl rfl) (pv 4))
    (pss_one (ps_set (i := 4) S.nd rfl (Or.inl rfl) (pv 6)))))))
    (pss_cons (ps_if (pt_cmpR op_eq (pe_def d_degree_of hr rfl (pa_cons (pe_ix ix_tup (pv 4) pe_int (fun _ _ => rfl)) pa_nil)) (pe_un un_neg pe_int) (nomark _)) (pss_one (ps_ret pe_non)) pss_nil)
    (pss_one (ps_ret (pe_def d_rests_of hr rfl (pa_cons (pv 0) (pa_cons (pe_def d_poly_product hr rfl (pa_cons (pe_ix ix_tup (pv 4) pe_int (fun _ _ => rfl)) (pa_cons (pe_lst (pa_cons (pe_def d_inverse_of hr rfl (pa_cons (pv 0) (pa_cons pe_int (pa_cons (pe_ix ix_list (pe_ix ix_tup (pv 4) pe_int (fun _ _ => rfl)) pe_int (fun _ _ => rfl)) pa_nil)))) pa_nil)) pa_nil))) pa_nil)))))))))), ?_⟩
  have nzg : ∃ x, x ∈ g ∧ x ≠ 0 := ⟨1, List.mem_of_getLast? hg1, by decide⟩
  (try dsimp only); (first | refine hX _ _ ?_ | skip); (try dsimp only); (first | refine seqX (fun X hX => ?_) | skip); try walk_at "dr1"; (try simp only [sp_inverse_of, sp_degree_of, sp_poly_product, sp_rests_of, sp_poly_difference, sp_divided_by_prime]); try walk_at "dr1"
  refine ⟨by decide, ?_⟩
  intro l1 n_l1; generalize e_l1 : upd _ l1 _ = H1; obtain ⟨g1, k1⟩ := newH e_l1 n_l1; clear e_l1
  refine ⟨by decide, ?_⟩
  intro lA n_lA; generalize e_lA : upd _ lA _ = H2; obtain ⟨g2, k2⟩ := newH e_lA n_lA; clear e_lA
  have G2 := g1.trans g2
  (try dsimp only); (first | refine hX _ _ ?_ | skip); (try dsimp only); (first | refine seqX (fun X hX => ?_) | skip); try walk_at "dr1"; (try simp only [sp_inverse_of, sp_degree_of, sp_poly_product, sp_rests_of, sp_poly_difference, sp_divided_by_prime]); try walk_at "dr1"
  refine ⟨h, G2.seq hS, g, G2.seq hS', by ((try clear hg1 hp k1 k2 n_l1 n_lA p2); omega), by ((try clear hg1 hp k1 k2 n_l1 n_lA p2); omega), hpp, hg, nzg, fun lt lc le n D R H3 hd hv nc ne g3 kc ke kt => ?_⟩
  have dn := deg_of hg hd
  have dl := deg_last hp.1 hg1
  have en : n = g.length - 1 := by
    have h1 : ¬ n < g.length - 1 := fun z => dl.1 (dn.2 _ z)
    have h2 := dn.lt
    ((try clear hg1 hp k1 k2 kc ke kt n_l1 n_lA nc ne p2); omega)
  have lr := hv.lr
  have row1 := Dr.Row.second hv.eq
  have eu : Dr.Eu p g h g R := (Dr.Eu.start p g h).swap.step hv.eq
  refine ⟨_, SqT.of kt, _, atI_nat (j := 1) rfl, by decide, ?_⟩
  intro l4 n_l4; generalize e_l4 : upd _ l4 _ = H4; obtain ⟨g4, k4⟩ := newH e_l4 n_l4; clear e_l4
  refine ⟨by decide, ?_⟩
  intro lR n_lR; generalize e_lR : upd _ lR _ = H5; obtain ⟨g5, k5⟩ := newH e_lR n_lR; clear e_lR
  have G3 := G2.trans g3
  have G5 := G3.trans (g4.trans g5)
  have one : ∀ x, x ∈ [(1 : Int)] → 0 ≤ x ∧ x < p := fun x hx => by rw [List.mem_singleton.mp hx]; ((try clear en hg1 hl hp k1 k2 k4 k5 kc ke kt lr n_l1 n_l4 n_lA n_lR nc ne); omega)
  have nought : ∀ x, x ∈ [(0 : Int)] → 0 ≤ x ∧ x < p := fun x hx => by rw [List.mem_singleton.mp hx]; ((try clear en hg1 hl hp k1 k2 k4 k5 kc ke kt lr n_l1 n_l4 n_lA n_lR nc ne); omega)
  (try dsimp only); (first | refine hX _ _ ?_ | skip); (try dsimp only); (first | refine seqX (fun X hX => ?_) | skip); try walk_at "dr1"; (try simp only [sp_inverse_of, sp_degree_of, sp_poly_product, sp_rests_of, sp_poly_difference, sp_divided_by_prime]); try walk_at "dr1"
  obtain ⟨W, hW⟩ : ∃ W : Nat → St → Hp → Prop, ∀ mm σ H6, W mm σ H6 ↔ (IbW K H p a b g h mm σ H6) := ⟨_, fun _ _ _ => Iff.rfl⟩
  (first | refine hX _ _ ?_ | skip); refine whB W R.length ((hW _ _ _).mpr ⟨G5, lA, lR, b, l1, le, l4, g, [0], R, [1], g.length - 1, none, none, ⟨g5 _ _ (g4 _ _ (g3 _ _ k2)), k5⟩, ⟨G5.seq hS', g5 _ _ (g4 _ _ (g3 _ _ (g2 _ _ k1))), g5 _ _ (g4 _ _ ke), g5 _ _ k4⟩, ⟨Dr.Row.first p g h, row1, eu⟩, dl, ⟨by ((try clear hg1 hp k1 k2 k4 k5 kc ke kt n_l1 n_l4 n_lA n_lR nc ne p2); omega), by ((try clear hg1 hl hp k1 k2 k4 k5 kc ke kt n_l1 n_l4 n_lA n_lR nc ne p2); omega), by ((try clear en hg1 hp k1 k2 k4 k5 kc ke kt lr n_l1 n_l4 n_lA n_lR nc ne p2); omega)⟩, hg, hv.rr, nought, one, ⟨by simp, by simp, by simp; ((try clear hg1 hp k1 k2 k4 k5 kc ke kt n_l1 n_l4 n_lA n_lR nc ne p2); omega), by simp; ((try clear hg1 hp k1 k2 k4 k5 kc ke kt n_l1 n_l4 n_lA n_lR nc ne p2); omega)⟩, rfl, rfl⟩) ?_
  intro mm σ H6 z
  refine byX fun X hX => ?_; obtain ⟨g6, A, B', a0, a1, b0, b1, r0, t0, r1, t1, d0, t5, t6, ⟨kA, kB⟩, ⟨sa0, ka1, kb0, kb1⟩, ⟨w0, w1, eu1⟩, dg0, ⟨hd0, hr1, hr0⟩, rr0, rr1, rt0, rt1, ⟨lt0, lt1, lt2, lt3⟩, rfl, rfl⟩ := (hW _ _ _).mp z; refine hX ?_; clear hX X
  (first | refine hX _ _ ?_ | skip); (try dsimp only); try (repeat (first | dsimp only [tSeq] | walk_at "dr1")); (try simp only [sp_inverse_of, sp_degree_of, sp_poly_product, sp_rests_of, sp_poly_difference, sp_divided_by_prime]); try (repeat (first | dsimp only [tSeq] | walk_at "dr1"))
  refine ⟨_, SqT.of kB, _, atI_nat (j := 0) rfl, _, rfl, r1, SqL.of kb0, fun d H7 hd7 g7 => ite2 (fun c1 => ?_) (fun c1 => ?_)⟩
  · have nz1 : ∃ x, x ∈ r1 ∧ x ≠ 0 := by
      rcases hd7 with ⟨z, _⟩ | ⟨k, c, _, hk, c0, _⟩
      · ((try clear en hd0 hg1 hl hp hr0 hr1 k1 k2 k4 k5 kA kB ka1 kb0 kb1 kc ke kt lr lt0 lt1 lt2 lt3 n_l1 n_l4 n_lA n_lR nc ne p2); omega)
      · exact ⟨c, List.mem_of_getElem? hk, c0⟩
    refine ⟨_, fun _ _ h => h, _, SqT.of (g7 _ _ kA), _, atI_nat (j := 0) rfl, _, SqT.of (g7 _ _ kB), _, atI_nat (j := 0) rfl, _, rfl, _, rfl, r0, g7.seq sa0, r1, SqL.of (g7 _ _ kb0), by ((try clear c1 en hd0 hg1 hl hp hr1 k1 k2 k4 k5 kA kB ka1 kb0 kb1 kc ke kt lr lt0 lt1 lt2 lt3 n_l1 n_l4 n_lA n_lR nc ne p2); omega), by ((try clear c1 en hd0 hg1 hl hp hr0 hr1 k1 k2 k4 k5 kA kB ka1 kb0 kb1 kc ke kt lr lt1 lt3 n_l1 n_l4 n_lA n_lR nc ne p2); omega), hpp, rr1, nz1, fun lt lc le n D R H8 hdn hv nc ne g8 kc ke kt => ?_⟩
    have en : (n : Int) = d := hdn.uniq hd7
    have dn1 := deg_of rr1 hdn
    have lD := hv.lq
    have lR := hv.lr
    have ln := dn1.lt
    have ld0 := dg0.lt
    have G8 := g7.trans g8
    have kA8 := G8 _ _ kA
    have kB8 := G8 _ _ kB
    have ka18 := G8 _ _ ka1
    have kb08 := G8 _ _ kb0
    have kb18 := G8 _ _ kb1
    clear kA kB ka1 kb0 kb1 hd7
    refine ⟨_, SqT.of kt, _, atI_nat (j := 1) rfl, _, SqT.of kA8, _, atI_nat (j := 1) rfl, _, SqT.of kt, _, atI_nat (j := 0) rfl, _, SqT.of kB8, _, atI_nat (j := 1) rfl, _, rfl, _, rfl, D, SqL.of kc, t1, SqL.of kb18, by ((try clear c1 en hd0 hg1 hl hp hr0 k1 k2 k4 k5 kA8 kB8 ka18 kb08 kb18 kc ke kt lR lr lt0 lt1 lt2 lt3 n_l1 n_l4 n_lA n_lR nc ne p2); omega), by ((try clear hg1 hl hp k1 k2 k4 k5 kA8 kB8 ka18 kb08 kb18 kc ke kt lR lr lt0 lt1 lt2 lt3 n_l1 n_l4 n_lA n_lR nc ne p2); omega), by ((try clear c1 en hd0 hg1 hl hp hr0 hr1 k1 k2 k4 k5 kA8 kB8 ka18 kb08 kb18 kc ke kt lD lR ld0 ln lr lt0 lt2 lt3 n_l1 n_l4 n_lA n_lR nc ne p2); omega), by ((try clear c1 en hd0 hg1 hl hp hr0 hr1 k1 k2 k4 k5 kA8 kB8 ka18 kb08 kb18 kc ke kt lD lR ld0 ln lr lt0 lt1 lt2 n_l1 n_l4 n_lA n_lR nc ne p2); omega), 10, range_b hp.2 hv.rq, 10, range_b hp.2 rt1, by decide, by decide, fun lp pr H9 hpr bpr np g9 kp => ?_⟩
    have lpr := hpr.len
    refine ⟨_, rfl, t0, SqL.of (g9 _ _ ka18), pr, SqL.of kp, by ((try clear c1 en hd0 hg1 hl hp hr0 hr1 k1 k2 k4 k5 kA8 kB8 ka18 kb08 kb18 kc ke kp kt lD lR ld0 ln lpr lr lt0 lt1 lt3 n_l1 n_l4 n_lA n_lR nc ne np p2); omega), by ((try clear hg1 hl hp k1 k2 k4 k5 kA8 kB8 ka18 kb08 kb18 kc ke kp kt lR lr lt0 lt1 lt2 n_l1 n_l4 n_lA n_lR nc ne np p2); omega), 32, fun x hx => ((range_b hp.2 rt0) x hx).mono (by decide), bpr, fun ld df H10 ldf edf bdf nd g10 kd => ?_⟩
    refine ⟨df, SqL.of kd, by ((try clear hg1 hl hp k1 k2 k4 k5 kA8 kB8 ka18 kb08 kb18 kc kd ke kp kt lR lr lt0 lt1 n_l1 n_l4 n_lA n_lR nc nd ne np p2); omega), hp.1, hp.2, fun lq H11 nq g11 kq => ⟨by decide, ?_⟩⟩
    intro lF n_lF; generalize e_lF : upd _ lF _ = H12; obtain ⟨g12, k12⟩ := newH e_lF n_lF; clear e_lF
    have G12 := g9.trans (g10.trans (g11.trans g12))
    refine ⟨R.length, by ((try clear c1 en hd0 hg1 hl hp hr0 k1 k12 k2 k4 k5 kA8 kB8 ka18 kb08 kb18 kc kd ke kp kq kt lD ldf lpr lr lt0 lt1 lt2 lt3 n_l1 n_l4 n_lA n_lF n_lR nc nd ne np nq p2); omega), (hW _ _ _).mpr ⟨g6.trans (G8.trans G12), B', lF, b0, b1, le, lq, r1, t1, R, df.map (· % p), n, _, _, ⟨G12 _ _ kB8, k12⟩, ⟨SqL.of (G12 _ _ kb08), G12 _ _ kb18, G12 _ _ ke, g12 _ _ kq⟩, ⟨w1, Dr.Row.next w0 w1 hv.eq ?_, eu1.step hv.eq⟩, dn1, ⟨by ((try clear hd0 hg1 hl hp hr0 hr1 k1 k12 k2 k4 k5 kA8 kB8 ka18 kb08 kb18 kc kd ke kp kq kt lD lR ld0 ldf ln lpr lr lt0 lt1 lt2 lt3 n_l1 n_l4 n_lA n_lF n_lR nc nd ne np nq p2); omega), by ((try clear c1 en hd0 hg1 hl hp hr0 hr1 k1 k12 k2 k4 k5 kA8 kB8 ka18 kb08 kb18 kc kd ke kp kq kt lD ld0 ldf ln lpr lr lt0 lt1 lt2 lt3 n_l1 n_l4 n_lA n_lF n_lR nc nd ne np nq p2); omega), by ((try clear c1 en hd0 hg1 hl hp hr0 hr1 k1 k12 k2 k4 k5 kA8 kB8 ka18 kb08 kb18 kc kd ke kp kq kt lD lR ld0 ldf ln lpr lr lt1 lt3 n_l1 n_l4 n_lA n_lF n_lR nc nd ne np nq p2); omega)⟩, rr1, hv.rr, rt1, mods_r hp.1 _, ⟨by ((try clear c1 en hd0 hg1 hl hp hr0 hr1 k1 k12 k2 k4 k5 kA8 kB8 ka18 kb08 kb18 kc kd ke kp kq kt lD lR ld0 ldf ln lpr lr lt0 lt2 lt3 n_l1 n_l4 n_lA n_lF n_lR nc nd ne np nq p2); omega), by rw [List.length_map]; ((try clear c1 en hd0 hg1 hl hp hr0 hr1 k1 k12 k2 k4 k5 kA8 kB8 ka18 kb08 kb18 kc kd ke kp kq kt lD lR ld0 ln lpr lr lt1 lt2 lt3 n_l1 n_l4 n_lA n_lF n_lR nc nd ne np nq p2); omega), by ((try clear c1 en hd0 hg1 hl hp hr0 k1 k12 k2 k4 k5 kA8 kB8 ka18 kb08 kb18 kc kd ke kp kq kt ldf lr lt0 lt1 n_l1 n_l4 n_lA n_lF n_lR nc nd ne np nq p2); omega), by rw [List.length_map]; ((try clear c1 en hg1 hl hp k1 k12 k2 k4 k5 kA8 kB8 ka18 kb08 kb18 kc kd ke kp kq kt lr lt0 lt1 n_l1 n_l4 n_lA n_lF n_lR nc nd ne np nq p2); omega)⟩, rfl, rfl⟩⟩
    exact (Dr.Cf.rests p df).cg.trans (Dr.Cg.of_eq fun x => by rw [edf, hpr.ev])
  · (first | refine hX _ _ ?_ | skip); (try dsimp only); try (repeat (first | dsimp only [tSeq] | walk_at "dr1")); (try simp only [sp_inverse_of, sp_degree_of, sp_poly_product, sp_rests_of, sp_poly_difference, sp_divided_by_prime]); try (repeat (first | dsimp only [tSeq] | walk_at "dr1"))
    refine ⟨_, SqT.of (g7 _ _ kB), _, atI_nat (j := 0) rfl, _, rfl, r1, SqL.of (g7 _ _ kb0), fun d2 H8 hd8 g8 => ?_⟩
    obtain rfl : d = d2 := hd7.uniq hd8
    have G8 := g6.trans (g7.trans g8)
    refine ite2 (fun c2 => ?_) (fun c2 => ?_)
    · refine (q H8 G8).1 (Dr.Eu.no hpp eu1 ?_ dg0 hd0)
      intro i
      rcases hd7 with ⟨_, z⟩ | ⟨k, c, e, _⟩
      · rw [List.getD_eq_getElem?_getD]
        cases w : r1[i]? with
        | none => simp
        | some x => rw [z x (List.mem_of_getElem? w)]; simp
      · ((try clear c1 en hd0 hg1 hl hp hr0 hr1 k1 k2 k4 k5 kA kB ka1 kb0 kb1 kc ke kt lr lt0 lt1 lt2 lt3 n_l1 n_l4 n_lA n_lR nc ne p2); omega)
    · have d0' : d = 0 := by
        rcases hd7 with ⟨z, _⟩ | ⟨k, c, e, _⟩ <;> ((try clear en hd0 hg1 hl hp hr0 hr1 k1 k2 k4 k5 kA kB ka1 kb0 kb1 kc ke kt lr lt0 lt1 lt2 lt3 n_l1 n_l4 n_lA n_lR nc ne p2); omega)
      subst d0'
      have dg1 := deg_of (n := 0) rr1 hd7
      have hl1 := dg1.lt
      obtain ⟨c, hc⟩ : ∃ c, r1[0]? = some c := ⟨_, List.getElem?_eq_getElem hl1⟩
      have ec : r1.getD 0 0 = c := by rw [List.getD_eq_getElem?_getD, hc]; rfl
      have rc := rr1 c (List.mem_of_getElem? hc)
      have cp : c % p ≠ 0 := by rw [← ec]; exact dg1.1
      have g78 := g7.trans g8
      refine ⟨_, SqT.of (g78 _ _ kB), _, atI_nat (j := 1) rfl, _, SqT.of (g78 _ _ kB), _, atI_nat (j := 0) rfl, _, rfl, _, SqL.of (g78 _ _ kb0), _, atI_nat (j := 0) (by rw [List.getElem?_map, hc]; rfl), _, rfl, hpp, Nat.le_trans (intBits_le_64 (by ((try clear c1 c2 cp ec en hc hd0 hg1 hl hl1 hp hr0 hr1 k1 k2 k4 k5 kA kB ka1 kb0 kb1 kc ke kt lr lt0 lt1 lt2 lt3 n_l1 n_l4 n_lA n_lR nc ne p2); omega)) (by ((try clear c1 c2 cp ec en hc hd0 hg1 hl hl1 hp hr0 hr1 k1 k2 k4 k5 kA kB ka1 kb0 kb1 kc ke kt lr lt0 lt1 lt2 lt3 n_l1 n_l4 n_lA n_lR nc ne); omega))) (by decide), .inr cp, fun y H9 hy g9 => ⟨by decide, ?_⟩⟩
      have e1 : Int.toNat 1 = 1 := rfl
      rw [e1] at hy
      have hy1 : (c * y - 1) % p = 0 := by have := hy.one; rwa [Int.pow_one] at this
      have hylo := hy.lo
      have hyhi : y < p := by have := hy.hi; rwa [Int.pow_one] at this
      intro ly n_ly; generalize e_ly : upd _ ly _ = H10; obtain ⟨g10, k10⟩ := newH e_ly n_ly; clear e_ly
      have k10 : H10 ly = some (.lst ([y].map V.int)) := k10
      have G10 := g78.trans (g9.trans g10)
      refine ⟨_, rfl, t1, SqL.of (G10 _ _ kb1), [y], SqL.of k10, by ((try clear c1 c2 cp e1 ec en hc hd0 hg1 hl hl1 hp hr0 hr1 hy1 hyhi hylo k1 k10 k2 k4 k5 kA kB ka1 kb0 kb1 kc ke kt lr lt0 lt2 lt3 n_l1 n_l4 n_lA n_lR n_ly nc ne p2 rc); omega), by ((try clear c1 c2 cp e1 ec en hc hd0 hg1 hl hp hr0 hr1 hy1 hyhi hylo k1 k10 k2 k4 k5 kA kB ka1 kb0 kb1 kc ke kt lr lt0 lt1 lt2 n_l1 n_l4 n_lA n_lR n_ly nc ne p2 rc); omega), by simp, by simp, 10, range_b hp.2 rt1, 10, fun x hx => by rw [List.mem_singleton.mp hx]; exact sm_of 1000 (by ((try clear c1 c2 cp e1 ec en hc hd0 hg1 hl hl1 hp hr0 hr1 hy1 k1 k10 k2 k4 k5 kA kB ka1 kb0 kb1 kc ke kt lr lt0 lt1 lt2 lt3 n_l1 n_l4 n_lA n_lR n_ly nc ne rc); omega)) (by decide), by decide, by decide, fun lp pr H11 hpr bpr np g11 kp => ?_⟩
      have lpr := hpr.len
      simp only [List.length_cons, List.length_nil] at lpr
      refine ⟨pr, SqL.of kp, by ((try clear c1 c2 cp e1 ec en hc hd0 hg1 hl hp hr0 hr1 hy1 hyhi hylo k1 k10 k2 k4 k5 kA kB ka1 kb0 kb1 kc ke kp kt lr lt0 lt1 lt2 n_l1 n_l4 n_lA n_lR n_ly nc ne np p2 rc); omega), hp.1, hp.2, fun lz H12 nz g12 kz => ?_⟩
      refine (q H12 (g6.trans (G10.trans (g11.trans g12)))).2 lz _ (Dr.Row.inv (y := y) w1 ?_ (by rw [ec]; exact hy1) ?_) (mods_r hp.1 _) ⟨by rw [List.length_map]; ((try clear c1 c2 cp e1 ec en hc hd0 hg1 hl hl1 hp hr0 hr1 hy1 hyhi hylo k1 k10 k2 k4 k5 kA kB ka1 kb0 kb1 kc ke kp kt kz lr lt0 lt2 lt3 n_l1 n_l4 n_lA n_lR n_ly nc ne np nz p2 rc); omega), by rw [List.length_map]; ((try clear c1 c2 cp e1 ec en hc hd0 hg1 hl hp hr0 hr1 hy1 hyhi hylo k1 k10 k2 k4 k5 kA kB ka1 kb0 kb1 kc ke kp kt kz lr lt0 lt1 lt2 n_l1 n_l4 n_lA n_lR n_ly nc ne np nz p2 rc); omega)⟩ (g6.free (G10.free (g11.free nz))) kz
      · intro i
        cases i with
        | zero => simp
        | succ i =>
          have := dg1.2 (i + 1) (by ((try clear c1 c2 cp e1 ec en hc hd0 hg1 hl hl1 hp hr0 hr1 hy1 hyhi hylo k1 k10 k2 k4 k5 kA kB ka1 kb0 kb1 kc ke kp kt kz lpr lr lt0 lt1 lt2 lt3 n_l1 n_l4 n_lA n_lR n_ly nc ne np nz p2 rc); omega))
          simpa using this
      · refine (Dr.Cf.rests p pr).cg.trans (Dr.Cg.of_eq fun x => ?_)
        rw [hpr.ev]
        simp [Dr.pev]
noncomputable def sp_may_part (K : PySem.W.Frag) : Sp := fun vs H Q _ => ∃ (p N : Int) (a b c : Addr) (f g h : List Int) (m : Nat), vs = [.int p, .int N, .ref a, .ref b, .ref c] ∧ SqL K H a (f.map V.int) ∧ SqL K H b (g.map V.int) ∧ SqL K H c (h.map V.int) ∧ (f.length ≤ 30 ∧ g.length ≤ 15 ∧ h.length ≤ 15) ∧ (2 ≤ p ∧ p < 1000) ∧ Dr.PolyB f m ∧ Dr.PolyB g m ∧ Dr.PolyB h m ∧ m ≤ 10000 ∧
  ∀ (v : Bool) (H' : Hp), (v = true ↔ Dr.May p N f g h) → Same H H' → Q (.bl v) H'
theorem atI_lastZ {f : List Int} {x : Int} (h : f.getLast? = some x) : atI (f.map V.int) (-1) = some (.int x) := by
  have h0 : 0 < f.length := by
    cases f with
    | nil => simp at h
    | cons a r => simp
  unfold atI ixN
  rw [if_neg (by decide), if_pos (by rw [List.length_map]; ((try clear h); omega)), List.length_map]
  rw [show (-1 + (f.length : Int)).toNat = f.length - 1 by ((try clear h); omega)]
  show (f.map V.int)[f.length - 1]? = _
  rw [List.getElem?_map, ← List.getLast?_eq_getElem?, h]
  rfl
theorem last_ex {f : List Int} (h : 0 < f.length) : ∃ x, f.getLast? = some x := by
  rw [List.getLast?_eq_getElem?, List.getElem?_eq_getElem (by omega)]
  exact ⟨_, rfl⟩
theorem ok_may_part (B : Bi mg K) (d_degree_of : Def P w K mg base "degree_of" 1 ["f"] (sp_degree_of K)) (d_poly_product : Def P w K mg base "poly_product" 1 ["f", "g"] (sp_poly_product K)) (d_rests_of : Def P w K mg base "rests_of" 1 ["p", "f"] (sp_rests_of K)) (d_poly_difference : Def P w K mg base "poly_difference" 1 ["f", "g"] (sp_poly_difference K)) (F : Fun K "may_part" "may_part" s_may_part f fd) : FnOk P w K mg base CX0 2 f fd ["p", "N", "f", "g", "h"] (sp_may_part K) := by
  refine F.ok S_may_part (fun vs H Q E h => ?_) (fun cdv A outer s H vs Q E hr h => ?_)
  · obtain ⟨p, N, a, b, c, f, g, h, m, rfl, _⟩ := h
    rfl
  obtain ⟨p, N, a, b, c, f, g, h, m, rfl, hS, hS2, hS3, hl, hp, hf, hg, hh, hm, q⟩ := h
  have S := S_may_part
  refine ⟨_, ((pss_cons (ps_if (PW.pt (pw_or (pt_cmpR op_lt (pv 1) pe_int (nomark _)) (pw_or (pt_cmpR op_lt (pe_callB call_len_seq rfl B.b_len PySem.boot_len (pa_cons (pv 3) pa_nil)) pe_int (nomark _)) (pw_or (pt_cmpR op_lt (pe_callB call_len_seq rfl B.b_len PySem.boot_len (pa_cons (pv 4) pa_nil)) pe_int (nomark _)) (pw_or1 (pt_cmpR op_ne (pe_callB call_len_seq rfl B.b_len PySem.boot_len (pa_cons (pv 2) pa_nil)) (pe_op op_sub (pe_op op_add (pe_callB call_len_seq rfl B.b_len PySem.boot_len (pa_cons (pv 3) pa_nil)) (pe_callB call_len_seq rfl B.b_len PySem.boot_len (pa_cons (pv 4) pa_nil))) pe_int) (nomark _))))))) (pss_one (ps_ret pe_bl)) pss_nil)
    (pss_cons (ps_if (PW.pt (pw_or (pt_cmpR op_ne (pe_ix ix_list (pv 2) (pe_un un_neg pe_int) (fun _ _ => rfl)) pe_int (nomark _)) (pw_or (pt_cmpR op_ne (pe_ix ix_list (pv 3) (pe_un un_neg pe_int) (fun _ _ => rfl)) pe_int (nomark _)) (pw_or1 (pt_cmpR op_ne (pe_ix ix_list (pv 4) (pe_un un_neg pe_int) (fun _ _ => rfl)) pe_int (nomark _)))))) (pss_one (ps_ret pe_bl)) pss_nil)
    (pss_one (ps_ret (pe_cmpR op_eq (pe_def d_degree_of hr rfl (pa_cons (pe_def d_rests_of hr rfl (pa_cons (pv 0) (pa_cons (pe_def d_poly_difference hr rfl (pa_cons (pv 2) (pa_cons (pe_def d_poly_product hr rfl (pa_cons (pv 3) (pa_cons (pv 4) pa_nil))) pa_nil))) pa_nil))) pa_nil)) (pe_un un_neg pe_int) (nomark _))))))), ?_⟩
  have no : ∀ H', (Dr.May p N f g h → False) → Same H H' → Q (.bl false) H' := fun H' hn g => q false H' ⟨fun z => (by cases z), fun z => (hn z).elim⟩ g
  (try dsimp only); (first | refine hX _ _ ?_ | skip); (try dsimp only); (first | refine seqX (fun X hX => ?_) | skip); try walk_at "dr1"; (try simp only [sp_degree_of, sp_poly_product, sp_rests_of, sp_poly_difference]); try walk_at "dr1"
  refine ite2 (fun c1 => no H (fun z => by have := z.n; ((try clear hl hm hp); omega)) (Same.refl _)) (fun c1 => ?_)
  refine ⟨_, .inl hS2, ?_⟩
  simp only [List.length_map]
  refine ite2 (fun c2 => no H (fun z => by have := z.lg; ((try clear c1 hm hp); omega)) (Same.refl _)) (fun c2 => ?_)
  refine ⟨_, .inl hS3, ?_⟩
  simp only [List.length_map]
  refine ite2 (fun c3 => no H (fun z => by have := z.lh; ((try clear c1 c2 hm hp); omega)) (Same.refl _)) (fun c3 => ?_)
  refine ⟨_, .inl hS, _, .inl hS2, _, .inl hS3, ?_⟩
  simp only [List.length_map]
  refine ite2 (fun c4 => no H (fun z => by have := z.lf; ((try clear c1 c2 c3 hl hm hp); omega)) (Same.refl _)) (fun c4 => ?_)
  obtain ⟨x, hx⟩ := last_ex (f := f) (by ((try clear c1 hm hp); omega))
  obtain ⟨y, hy⟩ := last_ex (f := g) (by ((try clear c1 c3 c4 hm hp hx); omega))
  obtain ⟨z, hz⟩ := last_ex (f := h) (by ((try clear c1 c2 c4 hm hp hx hy); omega))
  (try dsimp only); (first | refine hX _ _ ?_ | skip); (try dsimp only); (first | refine seqX (fun X hX => ?_) | skip); try walk_at "dr1"; (try simp only [sp_degree_of, sp_poly_product, sp_rests_of, sp_poly_difference]); try walk_at "dr1"
  refine ⟨_, hS, _, atI_lastZ hx, ?_⟩
  have vinj : ∀ {w : Int}, ¬ ¬ V.int w = V.int 1 → w = 1 := fun {w} c => V.int.inj (Classical.not_not.mp c)
  refine ⟨rfl, ite2 (fun c5 => no H (fun w => c5 (by have := w.tf; rw [hx] at this; cases this; rfl)) (Same.refl _)) (fun c5 => ?_)⟩
  refine ⟨_, hS2, _, atI_lastZ hy, rfl, ite2 (fun c6 => no H (fun w => c6 (by have := w.tg; rw [hy] at this; cases this; rfl)) (Same.refl _)) (fun c6 => ?_)⟩
  refine ⟨_, hS3, _, atI_lastZ hz, rfl, ite2 (fun c7 => no H (fun w => c7 (by have := w.th; rw [hz] at this; cases this; rfl)) (Same.refl _)) (fun c7 => ?_)⟩
  have ex := vinj c5
  have ey := vinj c6
  have ez := vinj c7
  subst ex ey ez
  (first | refine hX _ _ ?_ | skip); (try dsimp only); try (repeat (first | dsimp only [tSeq] | walk_at "dr1")); (try simp only [sp_degree_of, sp_poly_product, sp_rests_of, sp_poly_difference]); try (repeat (first | dsimp only [tSeq] | walk_at "dr1"))
  refine ⟨g, hS2, h, hS3, by ((try clear c1 c3 c4 c5 c6 c7 hm hp hx hy hz); omega), by ((try clear c1 c3 c4 c5 c6 c7 hm hp hx hy hz); omega), by ((try clear c1 c2 c4 c5 c6 c7 hm hp hx hy hz); omega), by ((try clear c1 c2 c4 c5 c6 c7 hm hp hx hy hz); omega), m, hg, m, hh, by ((try clear c1 c2 c3 c4 c5 c6 c7 hl hp hx hy hz); omega), by ((try clear c1 c2 c3 c4 c5 c6 c7 hl hp hx hy hz); omega), fun l1 pr H1 hpr bpr n1 g1 k1 => ?_⟩
  have lpr := hpr.len
  refine ⟨f, g1.seq hS, pr, SqL.of k1, by ((try clear c1 c2 c3 c5 c6 c7 hm hp hx hy hz k1 n1); omega), by ((try clear c1 c2 c3 c5 c6 c7 hm hp hx hy hz k1 n1); omega), m + m + 12, fun x hx => (hf x hx).mono (by ((try clear c1 c2 c3 c4 c5 c6 c7 hl hp hy hz k1 lpr n1); omega)), bpr, fun l2 df H2 ldf edf bdf n2 g2 k2 => ?_⟩
  refine ⟨df, SqL.of k2, by ((try clear c1 c2 c3 c5 c6 c7 hm hp hx hy hz k1 k2 n1 n2); omega), hp.1, hp.2, fun l3 H3 n3 g3 k3 => ?_⟩
  refine ⟨_, SqL.of k3, fun d H4 hd g4 => ?_⟩
  refine q _ H4 ?_ (g1.trans (g2.trans (g3.trans g4)))
  rw [decide_eq_true_eq]
  have key : d = -1 ↔ ∀ x, x ∈ df.map (· % p) → x = 0 := by
    constructor
    · intro e
      rcases hd with ⟨_, z⟩ | ⟨k, c, ek, _⟩
      · exact z
      · ((try clear c1 c2 c3 c4 c5 c6 c7 hl hm hp hx hy hz k1 k2 k3 ldf lpr n1 n2 n3); omega)
    · intro z
      rcases hd with ⟨e, _⟩ | ⟨k, c, _, hk, c0, _⟩
      · exact e
      · exact absurd (z c (List.mem_of_getElem? hk)) c0
  have key2 : (∀ x, x ∈ df.map (· % p) → x = 0) ↔ Dr.Cf p df [] := by
    constructor
    · intro z i
      rw [List.getD_eq_getElem?_getD]
      cases w : df[i]? with
      | none => simp
      | some x =>
        have := z (x % p) (List.mem_map.mpr ⟨x, List.mem_of_getElem? w, rfl⟩)
        simpa using this
    · intro z x hx
      obtain ⟨y, hy, rfl⟩ := List.mem_map.mp hx
      obtain ⟨i, hi, rfl⟩ := List.getElem_of_mem hy
      have := z i
      rw [List.getD_eq_getElem?_getD, List.getElem?_eq_getElem hi] at this
      simpa using this
  have key3 : Dr.Cf p df [] ↔ Dr.Cg p (Dr.pev f) fun x => Dr.pev g x * Dr.pev h x := by
    constructor
    · intro z
      obtain ⟨K', hK, e⟩ := z.cg
      refine ⟨K', hK, fun x => ?_⟩
      have := e x
      rw [edf, hpr.ev] at this
      simpa [Dr.pev] using this
    · intro z
      refine Dr.Cg.cf ?_
      obtain ⟨K', hK, e⟩ := z
      refine ⟨K', hK, fun x => ?_⟩
      have := e x
      rw [edf, hpr.ev]
      simpa [Dr.pev] using this
  rw [key, key2, key3]
  exact ⟨fun z => ⟨by ((try clear c2 c3 c4 c5 c6 c7 hl hm hp hx hy hz k1 k2 k3 key key2 key3 ldf lpr n1 n2 n3); omega), by ((try clear c1 c3 c4 c5 c6 c7 hm hp hx hy hz k1 k2 k3 key key2 key3 ldf n1 n2 n3); omega), by ((try clear c1 c2 c4 c5 c6 c7 hm hp hx hy hz k1 k2 k3 key key2 key3 ldf lpr n1 n2 n3); omega), by ((try clear c1 c2 c3 c5 c6 c7 hl hm hp hx hy hz k1 k2 k3 key key2 key3 ldf lpr n1 n2 n3); omega), hx, hy, hz, z⟩, fun z => z.prod⟩
noncomputable def sp_parts_at (K : PySem.W.Frag) : Sp := fun vs H Q E => ∃ (p N : Int) (a b c : Addr) (f g h : List Int) (m : Nat), vs = [.int p, .int N, .ref a, .ref b, .ref c] ∧ SqL K H a (f.map V.int) ∧ SqL K H b (g.map V.int) ∧ SqL K H c (h.map V.int) ∧ (f.length ≤ 14 ∧ g.length ≤ 7 ∧ h.length ≤ 7) ∧ p ∈ Dr.primes ∧ N ≤ 60 ∧ Dr.PolyB f m ∧ Dr.PolyB g m ∧ Dr.PolyB h m ∧ m ≤ 10000 ∧
  (¬ (Dr.May p N f g h ∧ Dr.Bez p g h) → ∀ H', Same H H' → E (.ref (clK K "NoParts")) none H') ∧
  ∀ (t d e : Addr) (G J : List Int) (H' : Hp), Dr.May p N f g h → Dr.Bez p g h → Dr.Parts p N.toNat f g h G J → H d = none → H e = none → d ≠ e → Same H H' → H' d = some (.lst (G.map V.int)) → H' e = some (.lst (J.map V.int)) → H' t = some (.tup [.ref d, .ref e]) → Q (.ref t) H'
theorem comp_div {K : PySem.W.Frag} {H : Hp} {a : Addr} {l : List Int} {p : Int} {σ : St} {Q : VK} {i : Nat} (hS : SqL K H a (l.map V.int)) (hl : l.length ≤ 60) (hp : ∀ x, CDivW x p) (hi : σ[i]? = some (some (.int p))) (q : ∀ r, H r = none → Q (.ref r) (upd H r (.lst ((l.map (· / p)).map V.int)))) :
    CompIt (Itl K a) [i] (fun _ H Q => Q true H) (tOp (rI CDivW fun i j => V.int (i / j)) (tVar 0) (tVar 1)) σ H Q := by
  obtain ⟨Pc, hPc⟩ : ∃ Pc : Nat → List V → Hp → Prop, ∀ i ys H1, Pc i ys H1 ↔ (H1 = H ∧ ys = ((l.take i).map (· / p)).map V.int) := ⟨_, fun _ _ _ => Iff.rfl⟩
  (first | refine hX _ _ ?_ | skip); refine compI l Pc (by unfold sizeLine; ((try clear hi); omega)) ((hPc _ _ _).mpr ⟨rfl, by simp⟩) (fun i ys H4 z => by obtain ⟨rfl, _⟩ := (hPc _ _ _).mp z; exact hS) ?_ ?_
  · intro j c ys H1 hc z
    obtain ⟨rfl, rfl⟩ := (hPc _ _ _).mp z
    simp only [capV, List.map_cons, List.map_nil, hi, Option.getD_some]
    (first | refine hX _ _ ?_ | skip); (try dsimp only); try (repeat (first | dsimp only [tSeq] | walk_at "dr1"))
    refine ⟨hp c, (hPc _ _ _).mpr ⟨rfl, ?_⟩⟩
    rw [List.take_add_one, hc, List.map_append, List.map_append]
    simp
  · intro ys H1 z
    obtain ⟨rfl, rfl⟩ := (hPc _ _ _).mp z
    intro r hr
    have := q r hr
    rw [List.take_length]
    exact this
theorem getD_last {f : List Int} {x : Int} (h : f.getLast? = some x) : f.getD (f.length - 1) 0 = x := by
  rw [List.getLast?_eq_getElem?] at h
  rw [List.getD_eq_getElem?_getD, h]
  rfl
theorem miss_ok {p : Int} {k : Nat} {f g h G J pr df : List Int} (hp : 2 ≤ p) (P : Dr.Parts p k f g h G J) (lf : f.length + 1 = g.length + h.length) (lg : 2 ≤ g.length) (lh : 2 ≤ h.length) (tf : f.getLast? = some 1) (hpr : Dr.IsProd G J pr) (hdf : ∀ x, Dr.pev df x = Dr.pev f x - Dr.pev pr x) (ldf : df.length = max f.length pr.length) :
    (∀ x, Dr.pev f x - Dr.pev G x * Dr.pev J x = p ^ k * Dr.pev (df.map (· / p ^ k)) x) ∧ (df.map (· / p ^ k)).length = f.length ∧ (df.map (· / p ^ k)).getD (f.length - 1) 0 = 0 := by
  have lpr := hpr.len
  rw [P.lg, P.lh] at lpr
  have all : ∀ x, x ∈ df → x % p ^ k = 0 := fun x hx => by
    have cf : Dr.Cf (p ^ k) df [] := Dr.Cg.cf (by
      have := P.prod.sub (Dr.Cg.refl (q := p ^ k) fun x => Dr.pev G x * Dr.pev J x)
      refine ((Dr.Cg.of_eq fun x => ?_).trans this).trans (Dr.Cg.of_eq fun x => by simp [Dr.pev])
      rw [hdf, hpr.ev])
    obtain ⟨i, hi, rfl⟩ := List.getElem_of_mem hx
    have := cf i
    rw [List.getD_eq_getElem?_getD, List.getElem?_eq_getElem hi] at this
    simpa using this
  refine ⟨fun x => ?_, by rw [List.length_map, ldf]; ((try clear hp ldf lg lh tf); omega), ?_⟩
  · have := Dr.pdiv_ev all x
    unfold Dr.pdiv at this
    rw [← this, hdf, hpr.ev]
  · have e1 : df.getD (f.length - 1) 0 = 0 := by
      have h1 := Dr.pev_getD (f := df) (g := Dr.padd f (pr.map (-1 * ·))) (fun x => by rw [Dr.padd_ev, Dr.pev_map, hdf]; ((try clear hp ldf lf lg lh lpr tf); omega)) (f.length - 1)
      rw [h1, Dr.padd_getD, Dr.map_getD, getD_last tf]
      have e2 : pr = Dr.pmul G J := hpr.uniq (Dr.pmul_prod (by rw [P.lg]; ((try clear h1 hp ldf lf lh tf); omega)) (by rw [P.lh]; ((try clear h1 hp ldf lf lg lpr tf); omega)))
      have := Dr.pmul_top G J (g.length - 1) (h.length - 1) (by rw [P.lg]; ((try clear e2 h1 hp ldf lf lh tf); omega)) (by rw [P.lh]; ((try clear e2 h1 hp ldf lf lg lpr tf); omega))
      have t1 := getD_last P.tg
      have t2 := getD_last P.th
      rw [P.lg] at t1
      rw [P.lh] at t2
      rw [t1, t2, ← e2, show g.length - 1 + (h.length - 1) = f.length - 1 by ((try clear e2 h1 hp ldf t1 t2 tf this); omega)] at this
      rw [this]
      decide
    rw [List.getD_eq_getElem?_getD, List.getElem?_map]
    rw [List.getD_eq_getElem?_getD] at e1
    cases w : df[f.length - 1]? with
    | none => rfl
    | some x =>
      rw [w] at e1
      have : x = 0 := e1
      rw [this]
      simp
inductive PaI (H H6 : Hp) (p N : Int) (a b c lg lh li : Addr) (f g h : List Int) (i : Nat) (σ : St) (H7 : Hp) : Prop
  | mk (q0 : Same H6 H7) (d e : Addr) (G J : List Int) (t11 t12 t13 t14 : Option V) (q1 : Dr.Parts p (i + 1) f g h G J) (q2 : H d = none) (q3 : H e = none) (q4 : d ≠ e) (q5 : H7 d = some (.lst (G.map V.int))) (q6 : H7 e = some (.lst (J.map V.int))) (q7 : σ = [some (.int p), some (.int N), some (.ref a), some (.ref b), some (.ref c), some (.ref lg), some (.ref lh), some (.ref li), some (.ref d), some (.ref e), some (.int (p ^ (i + 1))), t11, t12, t13, t14])
theorem ok_parts_at (B : Bi mg K) (d_poly_product : Def P w K mg base "poly_product" 1 ["f", "g"] (sp_poly_product K)) (d_rests_of : Def P w K mg base "rests_of" 1 ["p", "f"] (sp_rests_of K)) (d_poly_difference : Def P w K mg base "poly_difference" 1 ["f", "g"] (sp_poly_difference K)) (d_divided_by_prime : Def P w K mg base "divided_by_prime" 3 ["p", "f", "g"] (sp_divided_by_prime K)) (d_inverse_beside : Def P w K mg base "inverse_beside" 4 ["p", "h", "g"] (sp_inverse_beside K)) (d_may_part : Def P w K mg base "may_part" 2 ["p", "N", "f", "g", "h"] (sp_may_part K)) (d_raised : Def P w K mg base "raised" 1 ["f", "power", "more"] (sp_raised K)) (F : Fun K "parts_at" "parts_at" s_parts_at f fd) : FnOk P w K mg base (CXE P w) 5 f fd ["p", "N", "f", "g", "h"] (sp_parts_at K) := by
  refine F.okE S_parts_at (fun vs H Q E h => ?_) (fun cdv A outer s H vs Q E hr h => ?_)
  · obtain ⟨p, N, a, b, c, f, g, h, m, rfl, _⟩ := h
    rfl
  obtain ⟨p, N, a, b, c, f, g, h, m, rfl, hS, hS2, hS3, hl, hpp, hN, hf, hg, hh, hm, qE, q⟩ := h
  have S := S_parts_at
  have p2 := Dr.primes_ge hpp
  have hp : 2 ≤ p ∧ p < 1000 := by ((try clear hN hl hm); omega)
  refine ⟨_, ((pss_cons (ps_if (pt_not (pt_val (pe_def d_may_part hr rfl (pa_cons (pv 0) (pa_cons (pv 1) (pa_cons (pv 2) (pa_cons (pv 3) (pa_cons (pv 4) pa_nil)))))))) (pss_one (ps_raise thrE rfl rfl B.c_NoParts B.x_NoParts (pa_cons pe_str pa_nil))) pss_nil)
    (pss_cons (ps_set (i := 5) S.nd rfl (Or.inl rfl) (pe_def d_rests_of hr rfl (pa_cons (pv 0) (pa_cons (pv 3) pa_nil))))
    (pss_cons (ps_set (i := 6) S.nd rfl (Or.inl rfl) (pe_def d_rests_of hr rfl (pa_cons (pv 0) (pa_cons (pv 4) pa_nil))))
    (pss_cons (ps_set (i := 7) S.nd rfl (Or.inl rfl) (pe_def d_inverse_beside hr rfl (pa_cons (pv 0) (pa_cons (pv 6) (pa_cons (pv 5) pa_nil)))))
    (pss_cons (ps_if (pt_cmpR op_isN (pv 7) pe_non (nomark _)) (pss_one (ps_raise thrE rfl rfl B.c_NoParts B.x_NoParts (pa_cons pe_str pa_nil))) pss_nil)
    (pss_cons (ps_set (i := 8) S.nd rfl (Or.inl rfl) (pe_callTy call_list_of rfl B.b_list L2.bt_list (pa_cons (pv 5) pa_nil)))
    (pss_cons (ps_set (i := 9) S.nd rfl (Or.inl rfl) (pe_callTy call_list_of rfl B.b_list L2.bt_list (pa_cons (pv 6) pa_nil)))
    (pss_cons (ps_set (i := 10) S.nd rfl (Or.inr rfl) (pv 0))
    (pss_cons (ps_nox (ps_for PassesOwn.never rfl (pi_range2 rfl B.b_range (pa_cons pe_int (pa_cons (pv 1) pa_nil))) (pg_name (i := 11) S.nd rfl (Or.inl rfl)) (pss_cons (ps_set (i := 12) S.nd rfl (Or.inl rfl) (pe_def d_rests_of hr rfl (pa_cons (pv 0) (pa_cons (pe_comp [10] ["power"] rfl rfl ⟨rfl, trivial⟩ ⟨rfl, rfl, rfl, rfl, trivial⟩ rfl rfl (by decide) (by decide) rfl rfl (by decide) (pi_list (pe_def d_poly_difference hr rfl (pa_cons (pv 2) (pa_cons (pe_def d_poly_product hr rfl (pa_cons (pv 8) (pa_cons (pv 9) pa_nil))) pa_nil)))) (fun _ _ _ _ => pts_nil) (fun _ _ _ _ => (pe_op op_fdivW (pv 0) (pv 1)))) pa_nil))))
    (pss_cons (ps_set (i := 13) S.nd rfl (Or.inl rfl) (pe_ix ix_tup (pe_def d_divided_by_prime hr rfl (pa_cons (pv 0) (pa_cons (pe_def d_poly_product hr rfl (pa_cons (pv 12) (pa_cons (pv 7) pa_nil))) (pa_cons (pv 5) pa_nil)))) pe_int (fun _ _ => rfl)))
    (pss_cons (ps_set (i := 14) S.nd rfl (Or.inl rfl) (pe_ix ix_tup (pe_def d_divided_by_prime hr rfl (pa_cons (pv 0) (pa_cons (pe_def d_poly_difference hr rfl (pa_cons (pv 12) (pa_cons (pe_def d_poly_product hr rfl (pa_cons (pv 13) (pa_cons (pv 6) pa_nil))) pa_nil))) (pa_cons (pv 5) pa_nil)))) pe_int (fun _ _ => rfl)))
    (pss_cons (ps_set (i := 8) S.nd rfl (Or.inl rfl) (pe_def d_raised hr rfl (pa_cons (pv 8) (pa_cons (pv 10) (pa_cons (pe_op op_cat (pv 13) (pe_lst (pa_cons pe_int pa_nil))) pa_nil)))))
    (pss_cons (ps_set (i := 9) S.nd rfl (Or.inl rfl) (pe_def d_raised hr rfl (pa_cons (pv 9) (pa_cons (pv 10) (pa_cons (pv 14) pa_nil)))))
    (pss_one (ps_set (i := 10) S.nd rfl (Or.inr rfl) (pe_op op_mulW (pv 10) (pv 0)))))))))))
    (pss_one (ps_ret (pe_tup (pa_cons (pv 8) (pa_cons (pv 9) pa_nil))))))))))))))), ?_⟩
  (try dsimp only); (first | refine hX _ _ ?_ | skip); (try dsimp only); (first | refine seqX (fun X hX => ?_) | skip); try walk_at "dr1"; (try simp only [sp_poly_product, sp_rests_of, sp_poly_difference, sp_divided_by_prime, sp_inverse_beside, sp_may_part, sp_raised]); try walk_at "dr1"
  refine ⟨f, hS, g, hS2, h, hS3, by ((try clear hN hm hp p2); omega), by ((try clear hN hm hp p2); omega), by ((try clear hN hm hp p2); omega), hp.1, hp.2, m, hf, hg, hh, by ((try clear hN hl hp p2); omega), fun v H1 hv g1 => ?_⟩
  by_cases may : Dr.May p N f g h
  case neg =>
    have : v = false := by
      cases v
      · rfl
      · exact absurd (hv.mp rfl) may
    subst this
    rw [if_pos rfl]
    exact ⟨by decide, qE (fun z => may z.1) H1 g1⟩
  have : v = true := hv.mpr may
  subst this
  rw [if_neg (by decide)]
  clear hv
  have lg2 := may.lg
  have lh2 := may.lh
  have lf2 := may.lf
  (try dsimp only); (first | refine hX _ _ ?_ | skip); (try dsimp only); (first | refine seqX (fun X hX => ?_) | skip); try walk_at "dr1"; (try simp only [sp_poly_product, sp_rests_of, sp_poly_difference, sp_divided_by_prime, sp_inverse_beside, sp_may_part, sp_raised]); try walk_at "dr1"
  refine ⟨g, g1.seq hS2, by ((try clear hN hm hp lf2 lh2 p2); omega), hp.1, hp.2, fun lg H2 ng g2 kg => ?_⟩
  have G2 := g1.trans g2
  (try dsimp only); (first | refine hX _ _ ?_ | skip); (try dsimp only); (first | refine seqX (fun X hX => ?_) | skip); try walk_at "dr1"; (try simp only [sp_poly_product, sp_rests_of, sp_poly_difference, sp_divided_by_prime, sp_inverse_beside, sp_may_part, sp_raised]); try walk_at "dr1"
  refine ⟨h, G2.seq hS3, by ((try clear hN hm hp kg lf2 lg2 ng p2); omega), hp.1, hp.2, fun lh H3 nh g3 kh => ?_⟩
  have G3 := G2.trans g3
  have kg3 := g3 _ _ kg
  have one1 : (1 : Int) % p = 1 := Int.emod_eq_of_lt (by ((try clear hN hl hm hp kg kg3 kh lf2 lg2 lh2 ng nh p2); omega)) (by ((try clear hN hl hm hp kg kg3 kh lf2 lg2 lh2 ng nh); omega))
  have tgr : (g.map (· % p)).getLast? = some 1 := by
    have := Dr.last_map (· % p) may.tg
    rwa [one1] at this
  have bzi : Dr.Bez p (g.map (· % p)) (h.map (· % p)) ↔ Dr.Bez p g h := ⟨fun b => b.cong (Dr.Cf.rests p g).symm (Dr.Cf.rests p h).symm, fun b => b.cong (Dr.Cf.rests p g) (Dr.Cf.rests p h)⟩
  (try dsimp only); (first | refine hX _ _ ?_ | skip); (try dsimp only); (first | refine seqX (fun X hX => ?_) | skip); try walk_at "dr1"; (try simp only [sp_poly_product, sp_rests_of, sp_poly_difference, sp_divided_by_prime, sp_inverse_beside, sp_may_part, sp_raised]); try walk_at "dr1"
  refine ⟨h.map (· % p), SqL.of kh, g.map (· % p), SqL.of kg3, by rw [List.length_map]; ((try clear bzi hN hl hm hp kg kg3 kh lf2 lh2 ng nh one1 p2 tgr); omega), by rw [List.length_map]; ((try clear bzi hN hm hp kg kg3 kh lf2 lh2 ng nh one1 p2 tgr); omega), by rw [List.length_map]; ((try clear bzi hN hm hp kg kg3 kh lf2 lg2 ng nh one1 p2 tgr); omega), hpp, mods_r hp.1 g, tgr, fun H4 g4 => ⟨fun nb => ?_, fun li ti hinv ri li2 ni ki => ?_⟩⟩
  · (try dsimp only); (first | refine hX _ _ ?_ | skip); (try dsimp only); (first | refine seqX (fun X hX => ?_) | skip); try walk_at "dr1"; (try simp only [sp_poly_product, sp_rests_of, sp_poly_difference, sp_divided_by_prime, sp_inverse_beside, sp_may_part, sp_raised]); try walk_at "dr1"
    exact ⟨by decide, qE (fun z => nb (bzi.mpr z.2)) H4 (G3.trans g4)⟩
  have bez : Dr.Bez p g h := bzi.mp hinv.bez
  have G4 := G3.trans g4
  have kg4 := g4 _ _ kg3
  have kh4 := g4 _ _ kh
  (try dsimp only); (first | refine hX _ _ ?_ | skip); (try dsimp only); (first | refine seqX (fun X hX => ?_) | skip); try walk_at "dr1"; (try simp only [sp_poly_product, sp_rests_of, sp_poly_difference, sp_divided_by_prime, sp_inverse_beside, sp_may_part, sp_raised]); try walk_at "dr1"
  (try dsimp only); (first | refine hX _ _ ?_ | skip); (try dsimp only); (first | refine seqX (fun X hX => ?_) | skip); try walk_at "dr1"; (try simp only [sp_poly_product, sp_rests_of, sp_poly_difference, sp_divided_by_prime, sp_inverse_beside, sp_may_part, sp_raised]); try walk_at "dr1"
  refine ⟨_, .inl (SqL.of kg4), ?_⟩
  intro lG n_lG; generalize e_lG : upd _ lG _ = H5; obtain ⟨g5, kG⟩ := newH e_lG n_lG; clear e_lG
  (try dsimp only); (first | refine hX _ _ ?_ | skip); (try dsimp only); (first | refine seqX (fun X hX => ?_) | skip); try walk_at "dr1"; (try simp only [sp_poly_product, sp_rests_of, sp_poly_difference, sp_divided_by_prime, sp_inverse_beside, sp_may_part, sp_raised]); try walk_at "dr1"
  refine ⟨_, .inl (SqL.of (g5 _ _ kh4)), ?_⟩
  intro lH n_lH; generalize e_lH : upd _ lH _ = H6; obtain ⟨g6, kH⟩ := newH e_lH n_lH; clear e_lH
  have G6 := G4.trans (g5.trans g6)
  have kg6 := g6 _ _ (g5 _ _ kg4)
  have kh6 := g6 _ _ (g5 _ _ kh4)
  have ki6 := g6 _ _ (g5 _ _ ki)
  have kG6 := g6 _ _ kG
  (try dsimp only); (first | refine hX _ _ ?_ | skip); (try dsimp only); (first | refine seqX (fun X hX => ?_) | skip); try walk_at "dr1"; (try simp only [sp_poly_product, sp_rests_of, sp_poly_difference, sp_divided_by_prime, sp_inverse_beside, sp_may_part, sp_raised]); try walk_at "dr1"
  (try dsimp only); (first | refine hX _ _ ?_ | skip); (try dsimp only); (first | refine seqX (fun X hX => ?_) | skip); try walk_at "dr1"; (try simp only [sp_poly_product, sp_rests_of, sp_poly_difference, sp_divided_by_prime, sp_inverse_beside, sp_may_part, sp_raised]); try walk_at "dr1"
  have N1 := may.n
  have kH6 := kH
  have nG : H lG = none := G4.free n_lG
  have nH : H lH = none := G4.free (g5.free n_lH)
  have nGH : lG ≠ lH := fun z => by rw [z, n_lH] at kG; cases kG
  have dg := deg_last hp.1 tgr
  rw [List.length_map] at dg
  have lgr : (g.map (· % p)).length = g.length := List.length_map ..
  have lhr : (h.map (· % p)).length = h.length := List.length_map ..
  refine ⟨by decide, by decide, by ((try clear bzi hl hm hp kG kG6 kH kH6 kg kg3 kg4 kg6 kh kh4 kh6 ki ki6 lf2 lg2 lgr lh2 lhr li2 nG nGH nH n_lG n_lH ng nh ni one1 p2 tgr); omega), by ((try clear bzi hl hm hp kG kG6 kH kH6 kg kg3 kg4 kg6 kh kh4 kh6 ki ki6 lf2 lg2 lgr lh2 lhr li2 nG nGH nH n_lG n_lH ng nh ni one1 p2 tgr); omega), ?_⟩
  obtain ⟨Pv, hPv⟩ : ∃ Pv : Nat → St → Hp → Prop, ∀ i σ H7, Pv i σ H7 ↔ (PaI H H6 p N a b c lg lh li f g h i σ H7) := ⟨_, fun _ _ _ => Iff.rfl⟩
  (first | refine hX _ _ ?_ | skip); refine forR Pv ((hPv _ _ _).mpr ⟨Same.refl _, lG, lH, _, _, none, none, none, none, Dr.Parts.start hp.1 may, nG, nH, nGH, kG6, kH6, by rw [Nat.zero_add, Int.pow_one]⟩) ?_ ?_
  case refine_2 =>
    intro σ H7 z
    obtain ⟨g7, d, e, G, J, t11, t12, t13, t14, P, nd, ne, de, kd, ke, rfl⟩ := (hPv _ _ _).mp z
    rw [show (N - 1).toNat + 1 = N.toNat by ((try clear bzi de hl hm hp kG kG6 kH kH6 kd ke kg kg3 kg4 kg6 kh kh4 kh6 ki ki6 lf2 lg2 lgr lh2 lhr li2 nG nGH nH n_lG n_lH nd ne ng nh ni one1 p2 tgr); omega)] at P
    (first | refine hX _ _ ?_ | skip); (try dsimp only); try (repeat (first | dsimp only [tSeq] | walk_at "dr1")); (try simp only [sp_poly_product, sp_rests_of, sp_poly_difference, sp_divided_by_prime, sp_inverse_beside, sp_may_part, sp_raised]); try (repeat (first | dsimp only [tSeq] | walk_at "dr1"))
    refine ⟨by decide, ?_⟩
    intro lt n_lt; generalize e_lt : upd _ lt _ = H8; obtain ⟨g8, k8⟩ := newH e_lt n_lt; clear e_lt
    exact q lt d e G J H8 may bez P nd ne de (G6.trans (g7.trans g8)) (g8 _ _ kd) (g8 _ _ ke) k8
  intro i σ H7 hi z
  refine byX fun X hX => ?_; obtain ⟨g7, d, e, G, J, t11, t12, t13, t14, P, nd, ne, de, kd, ke, rfl⟩ := (hPv _ _ _).mp z; refine hX ?_; clear hX X
  clear z
  have hi60 : i < 60 := by ((try clear bzi de hl hm hp kG kG6 kH kH6 kd ke kg kg3 kg4 kg6 kh kh4 kh6 ki ki6 lf2 lg2 lgr lh2 lhr li2 nG nGH nH n_lG n_lH nd ne ng nh ni one1 p2 tgr); omega)
  obtain ⟨w, ew⟩ : ∃ w, w = p ^ (i + 1) := ⟨_, rfl⟩
  have w0 : 0 < w := by rw [ew]; exact Dr.pow_pos hp.1 _
  have bw : Dr.Sm w 611 := by rw [ew]; exact (show Dr.Sm _ (10 * (i + 1) + 1) from pow_bits hp _).mono (by ((try clear N1 bzi de ew hN hi hl hm hp kG kG6 kH kH6 kd ke kg kg3 kg4 kg6 kh kh4 kh6 ki ki6 lf2 lg2 lgr lh2 lhr li2 nG nGH nH n_lG n_lH nd ne ng nh ni one1 p2 tgr w0); omega))
  have bpart : ∀ {l : List Int}, (∀ x, x ∈ l → 0 ≤ x ∧ x < p ^ (i + 1)) → Dr.PolyB l 611 := fun {l} hl x hx => by
    have := hl x hx
    rw [← ew] at this
    unfold Dr.Sm at bw ⊢
    ((try clear N1 bzi de hN hi hi60 hm hp kG kG6 kH kH6 kd ke kg kg3 kg4 kg6 kh kh4 kh6 ki ki6 lf2 lg2 lgr lh2 lhr li2 nG nGH nH n_lG n_lH nd ne ng nh ni one1 p2 tgr); omega)
  have lG2 := P.lg
  have lJ2 := P.lh
  have G7 := G6.trans g7
  rw [← ew]
  (try dsimp only); (first | refine hX _ _ ?_ | skip); (try dsimp only); (first | refine seqX (fun X hX => ?_) | skip); try walk_at "dr1"; (try simp only [sp_poly_product, sp_rests_of, sp_poly_difference, sp_divided_by_prime, sp_inverse_beside, sp_may_part, sp_raised]); try walk_at "dr1"
  have cdv : ∀ y, CDivW y w := fun y => ⟨w0, by
    have := (Nat.log2_lt (by ((try clear N1 bzi de hN hi hi60 hl hm hp kG kG6 kH kH6 kd ke kg kg3 kg4 kg6 kh kh4 kh6 ki ki6 lG2 lJ2 lf2 lg2 lgr lh2 lhr li2 nG nGH nH n_lG n_lH nd ne ng nh ni one1 p2 tgr); omega))).mpr bw
    ((try clear N1 bzi de ew hN hi hi60 hl hm hp kG kG6 kH kH6 kd ke kg kg3 kg4 kg6 kh kh4 kh6 ki ki6 lG2 lJ2 lf2 lg2 lgr lh2 lhr li2 nG nGH nH n_lG n_lH nd ne ng nh ni one1 p2 tgr w0); omega)⟩
  refine ⟨G, SqL.of kd, J, SqL.of ke, by ((try clear N1 bzi de ew hN hi hi60 hm hp kG kG6 kH kH6 kd ke kg kg3 kg4 kg6 kh kh4 kh6 ki ki6 lJ2 lf2 lh2 lhr li2 nG nGH nH n_lG n_lH nd ne ng nh ni one1 p2 tgr w0); omega), by ((try clear N1 bzi de ew hN hi hi60 hm hp kG kG6 kH kH6 kd ke kg kg3 kg4 kg6 kh kh4 kh6 ki ki6 lJ2 lf2 lh2 lhr li2 nG nGH nH n_lG n_lH nd ne ng nh ni one1 p2 tgr w0); omega), by ((try clear N1 bzi de ew hN hi hi60 hm hp kG kG6 kH kH6 kd ke kg kg3 kg4 kg6 kh kh4 kh6 ki ki6 lG2 lf2 lg2 lgr li2 nG nGH nH n_lG n_lH nd ne ng nh ni one1 p2 tgr w0); omega), by ((try clear N1 bzi de ew hN hi hi60 hm hp kG kG6 kH kH6 kd ke kg kg3 kg4 kg6 kh kh4 kh6 ki ki6 lG2 lf2 lg2 lgr li2 nG nGH nH n_lG n_lH nd ne ng nh ni one1 p2 tgr w0); omega), 611, bpart P.rg, 611, bpart P.rh, by decide, by decide, fun l1 pr H8 hpr bpr n1 g8 k8 => ?_⟩
  have lpr := hpr.len
  refine ⟨f, (G7.trans g8).seq hS, pr, SqL.of k8, by ((try clear N1 bzi de ew hN hi hi60 hm hp k8 kG kG6 kH kH6 kd ke kg kg3 kg4 kg6 kh kh4 kh6 ki ki6 lg2 lh2 li2 n1 nG nGH nH n_lG n_lH nd ne ng nh ni one1 p2 tgr w0); omega), by ((try clear N1 bzi de ew hN hi hi60 hm hp k8 kG kG6 kH kH6 kd ke kg kg3 kg4 kg6 kh kh4 kh6 ki ki6 lg2 lh2 li2 n1 nG nGH nH n_lG n_lH nd ne ng nh ni one1 p2 tgr w0); omega), m + 1234, fun x hx => (hf x hx).mono (by ((try clear N1 bzi de ew hN hi hi60 hl hm hp k8 kG kG6 kH kH6 kd ke kg kg3 kg4 kg6 kh kh4 kh6 ki ki6 lG2 lJ2 lf2 lg2 lgr lh2 lhr li2 lpr n1 nG nGH nH n_lG n_lH nd ne ng nh ni one1 p2 tgr w0); omega)), fun x hx => (bpr x hx).mono (by ((try clear N1 bzi de ew hN hi hi60 hl hp k8 kG kG6 kH kH6 kd ke kg kg3 kg4 kg6 kh kh4 kh6 ki ki6 lG2 lJ2 lf2 lg2 lgr lh2 lhr li2 lpr n1 nG nGH nH n_lG n_lH nd ne ng nh ni one1 p2 tgr w0); omega)), fun l2 df H9 ldf edf bdf n2 g9 k9 => ⟨⟨_, SqL.of k9⟩, comp_div (SqL.of k9) (by ((try clear N1 bzi de ew hN hi hi60 hm hp k8 k9 kG kG6 kH kH6 kd ke kg kg3 kg4 kg6 kh kh4 kh6 ki ki6 lg2 lh2 li2 n1 n2 nG nGH nH n_lG n_lH nd ne ng nh ni one1 p2 tgr w0); omega)) cdv rfl ?_⟩⟩
  intro l3 n_l3; generalize e_l3 : upd _ l3 _ = H10; obtain ⟨g10, k10⟩ := newH e_l3 n_l3; clear e_l3
  obtain ⟨mi1, mi2, mi3⟩ := miss_ok hp.1 P may.lf may.lg may.lh may.tf hpr edf ldf
  rw [← ew] at mi1 mi2 mi3
  generalize eM : df.map (· / w) = M at k10 mi1 mi2 mi3
  refine ⟨_, rfl, M, SqL.of k10, by ((try clear N1 bzi de eM ew hN hi hi60 hm hp k10 k8 k9 kG kG6 kH kH6 kd ke kg kg3 kg4 kg6 kh kh4 kh6 ki ki6 ldf lg2 lh2 li2 mi3 n1 n2 nG nGH nH n_l3 n_lG n_lH nd ne ng nh ni one1 p2 tgr w0); omega), hp.1, hp.2, fun lm H11 nm g11 k11 => ?_⟩
  have G11 := g8.trans (g9.trans (g10.trans g11))
  have kg11 := G11 _ _ (g7 _ _ kg6)
  have kh11 := G11 _ _ (g7 _ _ kh6)
  have ki11 := G11 _ _ (g7 _ _ ki6)
  have kd11 := G11 _ _ kd
  have ke11 := G11 _ _ ke
  have lmi : (M.map (· % p)).length = f.length := by rw [List.length_map]; exact mi2
  obtain ⟨mi, emi⟩ : ∃ mi, mi = M.map (· % p) := ⟨_, rfl⟩
  have bmi : Dr.PolyB mi 10 := by rw [emi]; exact mods_b hp M
  have cmi : Dr.Cf p mi M := by rw [emi]; exact Dr.Cf.rests p M
  have tmi : mi.getD (f.length - 1) 0 % p = 0 := by
    have := cmi (f.length - 1)
    rw [mi3, Int.sub_zero] at this
    exact this
  rw [← emi] at k11 lmi
  clear kd ke k8 k9 k10 kg6 kh6 ki6 kg3 kg4 kh4
  (try dsimp only); (first | refine hX _ _ ?_ | skip); (try dsimp only); (first | refine seqX (fun X hX => ?_) | skip); try walk_at "dr1"; (try simp only [sp_poly_product, sp_rests_of, sp_poly_difference, sp_divided_by_prime, sp_inverse_beside, sp_may_part, sp_raised]); try walk_at "dr1"
  refine ⟨mi, SqL.of k11, ti, SqL.of ki11, by ((try clear N1 bzi de eM emi ew hN hi hi60 hm hp k11 kG kG6 kH kH6 kd11 ke11 kg kg11 kh kh11 ki ki11 ldf li2 mi3 n1 n2 nG nGH nH n_l3 n_lG n_lH nd ne ng nh ni nm one1 p2 tgr tmi w0); omega), by ((try clear N1 bzi de eM emi ew hN hi hi60 hm hp k11 kG kG6 kH kH6 kd11 ke11 kg kg11 kh kh11 ki ki11 ldf lg2 lh2 li2 mi3 n1 n2 nG nGH nH n_l3 n_lG n_lH nd ne ng nh ni nm one1 p2 tgr tmi w0); omega), by ((try clear N1 bzi de eM emi ew hN hi hi60 hl hm hp k11 kG kG6 kH kH6 kd11 ke11 kg kg11 kh kh11 ki ki11 lG2 lJ2 ldf lf2 lg2 lgr lh2 lhr lmi lpr mi2 mi3 n1 n2 nG nGH nH n_l3 n_lG n_lH nd ne ng nh ni nm one1 p2 tgr tmi w0); omega), by ((try clear N1 bzi de eM emi ew hN hi hi60 hl hm hp k11 kG kG6 kH kH6 kd11 ke11 kg kg11 kh kh11 ki ki11 lG2 lJ2 ldf lf2 lg2 lgr lh2 lhr lmi lpr mi2 mi3 n1 n2 nG nGH nH n_l3 n_lG n_lH nd ne ng nh ni nm one1 p2 tgr tmi w0); omega), 10, bmi, 10, range_b hp.2 ri, by decide, by decide, fun lA A H12 hA bA nA g12 kA => ?_⟩
  have lA2 := hA.len
  have nzg : ∃ x, x ∈ g.map (· % p) ∧ x ≠ 0 := ⟨1, List.mem_of_getLast? tgr, by decide⟩
  refine ⟨A, SqL.of kA, g.map (· % p), SqL.of (g12 _ _ kg11), by ((try clear N1 bzi de eM emi ew hN hi hi60 hm hp k11 kA kG kG6 kH kH6 kd11 ke11 kg kg11 kh kh11 ki ki11 ldf mi3 n1 n2 nA nG nGH nH n_l3 n_lG n_lH nd ne ng nh ni nm one1 p2 tgr tmi w0); omega), by ((try clear N1 bzi de eM emi ew hN hi hi60 hm hp k11 kA kG kG6 kH kH6 kd11 ke11 kg kg11 kh kh11 ki ki11 lA2 ldf lh2 li2 mi3 n1 n2 nA nG nGH nH n_l3 n_lG n_lH nd ne ng nh ni nm one1 p2 tgr tmi w0); omega), hpp, mods_r hp.1 g, nzg, fun lt1 lq1 lu nn D1 u H13 hd1 hv1 _ nu g13 _ ku kt1 => ⟨_, SqT.of kt1, _, atI_nat (j := 1) rfl, ?_⟩⟩
  have dn := deg_of (mods_r hp.1 g) hd1
  have enn : nn = g.length - 1 := by
    have h1 : ¬ nn < g.length - 1 := fun z => dg.1 (dn.2 _ z)
    have h2 : ¬ g.length - 1 < nn := fun z => dn.1 (dg.2 _ z)
    ((try clear N1 bzi de eM emi ew hN hi hi60 hl hm hp k11 kA kG kG6 kH kH6 kd11 ke11 kg kg11 kh kh11 ki ki11 kt1 ku lA2 lG2 lJ2 ldf lf2 lg2 lgr lh2 lhr li2 lmi lpr mi2 mi3 n1 n2 nA nG nGH nH n_l3 n_lG n_lH nd ne ng nh ni nm nu one1 p2 tgr tmi w0); omega)
  have lu2 : u.length + 1 = g.length := by
    have := hv1.lr
    rw [Nat.min_eq_left (by ((try clear N1 bzi de eM emi ew hN hi hi60 hm hp k11 kA kG kG6 kH kH6 kd11 ke11 kg kg11 kh kh11 ki ki11 kt1 ku ldf mi3 n1 n2 nA nG nGH nH n_l3 n_lG n_lH nd ne ng nh ni nm nu one1 p2 tgr this tmi w0); omega))] at this
    ((try clear N1 bzi de eM emi ew hN hi hi60 hm hp k11 kA kG kG6 kH kH6 kd11 ke11 kg kg11 kh kh11 ki ki11 kt1 ku lA2 ldf lh2 li2 mi3 n1 n2 nA nG nGH nH n_l3 n_lG n_lH nd ne ng nh ni nm nu one1 p2 tgr tmi w0); omega)
  have G13 := g12.trans g13
  (try dsimp only); (first | refine hX _ _ ?_ | skip); (try dsimp only); (first | refine seqX (fun X hX => ?_) | skip); try walk_at "dr1"; (try simp only [sp_poly_product, sp_rests_of, sp_poly_difference, sp_divided_by_prime, sp_inverse_beside, sp_may_part, sp_raised]); try walk_at "dr1"
  refine ⟨u, SqL.of ku, h.map (· % p), SqL.of (G13 _ _ kh11), by ((try clear N1 bzi de eM emi enn ew hN hi hi60 hm hp k11 kA kG kG6 kH kH6 kd11 ke11 kg kg11 kh kh11 ki ki11 kt1 ku lA2 ldf lh2 li2 mi3 n1 n2 nA nG nGH nH n_l3 n_lG n_lH nd ne ng nh ni nm nu one1 p2 tgr tmi w0); omega), by ((try clear N1 bzi de eM emi enn ew hN hi hi60 hm hp k11 kA kG kG6 kH kH6 kd11 ke11 kg kg11 kh kh11 ki ki11 kt1 ku lA2 ldf lh2 li2 mi3 n1 n2 nA nG nGH nH n_l3 n_lG n_lH nd ne ng nh ni nm nu one1 p2 tgr tmi w0); omega), by ((try clear N1 bzi de eM emi enn ew hN hi hi60 hm hp k11 kA kG kG6 kH kH6 kd11 ke11 kg kg11 kh kh11 ki ki11 kt1 ku lA2 ldf lg2 li2 mi3 n1 n2 nA nG nGH nH n_l3 n_lG n_lH nd ne ng nh ni nm nu one1 p2 tgr tmi w0); omega), by ((try clear N1 bzi de eM emi enn ew hN hi hi60 hm hp k11 kA kG kG6 kH kH6 kd11 ke11 kg kg11 kh kh11 ki ki11 kt1 ku lA2 ldf lg2 li2 mi3 n1 n2 nA nG nGH nH n_l3 n_lG n_lH nd ne ng nh ni nm nu one1 p2 tgr tmi w0); omega), 10, range_b hp.2 hv1.rr, 10, mods_b hp h, by decide, by decide, fun lB B' H14 hB bB nB g14 kB => ?_⟩
  have lB2 : B'.length + 1 = f.length := by
    have := hB.len
    ((try clear N1 bzi de eM emi enn ew hN hi hi60 hl hm hp k11 kA kB kG kG6 kH kH6 kd11 ke11 kg kg11 kh kh11 ki ki11 kt1 ku lA2 ldf lg2 lh2 li2 mi3 n1 n2 nA nB nG nGH nH n_l3 n_lG n_lH nd ne ng nh ni nm nu one1 p2 tgr tmi w0); omega)
  refine ⟨mi, SqL.of (g14 _ _ (G13 _ _ k11)), B', SqL.of kB, by ((try clear N1 bzi de eM emi enn ew hN hi hi60 hm hp k11 kA kB kG kG6 kH kH6 kd11 ke11 kg kg11 kh kh11 ki ki11 kt1 ku lA2 ldf lg2 lh2 li2 lu2 mi3 n1 n2 nA nB nG nGH nH n_l3 n_lG n_lH nd ne ng nh ni nm nu one1 p2 tgr tmi w0); omega), by ((try clear N1 bzi de eM emi enn ew hN hi hi60 hm hp k11 kA kB kG kG6 kH kH6 kd11 ke11 kg kg11 kh kh11 ki ki11 kt1 ku lA2 ldf lg2 lh2 li2 lu2 mi3 n1 n2 nA nB nG nGH nH n_l3 n_lG n_lH nd ne ng nh ni nm nu one1 p2 tgr tmi w0); omega), 32, fun x hx => (bmi x hx).mono (by decide), bB, fun lC C' H15 lC0 eC bC nC g15 kC => ?_⟩
  have lC2 : C'.length = f.length := by rw [lC0, Nat.max_eq_left (by ((try clear N1 bzi de eM emi enn ew hN hi hi60 hl hm hp k11 kA kB kC kG kG6 kH kH6 kd11 ke11 kg kg11 kh kh11 ki ki11 kt1 ku lA2 lC0 ldf lg2 lh2 li2 lu2 mi3 n1 n2 nA nB nC nG nGH nH n_l3 n_lG n_lH nd ne ng nh ni nm nu one1 p2 tgr tmi w0); omega))]; exact lmi
  clear lC0
  refine ⟨C', SqL.of kC, g.map (· % p), SqL.of (g15 _ _ (g14 _ _ (G13 _ _ kg11))), by ((try clear N1 bzi de eM emi enn ew hN hi hi60 hm hp k11 kA kB kC kG kG6 kH kH6 kd11 ke11 kg kg11 kh kh11 ki ki11 kt1 ku lA2 ldf lg2 lh2 li2 lu2 mi3 n1 n2 nA nB nC nG nGH nH n_l3 n_lG n_lH nd ne ng nh ni nm nu one1 p2 tgr tmi w0); omega), by ((try clear N1 bzi de eM emi enn ew hN hi hi60 hm hp k11 kA kB kC kG kG6 kH kH6 kd11 ke11 kg kg11 kh kh11 ki ki11 kt1 ku lA2 lB2 lC2 ldf lh2 li2 mi3 n1 n2 nA nB nC nG nGH nH n_l3 n_lG n_lH nd ne ng nh ni nm nu one1 p2 tgr tmi w0); omega), hpp, mods_r hp.1 g, nzg, fun lt2 lv lr2 nn2 v r2 H16 hd2 hv2 nv _ g16 kv _ kt2 => ⟨_, SqT.of kt2, _, atI_nat (j := 0) rfl, ?_⟩⟩
  obtain rfl : nn = nn2 := by
    have := hd1.uniq hd2
    ((try clear N1 bzi de eM emi ew hN hi hi60 hl hm hp k11 kA kB kC kG kG6 kH kH6 kd11 ke11 kg kg11 kh kh11 ki ki11 kt1 kt2 ku kv lA2 lB2 lC2 lG2 lJ2 ldf lf2 lg2 lgr lh2 lhr li2 lmi lpr lu2 mi2 mi3 n1 n2 nA nB nC nG nGH nH n_l3 n_lG n_lH nd ne ng nh ni nm nu nv one1 p2 tgr tmi w0); omega)
  have lvh : v.length = h.length := by
    have := hv2.lq
    ((try clear N1 bzi de eM emi ew hN hi hi60 hm hp k11 kA kB kC kG kG6 kH kH6 kd11 ke11 kg kg11 kh kh11 ki ki11 kt1 kt2 ku kv lA2 ldf li2 mi3 n1 n2 nA nB nC nG nGH nH n_l3 n_lG n_lH nd ne ng nh ni nm nu nv one1 p2 tgr tmi w0); omega)
  have G16 := G13.trans (g14.trans (g15.trans g16))
  have ku16 := g16 _ _ (g15 _ _ (g14 _ _ ku))
  (try dsimp only); (first | refine hX _ _ ?_ | skip); (try dsimp only); (first | refine seqX (fun X hX => ?_) | skip); try walk_at "dr1"; (try simp only [sp_poly_product, sp_rests_of, sp_poly_difference, sp_divided_by_prime, sp_inverse_beside, sp_may_part, sp_raised]); try walk_at "dr1"
  refine ⟨by decide, ?_⟩
  intro lz n_lz; generalize e_lz : upd _ lz _ = H17; obtain ⟨g17, k17⟩ := newH e_lz n_lz; clear e_lz
  refine ⟨_, g17 _ _ ku16, _, k17, by simp only [List.length_map, List.length_cons, List.length_nil]; unfold sizeLine; ((try clear N1 bzi de eM emi enn ew hN hi hi60 hm hp k11 k17 kA kB kC kG kG6 kH kH6 kd11 ke11 kg kg11 kh kh11 ki ki11 kt1 kt2 ku ku16 kv lA2 ldf lh2 li2 mi3 n1 n2 nA nB nC nG nGH nH n_l3 n_lG n_lH n_lz nd ne ng nh ni nm nu nv one1 p2 tgr tmi w0); omega), ?_⟩
  intro lw n_lw; generalize e_lw : upd _ lw _ = H18; obtain ⟨g18, k18⟩ := newH e_lw n_lw; clear e_lw
  have k18 : H18 lw = some (.lst ((u ++ [0]).map V.int)) := by rw [k18, List.map_append]; rfl
  have G18 := G16.trans (g17.trans g18)
  have lu0 : (u ++ [0]).length = g.length := by
    rw [List.length_append, List.length_cons, List.length_nil]
    ((try clear N1 bzi de eM emi enn ew hN hi hi60 hl hm hp k11 k17 k18 kA kB kC kG kG6 kH kH6 kd11 ke11 kg kg11 kh kh11 ki ki11 kt1 kt2 ku ku16 kv lA2 lB2 lC2 lG2 lJ2 ldf lf2 lg2 lgr lh2 lhr li2 lmi lpr lvh mi2 mi3 n1 n2 nA nB nC nG nGH nH n_l3 n_lG n_lH n_lw n_lz nd ne ng nh ni nm nu nv one1 p2 tgr tmi w0); omega)
  have ru0 : ∀ x, x ∈ u ++ [0] → 0 ≤ x ∧ x < p := fun x hx => by
    rcases List.mem_append.mp hx with z | z
    · exact hv1.rr x z
    · rw [List.mem_singleton.mp z]; ((try clear N1 bzi de eM emi enn ew hN hi hi60 hl hm hp k11 k17 k18 kA kB kC kG kG6 kH kH6 kd11 ke11 kg kg11 kh kh11 ki ki11 kt1 kt2 ku ku16 kv lA2 lB2 lC2 lG2 lJ2 ldf lf2 lg2 lgr lh2 lhr li2 lmi lpr lu0 lu2 lvh mi2 mi3 n1 n2 nA nB nC nG nGH nH n_l3 n_lG n_lH n_lw n_lz nd ne ng nh ni nm nu nv one1 tgr tmi w0); omega)
  refine ⟨G, SqL.of (G18 _ _ kd11), u ++ [0], SqL.of k18, by ((try clear N1 bzi de eM emi enn ew hN hi hi60 hl hm hp k11 k17 k18 kA kB kC kG kG6 kH kH6 kd11 ke11 kg kg11 kh kh11 ki ki11 kt1 kt2 ku ku16 kv lA2 ldf lg2 lh2 li2 mi3 n1 n2 nA nB nC nG nGH nH n_l3 n_lG n_lH n_lw n_lz nd ne ng nh ni nm nu nv one1 p2 tgr tmi w0); omega), by ((try clear N1 bzi de eM emi enn ew hN hi hi60 hm hp k11 k17 k18 kA kB kC kG kG6 kH kH6 kd11 ke11 kg kg11 kh kh11 ki ki11 kt1 kt2 ku ku16 kv lA2 ldf lh2 li2 mi3 n1 n2 nA nB nC nG nGH nH n_l3 n_lG n_lH n_lw n_lz nd ne ng nh ni nm nu nv one1 p2 tgr tmi w0); omega), ⟨611, bpart P.rg⟩, 10, range_b hp.2 ru0, 611, bw, by decide, by decide, fun d2 H19 nd2 g19 kd2 => ?_⟩
  (try dsimp only); (first | refine hX _ _ ?_ | skip); (try dsimp only); (first | refine seqX (fun X hX => ?_) | skip); try walk_at "dr1"; (try simp only [sp_poly_product, sp_rests_of, sp_poly_difference, sp_divided_by_prime, sp_inverse_beside, sp_may_part, sp_raised]); try walk_at "dr1"
  refine ⟨J, SqL.of (g19 _ _ (G18 _ _ ke11)), v, SqL.of (g19 _ _ (g18 _ _ (g17 _ _ kv))), by ((try clear N1 bzi de eM emi enn ew hN hi hi60 hl hm hp k11 k17 k18 kA kB kC kG kG6 kH kH6 kd11 kd2 ke11 kg kg11 kh kh11 ki ki11 kt1 kt2 ku ku16 kv lA2 ldf lg2 lh2 li2 lu0 mi3 n1 n2 nA nB nC nG nGH nH n_l3 n_lG n_lH n_lw n_lz nd nd2 ne ng nh ni nm nu nv one1 p2 tgr tmi w0); omega), by ((try clear N1 bzi de eM emi enn ew hN hi hi60 hm hp k11 k17 k18 kA kB kC kG kG6 kH kH6 kd11 kd2 ke11 kg kg11 kh kh11 ki ki11 kt1 kt2 ku ku16 kv lA2 ldf lg2 li2 lu0 mi3 n1 n2 nA nB nC nG nGH nH n_l3 n_lG n_lH n_lw n_lz nd nd2 ne ng nh ni nm nu nv one1 p2 tgr tmi w0); omega), ⟨611, bpart P.rh⟩, 10, range_b hp.2 hv2.rq, 611, bw, by decide, by decide, fun e2 H20 ne2 g20 ke2 => ?_⟩
  have bp10 : Dr.Sm p 10 := sm_of 1000 (by ((try clear N1 bzi de eM emi enn ew hN hi hi60 hl hm hp k11 k17 k18 kA kB kC kG kG6 kH kH6 kd11 kd2 ke11 ke2 kg kg11 kh kh11 ki ki11 kt1 kt2 ku ku16 kv lA2 lB2 lC2 lG2 lJ2 ldf lf2 lg2 lgr lh2 lhr li2 lmi lpr lu0 lu2 lvh mi2 mi3 n1 n2 nA nB nC nG nGH nH n_l3 n_lG n_lH n_lw n_lz nd nd2 ne ne2 ng nh ni nm nu nv one1 tgr tmi w0); omega)) (by decide)
  have tv : v.getLast? = some 0 := by
    refine Dr.Divd.top hpp hv2 dn (by ((try clear N1 bzi de eM emi ew hN hi hi60 hm hp k11 k17 k18 kA kB kC kG kG6 kH kH6 kd11 kd2 ke11 ke2 kg kg11 kh kh11 ki ki11 kt1 kt2 ku ku16 kv lA2 ldf li2 mi3 n1 n2 nA nB nC nG nGH nH n_l3 n_lG n_lH n_lw n_lz nd nd2 ne ne2 ng nh ni nm nu nv one1 p2 tgr tmi w0); omega)) ?_
    have h1 := Dr.pev_getD (f := C') (g := Dr.padd mi (B'.map (-1 * ·))) (fun x => by rw [Dr.padd_ev, Dr.pev_map, eC]; ((try clear N1 bzi de eM emi enn ew hN hi hi60 hl hm hp k11 k17 k18 kA kB kC kG kG6 kH kH6 kd11 kd2 ke11 ke2 kg kg11 kh kh11 ki ki11 kt1 kt2 ku ku16 kv lA2 lB2 lC2 lG2 lJ2 ldf lf2 lg2 lgr lh2 lhr li2 lmi lpr lu0 lu2 lvh mi2 mi3 n1 n2 nA nB nC nG nGH nH n_l3 n_lG n_lH n_lw n_lz nd nd2 ne ne2 ng nh ni nm nu nv one1 p2 tgr tmi w0); omega)) (C'.length - 1)
    rw [h1, Dr.padd_getD, Dr.map_getD, Dr.getD_len (f := B') (by ((try clear N1 bzi de eM emi enn ew h1 hN hi hi60 hm hp k11 k17 k18 kA kB kC kG kG6 kH kH6 kd11 kd2 ke11 ke2 kg kg11 kh kh11 ki ki11 kt1 kt2 ku ku16 kv lA2 ldf lg2 lh2 li2 mi3 n1 n2 nA nB nC nG nGH nH n_l3 n_lG n_lH n_lw n_lz nd nd2 ne ne2 ng nh ni nm nu nv one1 p2 tgr tmi w0); omega)), show C'.length - 1 = f.length - 1 by ((try clear N1 bzi de eM emi enn ew h1 hN hi hi60 hm hp k11 k17 k18 kA kB kC kG kG6 kH kH6 kd11 kd2 ke11 ke2 kg kg11 kh kh11 ki ki11 kt1 kt2 ku ku16 kv lA2 ldf lg2 lh2 li2 mi3 n1 n2 nA nB nC nG nGH nH n_l3 n_lG n_lH n_lw n_lz nd nd2 ne ne2 ng nh ni nm nu nv one1 p2 tgr tmi w0); omega), Int.mul_zero, Int.add_zero]
    exact tmi
  have huv : Dr.Cg p (Dr.pev mi) fun x => Dr.pev (u ++ [0]) x * Dr.pev h x + Dr.pev v x * Dr.pev g x := by
    have h1 := Dr.missing hpp hinv dn hA.ev hv1.eq (fun x => by rw [eC, hB.ev]) hv2.eq (by rw [hv2.lr]; exact Nat.min_le_left ..)
    refine h1.trans (((Dr.Cg.mulL (Dr.PF.of u) (Dr.Cf.rests p h).cg).add (Dr.Cg.mulL (Dr.PF.of v) (Dr.Cf.rests p g).cg)).trans (Dr.Cg.of_eq fun x => ?_))
    rw [Dr.pev_append]
    simp [Dr.pev]
  subst ew
  have st := Dr.Parts.step hp.1 (by ((try clear N1 bzi de eM emi enn hN hi hl hm hp k11 k17 k18 kA kB kC kG kG6 kH kH6 kd11 kd2 ke11 ke2 kg kg11 kh kh11 ki ki11 kt1 kt2 ku ku16 kv lA2 lB2 lC2 lG2 lJ2 ldf lf2 lg2 lgr lh2 lhr li2 lmi lpr lu0 lu2 lvh mi2 mi3 n1 n2 nA nB nC nG nGH nH n_l3 n_lG n_lH n_lw n_lz nd nd2 ne ne2 ng nh ni nm nu nv one1 p2 tgr tmi tv w0); omega)) P mi1 cmi lu0 lvh ru0 hv2.rq (by simp) tv huv
  (first | refine hX _ _ ?_ | skip); (try dsimp only); try (repeat (first | dsimp only [tSeq] | walk_at "dr1")); (try simp only [sp_poly_product, sp_rests_of, sp_poly_difference, sp_divided_by_prime, sp_inverse_beside, sp_may_part, sp_raised]); try (repeat (first | dsimp only [tSeq] | walk_at "dr1"))
  refine ⟨mulSm bw bp10 (by decide), (hPv _ _ _).mpr ⟨g7.trans (G11.trans (G18.trans (g19.trans g20))), d2, e2, _, _, _, _, _, _, st, G7.free (G11.free (G18.free nd2)), G7.free (G11.free (G18.free (g19.free ne2))), (fun z => by rw [z, ne2] at kd2; cases kd2), g20 _ _ kd2, ke2, by rw [Int.pow_succ p (i + 1)]⟩⟩
noncomputable def cellz (ns : List Int) (k : Int) : Int := if k < ns.length then ns.getD k.toNat 0 else 0
noncomputable def sp__law_cell_at (K : PySem.W.Frag) : Sp := fun vs H Q _ => ∃ (a : Addr) (ns : List Int) (k : Int), vs = [.ref a, .int k] ∧ SqL K H a (ns.map V.int) ∧ ns.length ≤ 63 ∧ (0 ≤ k ∧ k < 1000) ∧ Q (.int (cellz ns k)) H
theorem ok__law_cell_at (B : Bi mg K) (F : Fun K "_law_cell_at" "_law_cell_at" s__law_cell_at f fd) : FnOk P w K mg base CX0 1 f fd ["script", "k"] (sp__law_cell_at K) := by
  refine F.ok S__law_cell_at (fun vs H Q E h => ?_) (fun cdv A outer s H vs Q E hr h => ?_)
  · obtain ⟨a, ns, k, rfl, _⟩ := h
    rfl
  obtain ⟨a, ns, k, rfl, hS, hl, hk, q⟩ := h
  have S := S__law_cell_at
  refine ⟨_, ((pss_cons (ps_if (pt_cmpR op_lt (pv 1) (pe_callB call_len_seq rfl B.b_len PySem.boot_len (pa_cons (pv 0) pa_nil)) (nomark _)) (pss_one (ps_ret (pe_ix ix_list (pv 0) (pv 1) (fun _ _ => rfl)))) pss_nil)
    (pss_one (ps_ret pe_int)))), ?_⟩
  (first | refine hX _ _ ?_ | skip); (try dsimp only); try (repeat (first | dsimp only [tSeq] | walk_at "dr1"))
  refine ⟨_, .inl hS, ?_⟩
  simp only [List.length_map]
  unfold cellz at q
  refine ite2 (fun c => ?_) (fun c => ?_)
  · rw [if_pos c] at q
    exact ⟨_, hS, _, atI_ints hk.1 c, q⟩
  · rw [if_neg c] at q
    exact q
noncomputable def sp__law_prime (_ : PySem.W.Frag) : Sp := fun vs H Q _ => ∃ (c : Int), vs = [.int c] ∧ ∀ (p : Int) (H' : Hp), p ∈ Dr.primes → Same H H' → Q (.int p) H'
theorem body__law_prime : ∃ (s1 s2 s3 : Stmt) (e1 : List Expr) (p1 p2 p3 p4 p5 p6 p7 p8 p9 p10 p11 p12 p13 p14 p15 p16 p17 p18 p19 p20 p21 p22 p23 p24 p25 : Pos), defBody s__law_prime = [s1, s2, s3] ∧
    s1 = .Assign [.Name "primes" p1] (.List e1 p2) p3 ∧ cInts e1 = some Dr.primes ∧
    s2 = .If (.Compare (.BinOp (.Name "cell" p4) .Mod (.Constant (.int 2) 0 p5) p6) [.Eq] [.Constant (.int 0) 0 p7] p8) [.Return (some (.Subscript (.Name "primes" p9) (.BinOp (.BinOp (.Name "cell" p10) .FloorDiv (.Constant (.int 2) 0 p11) p12) .Mod (.Constant (.int 4) 0 p13) p14) p15)) p16] [] p17 ∧
    s3 = .Return (some (.Subscript (.Name "primes" p18) (.BinOp (.BinOp (.Name "cell" p19) .FloorDiv (.Constant (.int 2) 0 p20) p21) .Mod (.Constant (.int 25) 0 p22) p23) p24)) p25 :=
  ⟨_, _, _, _, _, _, _, _, _, _, _, _, _, _, _, _, _, _, _, _, _, _, _, _, _, _, _, _, _, rfl, rfl, rfl, rfl, rfl⟩
theorem ok__law_prime (B : Bi mg K) (F : Fun K "_law_prime" "_law_prime" s__law_prime f fd) : FnOk P w K mg base CX0 1 f fd ["cell"] (sp__law_prime K) := by
  refine F.ok S__law_prime (fun vs H Q E h => ?_) (fun cdv A outer s H vs Q E hr h => ?_)
  · obtain ⟨c, rfl, _⟩ := h
    rfl
  obtain ⟨c, rfl, q⟩ := h
  have S := S__law_prime
  obtain ⟨s1, s2, s3, e1, p1, p2, p3, p4, p5, p6, p7, p8, p9, p10, p11, p12, p13, p14, p15, p16, p17, p18, p19, p20, p21, p22, p23, p24, p25, hb, h1, c1, h2, h3⟩ := body__law_prime
  rw [hb]
  refine ⟨_, (pss_cons (ps_setInts (i := 1) h1 c1 S.nd rfl (Or.inl rfl) (Or.inr rfl))
    (pss_cons (ps_eq h2 (ps_if (pt_cmpR op_eq (pe_op op_mod (pv 0) pe_int) pe_int (nomark _)) (pss_one (ps_ret (pe_ix ix_list (pv 1) (pe_op op_mod (pe_op op_fdivW (pv 0) pe_int) pe_int) (fun _ _ => rfl)))) pss_nil))
    (pss_one (ps_eq h3 (ps_ret (pe_ix ix_list (pv 1) (pe_op op_mod (pe_op op_fdivW (pv 0) pe_int) pe_int) (fun _ _ => rfl))))))), ?_⟩
  refine ⟨(by show 25 ≤ sizeLine; decide), fun l hl => ?_⟩
  refine ⟨_, rfl, _, _, rfl, rfl, (show (0 : Int) < 2 by decide), rfl, _, rfl, ?_⟩
  refine ite2 (fun _ => ?_) (fun _ => ?_)
  · have m := mod_in (c / 2) (show (0 : Int) < 4 by decide)
    refine ⟨_, rfl, _, rfl, _, _, rfl, rfl, ⟨by decide, by decide⟩, _, _, rfl, rfl, (show (0 : Int) < 4 by decide), l, _, _, _, rfl, rfl, SqL.of upd_same, atI_ints (ns := Dr.primes) m.1 (by have := m.2; show _ < (25 : Int); ((try clear c1 h1 h2 h3 hb hl this); omega)), ?_⟩
    exact q _ _ (getD_in (ns := Dr.primes) m.1 (by have := m.2; show _ < (25 : Int); ((try clear c1 h1 h2 h3 hb hl this); omega))) (same_new hl _)
  · have m := mod_in (c / 2) (show (0 : Int) < 25 by decide)
    refine ⟨_, rfl, _, rfl, _, _, rfl, rfl, ⟨by decide, by decide⟩, _, _, rfl, rfl, (show (0 : Int) < 25 by decide), l, _, _, _, rfl, rfl, SqL.of upd_same, atI_ints (ns := Dr.primes) m.1 m.2, ?_⟩
    exact q _ _ (getD_in (ns := Dr.primes) m.1 m.2) (same_new hl _)
noncomputable def sp__law_times (K : PySem.W.Frag) : Sp := fun vs H Q _ => ∃ (a b : Addr) (f g : List Int) (m n : Nat), vs = [.ref a, .ref b] ∧ SqL K H a (f.map V.int) ∧ SqL K H b (g.map V.int) ∧ (0 < f.length ∧ f.length ≤ 60 ∧ 0 < g.length ∧ g.length ≤ 60) ∧ Dr.PolyB f m ∧ Dr.PolyB g n ∧ (m ≤ 1000000 ∧ n ≤ 1000000) ∧
  ∀ (c : Addr) (r : List Int) (H' : Hp), Dr.IsProd f g r → Dr.PolyB r (m + n + 12) → H c = none → Same H H' → H' c = some (.lst (r.map V.int)) → Q (.ref c) H'
theorem ok__law_times (B : Bi mg K) (F : Fun K "_law_times" "_law_times" s__law_times f fd) : FnOk P w K mg base CX0 1 f fd ["f", "g"] (sp__law_times K) := by
  refine F.ok S__law_times (fun vs H Q E h => ?_) (fun cdv A outer s H vs Q E hr h => ?_)
  · obtain ⟨a, b, f, g, m, n, rfl, _⟩ := h
    rfl
  obtain ⟨a, b, f, g, m, n, rfl, hS, hS', hl, hf, hg, hmn, q⟩ := h
  have S := S__law_times
  refine ⟨_, ((pss_cons (ps_set (i := 2) S.nd rfl (Or.inl rfl) (pe_op op_rep (pe_lst (pa_cons pe_int pa_nil)) (pe_op op_sub (pe_op op_add (pe_callB call_len_seq rfl B.b_len PySem.boot_len (pa_cons (pv 0) pa_nil)) (pe_callB call_len_seq rfl B.b_len PySem.boot_len (pa_cons (pv 1) pa_nil))) pe_int)))
    (pss_cons (ps_for PassesOwn.never rfl (pi_range1 rfl B.b_range (pa_cons (pe_callB call_len_seq rfl B.b_len PySem.boot_len (pa_cons (pv 0) pa_nil)) pa_nil)) (pg_name (i := 3) S.nd rfl (Or.inl rfl)) (pss_one (ps_for PassesOwn.never rfl (pi_range1 rfl B.b_range (pa_cons (pe_callB call_len_seq rfl B.b_len PySem.boot_len (pa_cons (pv 1) pa_nil)) pa_nil)) (pg_name (i := 4) S.nd rfl (Or.inl rfl)) (pss_one (ps_asg (pe_op op_add (pe_ix ix_list (pv 2) (pe_op op_add (pv 3) (pv 4)) (fun _ _ => rfl)) (pe_op op_mulW (pe_ix ix_list (pv 0) (pv 3) (fun _ _ => rfl)) (pe_ix ix_list (pv 1) (pv 4) (fun _ _ => rfl)))) (pg_sub (pv 2) (pe_op op_add (pv 3) (pv 4)) set_list))))))
    (pss_one (ps_ret (pv 2)))))), ?_⟩
  (first | refine hX _ _ ?_ | skip); (try dsimp only); try (repeat (first | dsimp only [tSeq] | walk_at "dr1"))
  refine ⟨by decide, ?_⟩
  intro l0 n_l0; generalize e_l0 : upd _ l0 _ = H1; obtain ⟨g1, k1⟩ := newH e_l0 n_l0; clear e_l0
  refine ⟨_, .inl (g1.seq hS), _, .inl (g1.seq hS'), ?_⟩
  simp only [List.length_map]
  refine ⟨_, k1, by ((try clear hmn k1 n_l0); omega), by ((try clear hmn k1 n_l0); omega), by simp only [List.length_cons, List.length_nil]; unfold sizeLine; ((try clear hmn k1 n_l0); omega), ?_⟩
  intro l n_l; generalize e_l : upd _ l _ = H2; obtain ⟨g2, k2⟩ := newH e_l n_l; clear e_l
  rw [rep_zero] at k2
  have g12 := g1.trans g2
  have nl : H l = none := g1.free n_l
  refine ⟨_, .inl (g12.seq hS), by simp only [List.length_map]; ((try clear hmn k1 k2 n_l n_l0 nl); omega), by simp only [List.length_map]; ((try clear hmn k1 k2 n_l n_l0 nl); omega), ?_⟩
  obtain ⟨M, hM⟩ : ∃ M : Nat, M = 2 ^ (m + n) := ⟨_, rfl⟩
  obtain ⟨Pv, hPv⟩ : ∃ Pv : Nat → St → Hp → Prop, ∀ i σ H3, Pv i σ H3 ↔ (Same H H3 ∧ ∃ (r : List Int) (t3 t4 : Option V), r.length + 1 = f.length + g.length ∧ (∀ c, c ∈ r → c.natAbs ≤ i * g.length * M) ∧ (∀ x, Dr.pev r x = Dr.pev (f.take i) x * Dr.pev g x) ∧ H3 l = some (.lst (r.map V.int)) ∧ σ = [some (.ref a), some (.ref b), some (.ref l), t3, t4]) := ⟨_, fun _ _ _ => Iff.rfl⟩
  (first | refine hX _ _ ?_ | skip); refine forR Pv ((hPv _ _ _).mpr ⟨g12, _, none, none, by rw [List.length_replicate]; ((try clear hM hmn k1 k2 n_l n_l0 nl); omega), fun c hc => by rw [(List.mem_replicate.mp hc).2]; simp, fun x => by rw [Dr.pev_zeros]; simp [Dr.pev], k2, rfl⟩) ?_ ?_
  · intro i σ H3 hi z
    obtain ⟨g3, r, t3, t4, hrl, hrb, hre, k3, rfl⟩ := (hPv _ _ _).mp z
    simp only [List.length_map, Int.toNat_natCast] at hi
    obtain ⟨c, hc⟩ : ∃ c, f[i]? = some c := ⟨_, List.getElem?_eq_getElem hi⟩
    have ac : atI (f.map V.int) (0 + (i : Int)) = some (.int c) := by
      rw [Int.zero_add]
      exact atI_nat (by rw [List.getElem?_map, hc]; rfl)
    (first | refine hX _ _ ?_ | skip); (try dsimp only); try (repeat (first | dsimp only [tSeq] | walk_at "dr1"))
    refine ⟨_, .inl (g3.seq hS'), by simp only [List.length_map]; ((try clear ac hM hc hi hmn hrl k1 k2 k3 n_l n_l0 nl); omega), by simp only [List.length_map]; ((try clear ac hM hc hi hmn hrl k1 k2 k3 n_l n_l0 nl); omega), ?_⟩
    obtain ⟨Pw, hPw⟩ : ∃ Pw : Nat → St → Hp → Prop, ∀ j σ H5, Pw j σ H5 ↔ (Same H H5 ∧ ∃ (r : List Int) (t4 : Option V), r.length + 1 = f.length + g.length ∧ (∀ c, c ∈ r → c.natAbs ≤ (i * g.length + j) * M) ∧ (∀ x, Dr.pev r x = Dr.pev (f.take i) x * Dr.pev g x + c * x ^ i * Dr.pev (g.take j) x) ∧ H5 l = some (.lst (r.map V.int)) ∧ σ = [some (.ref a), some (.ref b), some (.ref l), some (.int (0 + (i : Int))), t4]) := ⟨_, fun _ _ _ => Iff.rfl⟩
    (first | refine hX _ _ ?_ | skip); refine forR Pw ((hPw _ _ _).mpr ⟨g3, r, t4, hrl, hrb, fun x => by rw [hre]; simp [Dr.pev], k3, rfl⟩) ?_ ?_
    · intro j σ H5 hj z
      obtain ⟨g5, r, t4, hrl, hrb, hre, k5, rfl⟩ := (hPw _ _ _).mp z
      simp only [List.length_map, Int.toNat_natCast] at hj
      obtain ⟨d, hd⟩ : ∃ d, g[j]? = some d := ⟨_, List.getElem?_eq_getElem hj⟩
      have ad : atI (g.map V.int) (0 + (j : Int)) = some (.int d) := by
        rw [Int.zero_add]
        exact atI_nat (by rw [List.getElem?_map, hd]; rfl)
      obtain ⟨v, e1, e2, e3, _⟩ := get_int (fs := r) (k := 0 + (i : Int) + (0 + (j : Int))) (by ((try clear ac ad hM hc hd hi hj hl hmn hrl k1 k2 k3 k5 n_l n_l0 nl); omega)) (by ((try clear ac ad hM hc hd hl hmn k1 k2 k3 k5 n_l n_l0 nl); omega))
      have hcd : (c * d).natAbs ≤ M := by
        rw [hM]
        exact Nat.le_of_lt ((hf c (List.mem_of_getElem? hc)).mul (hg d (List.mem_of_getElem? hd)))
      (first | refine hX _ _ ?_ | skip); (try dsimp only); try (repeat (first | dsimp only [tSeq] | walk_at "dr1"))
      refine ⟨_, SqL.of k5, _, e2, _, g5.seq hS, _, ac, _, g5.seq hS', _, ad, c, rfl, d, rfl, mulSm (hf c (List.mem_of_getElem? hc)) (hg d (List.mem_of_getElem? hd)) (by ((try clear ac ad e1 e2 e3 hM hc hcd hd hi hj hl hrl k1 k2 k3 k5 n_l n_l0 nl); omega)), v, rfl, _, k5, _, e3, ?_⟩
      rw [set_int]
      have eij : (0 + (i : Int) + (0 + (j : Int))).toNat = i + j := by ((try clear ac ad e1 e2 e3 hM hc hcd hd hi hj hl hmn hrl k1 k2 k3 k5 n_l n_l0 nl); omega)
      rw [eij] at e1 ⊢
      refine (hPw _ _ _).mpr ⟨g5.up nl _, _, _, by rw [List.length_set]; exact hrl, fun e he => ?_, fun x => ?_, upd_same, rfl⟩
      · rcases mem_set he with w | w
        · exact Nat.le_trans (hrb e w) (Nat.mul_le_mul_right _ (Nat.le_succ _))
        · rw [w]
          exact steps (hrb v (List.mem_of_getElem? e1)) hcd
      · rw [Dr.pev_set x (c * d) r (i + j) v e1, hre, Dr.pev_take_succ hd, Dr.pow_add']
        generalize x ^ i = X
        generalize x ^ j = Y
        grind
    · intro σ H5 z
      obtain ⟨g5, r, t4, hrl, hrb, hre, k5, rfl⟩ := (hPw _ _ _).mp z
      simp only [List.length_map, Int.toNat_natCast] at hrb hre
      refine (hPv _ _ _).mpr ⟨g5, r, _, _, hrl, fun c hc => ?_, fun x => ?_, k5, rfl⟩
      · rw [Nat.succ_mul]
        exact hrb c hc
      · rw [hre, List.take_length, Dr.pev_take_succ hc]
        grind
  · intro σ H3 z
    obtain ⟨g3, r, t3, t4, hrl, hrb, hre, k3, rfl⟩ := (hPv _ _ _).mp z
    simp only [List.length_map, Int.toNat_natCast] at hrb hre
    (first | refine hX _ _ ?_ | skip); (try dsimp only); try (repeat (first | dsimp only [tSeq] | walk_at "dr1"))
    rw [List.take_length] at hre
    refine q l r H3 ⟨hrl, hre⟩ (fun c hc => ?_) nl g3 k3
    have h1 := hrb c hc
    have h2 : f.length * g.length * M ≤ 3600 * M := Nat.mul_le_mul_right _ (Nat.mul_le_mul (show f.length ≤ 60 by ((try clear h1 hM hmn k1 k2 k3 n_l n_l0 nl); omega)) (show g.length ≤ 60 by ((try clear h1 hM hmn hrl k1 k2 k3 n_l n_l0 nl); omega)))
    show c.natAbs < 2 ^ (m + n + 12)
    rw [Nat.pow_add, ← hM]
    have : (2 : Nat) ^ 12 = 4096 := by decide
    have : 0 < M := by rw [hM]; exact Nat.pow_pos (by decide)
    ((try clear hl hmn hrl k1 k2 k3 n_l n_l0 nl); omega)
noncomputable def sp__law_good (K : PySem.W.Frag) : Sp := fun vs H Q _ => ∃ (p cell other : Int), vs = [.int p, .int cell, .int other] ∧ p ∈ Dr.primes ∧
  ∀ (c lf lg lh : Addr) (f g h : List Int) (a : Int) (H' : Hp), Dr.Good p f g h → Dr.PolyB f 90 → Dr.PolyB g 90 → Dr.PolyB h 90 → (0 ≤ a ∧ a < p) → Same H H' → H' c = some (.lst [.ref lf, .ref lg, .ref lh, .int a]) → H' lf = some (.lst (f.map V.int)) → H' lg = some (.lst (g.map V.int)) → H' lh = some (.lst (h.map V.int)) → Q (.ref c) H'
theorem pb_two {t : Int} {n : Nat} (h : Dr.Sm t n) (hn : 2 ≤ n) : Dr.PolyB [t, 1] n := fun x hx => by
  simp only [List.mem_cons, List.not_mem_nil, or_false] at hx
  rcases hx with z | z <;> rw [z]
  · exact h
  · exact (sm_of (k := 1) 1 (by decide) (by decide)).mono (by ((try clear z); omega))
theorem mod_ne {p a b k m : Int} (hp : 2 ≤ p) (ha : 0 ≤ a ∧ a < p) (hb : 0 ≤ b ∧ b < p) (hn : a ≠ b) (hk : m = a - b + p * k) : m % p ≠ 0 := fun z => by
  obtain ⟨c, ec⟩ := Int.dvd_of_emod_eq_zero z
  have h1 : a - b = p * (c - k) := by
    have : p * (c - k) = p * c - p * k := by rw [Int.mul_sub]
    ((try clear ha hb hn hp z); omega)
  generalize c - k = d at h1
  rcases (show d ≤ -1 ∨ d = 0 ∨ 1 ≤ d by ((try clear ec h1 ha hb hk hn hp z); omega)) with h | h | h
  · have := Int.mul_le_mul_of_nonneg_left h (show 0 ≤ p by ((try clear ec h h1 ha hb hk hn z); omega))
    ((try clear h hn hp z); omega)
  · rw [h] at h1
    ((try clear h ha hb hp z); omega)
  · have := Int.mul_le_mul_of_nonneg_left h (show 0 ≤ p by ((try clear ec h h1 ha hb hk hn z); omega))
    ((try clear h hn hp z); omega)
theorem ok__law_good (B : Bi mg K) (d__law_times : Def P w K mg base "_law_times" 1 ["f", "g"] (sp__law_times K)) (F : Fun K "_law_good" "_law_good" s__law_good f fd) : FnOk P w K mg base CX0 2 f fd ["p", "cell", "other"] (sp__law_good K) := by
  refine F.ok S__law_good (fun vs H Q E h => ?_) (fun cdv A outer s H vs Q E hr h => ?_)
  · obtain ⟨p, cell, other, rfl, _⟩ := h
    rfl
  obtain ⟨p, cell, other, rfl, hpp, q⟩ := h
  have S := S__law_good
  have p2 := Dr.primes_ge hpp
  have hp : 2 ≤ p ∧ p < 1000 := by omega
  refine ⟨_, ((pss_cons (ps_set (i := 3) S.nd rfl (Or.inr rfl) (pe_op op_mod (pv 1) (pv 0)))
    (pss_cons (ps_set (i := 4) S.nd rfl (Or.inr rfl) (pe_op op_mod (pe_op op_add (pe_op op_add (pv 3) pe_int) (pe_op op_mod (pe_op op_fdivW (pv 1) pe_int) (pe_op op_sub (pv 0) pe_int))) (pv 0)))
    (pss_cons (ps_set (i := 5) S.nd rfl (Or.inl rfl) (pe_lst (pa_cons (pe_op op_sub (pe_op op_sub pe_int (pv 3)) (pe_op op_mulW (pv 0) (pe_op op_mod (pv 2) pe_int))) (pa_cons pe_int pa_nil))))
    (pss_cons (ps_set (i := 6) S.nd rfl (Or.inl rfl) (pe_lst (pa_cons (pe_op op_sub (pe_op op_sub pe_int (pv 4)) (pe_op op_mulW (pv 0) (pe_op op_mod (pe_op op_fdivW (pv 2) pe_int) pe_int))) (pa_cons pe_int pa_nil))))
    (pss_cons (ps_join (ps_if (PW.pt (pw_and (pt_cmpR op_gt (pv 0) pe_int (nomark _)) (pw_and1 (pt_cmpR op_eq (pe_op op_mod (pe_op op_fdivW (pv 2) pe_int) pe_int) pe_int (nomark _))))) (pss_cons (ps_set (i := 7) S.nd rfl (Or.inl rfl) (pe_ix ix_list (pe_comp [3, 4] ["a", "b"] rfl rfl ⟨rfl, rfl, trivial⟩ ⟨rfl, rfl, rfl, rfl, rfl, rfl, rfl, rfl, trivial⟩ rfl rfl (by decide) (by decide) rfl rfl (by decide) (pi_range1 rfl B.b_range (pa_cons (pv 0) pa_nil)) (fun _ _ _ _ => (pts_one (PW.pt (pw_and (pt_cmpR op_ne (pv 0) (pv 1) (nomark _)) (pw_and1 (pt_cmpR op_ne (pv 0) (pv 2) (nomark _))))))) (fun _ _ _ _ => (pv 0))) (pe_op op_mod (pe_op op_fdivW (pv 1) pe_int) (pe_op op_sub (pv 0) pe_int)) (fun _ _ => rfl)))
    (pss_one (ps_set (i := 6) S.nd rfl (Or.inl rfl) (pe_def d__law_times hr rfl (pa_cons (pv 6) (pa_cons (pe_lst (pa_cons (pe_op op_sub pe_int (pv 7)) (pa_cons pe_int pa_nil))) pa_nil)))))) pss_nil))
    (pss_cons (ps_set (i := 8) S.nd rfl (Or.inl rfl) (pe_def d__law_times hr rfl (pa_cons (pv 5) (pa_cons (pv 6) pa_nil))))
    (pss_cons (ps_asg (pe_op op_add (pe_ix ix_list (pv 8) pe_int (fun _ _ => rfl)) (pe_op op_mulW (pv 0) (pe_op op_sub (pe_op op_mod (pe_op op_fdivW (pv 2) pe_int) pe_int) pe_int))) (pg_sub (pv 8) pe_int set_list))
    (pss_one (ps_ret (pe_lst (pa_cons (pv 8) (pa_cons (pv 5) (pa_cons (pv 6) (pa_cons (pv 3) pa_nil))))))))))))))), ?_⟩
  (try dsimp only); (first | refine hX _ _ ?_ | skip); (try dsimp only); (first | refine seqX (fun X hX => ?_) | skip); try walk_at "dr1"; (try simp only [sp__law_times]); try walk_at "dr1"
  refine ⟨by ((try clear hp); omega), ?_⟩
  have ma := mod_in cell (show 0 < p by ((try clear hp); omega))
  generalize cell % p = a at ma ⊢
  (try dsimp only); (first | refine hX _ _ ?_ | skip); (try dsimp only); (first | refine seqX (fun X hX => ?_) | skip); try walk_at "dr1"; (try simp only [sp__law_times]); try walk_at "dr1"
  refine ⟨⟨by decide, by decide⟩, by ((try clear hp ma); omega), by ((try clear hp ma); omega), ?_⟩
  have mb := mod_in (cell / 97) (show 0 < p - 1 by ((try clear hp ma); omega))
  generalize cell / 97 % (p - 1) = r at mb ⊢
  obtain ⟨b, eb⟩ : ∃ b, b = (a + 1 + r) % p := ⟨_, rfl⟩
  rw [← eb]
  have hb := mod_in (a + 1 + r) (show 0 < p by ((try clear eb hp ma mb); omega))
  rw [← eb] at hb
  have nab : a ≠ b := fun z => by
    rw [← z] at eb
    rcases (show a + 1 + r < p ∨ p ≤ a + 1 + r by ((try clear hb hp ma mb p2); omega)) with h | h
    · rw [Int.emod_eq_of_lt (by ((try clear h hp ma p2); omega)) h] at eb
      ((try clear h hb hp ma p2 z); omega)
    · have e1 : (a + 1 + r) % p = a + 1 + r - p := by
        rw [show a + 1 + r = (a + 1 + r - p) + p by ((try clear eb h hb hp ma mb p2 z); omega), Int.add_emod_right, Int.emod_eq_of_lt (by ((try clear hb hp ma mb p2); omega)) (by ((try clear h hp ma p2); omega))]
        ((try clear eb h hb hp ma mb p2 z); omega)
      ((try clear h hb hp ma p2 z); omega)
  clear eb mb
  have m5 := mod_in other (show (0 : Int) < 5 by decide)
  have m5' := mod_in (other / 5) (show (0 : Int) < 5 by decide)
  have m9 := mod_in (other / 50) (show (0 : Int) < 9 by decide)
  have bp : Dr.Sm p 10 := sm_of 1000 (by ((try clear hb hp m5 m5' m9 ma nab); omega)) (by decide)
  have b3 : ∀ {x : Int}, 0 ≤ x ∧ x < 5 → Dr.Sm x 3 := fun {x} h => sm_of 5 (by ((try clear hb hp m5 m5' m9 ma nab p2); omega)) (by decide)
  have bw : Dr.Sm (0 - a - p * (other % 5)) 20 := (((Dr.Sm.zero 10).sub (sm_of (k := 10) 1000 (by ((try clear hb hp m5 m5' m9 nab); omega)) (by decide))).sub (bp.mul (b3 m5))).mono (by decide)
  have bu : Dr.Sm (0 - b - p * (other / 5 % 5)) 20 := (((Dr.Sm.zero 10).sub (sm_of (k := 10) 1000 (by ((try clear hp m5 m5' m9 ma nab); omega)) (by decide))).sub (bp.mul (b3 m5'))).mono (by decide)
  obtain ⟨s1, es1⟩ : ∃ s1, s1 = other % 5 := ⟨_, rfl⟩
  obtain ⟨s2, es2⟩ : ∃ s2, s2 = other / 5 % 5 := ⟨_, rfl⟩
  rw [← es1] at m5 bw
  rw [← es2] at m5' bu
  (try dsimp only); (first | refine hX _ _ ?_ | skip); (try dsimp only); (first | refine seqX (fun X hX => ?_) | skip); try walk_at "dr1"; (try simp only [sp__law_times]); try walk_at "dr1"
  rw [← es1]
  refine ⟨mulSm bp (b3 m5) (by decide), by decide, ?_⟩
  intro lg n_lg; generalize e_lg : upd _ lg _ = H1; obtain ⟨g1, kg⟩ := newH e_lg n_lg; clear e_lg
  (try dsimp only); (first | refine hX _ _ ?_ | skip); (try dsimp only); (first | refine seqX (fun X hX => ?_) | skip); try walk_at "dr1"; (try simp only [sp__law_times]); try walk_at "dr1"
  rw [← es2]
  refine ⟨⟨by decide, by decide⟩, mulSm bp (b3 m5') (by decide), by decide, ?_⟩
  intro l2 n_l2; generalize e_l2 : upd _ l2 _ = H2; obtain ⟨g2, k2⟩ := newH e_l2 n_l2; clear e_l2
  have kg : H1 lg = some (.lst ([0 - a - p * s1, 1].map V.int)) := kg
  have k2 : H2 l2 = some (.lst ([0 - b - p * s2, 1].map V.int)) := k2
  have kg2 := g2 _ _ kg
  obtain ⟨w, ew⟩ : ∃ w, w = a + p * s1 := ⟨_, rfl⟩
  have eg : [0 - a - p * s1, 1] = [0 - w, 1] := by rw [ew, show 0 - (a + p * s1) = 0 - a - p * s1 by ((try clear es1 es2 ew hb hp k2 kg kg2 m5 m5' m9 ma n_l2 n_lg nab p2); omega)]
  have bg := pb_two bw (by decide)
  have bh2 := pb_two bu (by decide)
  (first | refine hX _ _ ?_ | skip); refine seqI ?_
  obtain ⟨R, hR⟩ : ∃ R : St → Hp → Prop, ∀ σ' H3, R σ' H3 ↔ (Same H2 H3 ∧ ∃ (lh : Addr) (h : List Int) (t7 : Option V), H3 lh = some (.lst (h.map V.int)) ∧ Dr.PolyB h 45 ∧ (2 ≤ h.length ∧ h.length ≤ 3) ∧ h.getLast? = some 1 ∧ Dr.pev h w % p ≠ 0 ∧ σ' = [some (.int p), some (.int cell), some (.int other), some (.int a), some (.int b), some (.ref lg), some (.ref lh), t7, none]) := ⟨_, fun _ _ => Iff.rfl⟩
  have wb : (w - (b + p * s2)) % p ≠ 0 := mod_ne hp.1 ma hb nab (k := s1 - s2) (by rw [ew, Int.mul_sub]; ((try clear eg es1 es2 ew hb hp k2 kg kg2 m5 m5' m9 ma n_l2 n_lg nab p2); omega))
  have ev2 : Dr.pev [0 - b - p * s2, 1] w = w - (b + p * s2) := by
    simp only [Dr.pev]
    ((try clear eg es1 es2 ew hb hp k2 kg kg2 m5 m5' m9 ma n_l2 n_lg nab p2 wb); omega)
  (first | refine hX _ _ ?_ | skip); refine joinB R ?_ ?_
  · (first | refine hX _ _ ?_ | skip); (try dsimp only); try (repeat (first | dsimp only [tSeq] | walk_at "dr1")); (try simp only [sp__law_times]); try (repeat (first | dsimp only [tSeq] | walk_at "dr1"))
    have plain : R [some (.int p), some (.int cell), some (.int other), some (.int a), some (.int b), some (.ref lg), some (.ref l2), none, none] H2 := (hR _ _).mpr ⟨Same.refl _, l2, _, none, k2, fun x hx => (bh2 x hx).mono (by decide), by simp, rfl, by rw [ev2]; exact wb, rfl⟩
    refine ite2 (fun c1 => ⟨⟨by decide, by decide⟩, ite2 (fun c2 => ?_) fun _ => plain⟩) fun _ => plain
    refine ⟨by ((try clear c2 eg es1 es2 ev2 ew hb hp k2 kg kg2 m5 m5' m9 ma n_l2 n_lg nab wb); omega), by ((try clear c2 eg es1 es2 ev2 ew hb hp k2 kg kg2 m5 m5' m9 ma n_l2 n_lg nab wb); omega), ?_⟩
    obtain ⟨Pc, hPc⟩ : ∃ Pc : Nat → List V → Hp → Prop, ∀ i ys H3, Pc i ys H3 ↔ (H3 = H2 ∧ ∃ L : List Int, ys = L.map V.int ∧ (∀ x, x ∈ L → 0 ≤ x ∧ x < p ∧ x ≠ a ∧ x ≠ b) ∧ (L.length : Int) + (if a < (i : Int) then 1 else 0) + (if b < (i : Int) then 1 else 0) = (i : Int)) := ⟨_, fun _ _ _ => Iff.rfl⟩
    (first | refine hX _ _ ?_ | skip); refine compR Pc (by unfold sizeLine; ((try clear c2 eg es1 es2 ev2 ew hb hp k2 kg kg2 m5 m5' m9 ma n_l2 n_lg nab wb); omega)) ((hPc _ _ _).mpr ⟨rfl, [], rfl, fun x hx => by simp at hx, by rw [if_neg (by ((try clear c1 c2 eg es1 es2 ev2 hb hp k2 kg kg2 m5 m5' m9 n_l2 n_lg nab p2 wb); omega)), if_neg (by ((try clear c1 c2 eg es1 es2 ew hp k2 kg kg2 m5 m5' m9 ma n_l2 n_lg nab p2 wb); omega))]; rfl⟩) ?_ ?_
    · intro i ys H3 hi z
      obtain ⟨rfl, L, rfl, hL, hc⟩ := (hPc _ _ _).mp z
      have hi2 : (i : Int) < p := by ((try clear c2 eg es1 es2 hp k2 kg kg2 m5 m5' m9 n_l2 n_lg nab wb); omega)
      (first | refine hX _ _ ?_ | skip); (try dsimp only); try (repeat (first | dsimp only [tSeq] | walk_at "dr1")); (try simp only [sp__law_times]); try (repeat (first | dsimp only [tSeq] | walk_at "dr1"))
      have step : ∀ (d : Int) (L' : List Int), (∀ x, x ∈ L' → 0 ≤ x ∧ x < p ∧ x ≠ a ∧ x ≠ b) → (L'.length : Int) = L.length + d → (d = 1 → (i : Int) ≠ a ∧ (i : Int) ≠ b) → (d = 0 → (i : Int) = a ∨ (i : Int) = b) → (d = 0 ∨ d = 1) → Pc (i + 1) (L'.map V.int) H3 := fun d L' h1 h2 h3 h4 h5 => (hPc _ _ _).mpr ⟨rfl, L', rfl, h1, by
        push_cast
        split at hc <;> split at hc <;> split <;> split <;> ((try clear c2 eg es1 es2 hb hi hi2 hp k2 kg kg2 m5 m5' m9 ma n_l2 n_lg); omega)⟩
      refine ite2 (fun ca => ite2 (fun cb => ?_) fun cb => ?_) fun ca => ?_
      · have := step 1 (L ++ [0 + (i : Int)]) (fun x hx => ?_) (by simp) (fun _ => by ((try clear c1 c2 eg es1 es2 hb hi hi2 hp k2 kg kg2 m5 m5' m9 ma n_l2 n_lg nab p2 wb); omega)) (fun z => by ((try clear c1 c2 ca cb eg es1 es2 ev2 ew hb hc hi hi2 hp k2 kg kg2 m5 m5' m9 ma n_l2 n_lg nab p2 wb); omega)) (.inr rfl)
        · rw [List.map_append] at this
          exact this
        · rcases List.mem_append.mp hx with z | z
          · exact hL x z
          · rw [List.mem_singleton.mp z]
            ((try clear c1 c2 eg es1 es2 hb hi hp k2 kg kg2 m5 m5' m9 ma n_l2 n_lg nab p2 wb); omega)
      · exact step 0 L hL (by ((try clear c1 c2 ca cb eg es1 es2 ev2 ew hb hc hi hi2 hp k2 kg kg2 m5 m5' m9 ma n_l2 n_lg nab p2 wb); omega)) (fun z => by ((try clear c1 c2 ca cb eg es1 es2 ev2 ew hb hc hi hi2 hp k2 kg kg2 m5 m5' m9 ma n_l2 n_lg nab p2 wb); omega)) (fun _ => by ((try clear c1 c2 ca eg es1 es2 ew hb hi hi2 hp k2 kg kg2 m5 m5' m9 ma n_l2 n_lg nab p2 wb); omega)) (.inl rfl)
      · exact step 0 L hL (by ((try clear c1 c2 ca eg es1 es2 ev2 ew hb hc hi hi2 hp k2 kg kg2 m5 m5' m9 ma n_l2 n_lg nab p2 wb); omega)) (fun z => by ((try clear c1 c2 ca eg es1 es2 ev2 ew hb hc hi hi2 hp k2 kg kg2 m5 m5' m9 ma n_l2 n_lg nab p2 wb); omega)) (fun _ => by ((try clear c1 c2 eg es1 es2 ev2 hb hi hi2 hp k2 kg kg2 m5 m5' m9 ma n_l2 n_lg nab p2 wb); omega)) (.inl rfl)
    intro ys H3 z
    obtain ⟨rfl, L, rfl, hL, hc⟩ := (hPc _ _ _).mp z
    clear hPc z
    have hlen : (L.length : Int) = p - 2 := by
      rw [if_pos (by ((try clear c2 eg es1 es2 ev2 hb hc hp k2 kg kg2 m5 m5' m9 n_l2 n_lg nab wb); omega)), if_pos (by ((try clear c2 eg es1 es2 ew hc hp k2 kg kg2 m5 m5' m9 ma n_l2 n_lg nab wb); omega))] at hc
      ((try clear c2 eg es1 es2 ev2 ew hb hp k2 kg kg2 m5 m5' m9 ma n_l2 n_lg nab wb); omega)
    intro l4 n_l4; generalize e_l4 : upd _ l4 _ = H4; obtain ⟨g4, k4⟩ := newH e_l4 n_l4; clear e_l4
    have mi := mod_in (cell / 9409) (show 0 < p - 2 by ((try clear c2 eg es1 es2 ev2 ew hb hp k2 k4 kg kg2 m5 m5' m9 ma n_l2 n_l4 n_lg nab wb); omega))
    generalize cell / 9409 % (p - 2) = j at mi ⊢
    refine ⟨⟨by decide, by decide⟩, by ((try clear c2 eg es1 es2 ev2 ew hb hp k2 k4 kg kg2 m5 m5' m9 ma mi n_l2 n_l4 n_lg nab wb); omega), _, rfl, _, SqL.of k4, _, atI_ints mi.1 (by ((try clear c1 c2 eg es1 es2 ev2 ew hb hp k2 k4 kg kg2 m5 m5' m9 ma n_l2 n_l4 n_lg nab p2 wb); omega)), _, rfl, by decide, ?_⟩
    have hcj := hL _ (getD_in (ns := L) mi.1 (by ((try clear c1 c2 eg es1 es2 ev2 ew hb hp k2 k4 kg kg2 m5 m5' m9 ma n_l2 n_l4 n_lg nab p2 wb); omega)))
    generalize L.getD j.toNat 0 = c at hcj ⊢
    intro l5 n_l5; generalize e_l5 : upd _ l5 _ = H5; obtain ⟨g5, k5⟩ := newH e_l5 n_l5; clear e_l5
    have k5 : H5 l5 = some (.lst ([0 - c, 1].map V.int)) := k5
    have bc : Dr.PolyB [0 - c, 1] 10 := pb_two (sm_of 1000 (by ((try clear c2 eg es1 es2 ev2 ew hb hp k2 k4 k5 kg kg2 m5 m5' m9 ma mi n_l2 n_l4 n_l5 n_lg nab wb); omega)) (by decide)) (by decide)
    refine ⟨_, SqL.of (g5 _ _ (g4 _ _ k2)), _, SqL.of k5, by simp, by simp, by simp, by simp, 20, bh2, 10, bc, by decide, by decide, fun lh h H6 hpr bh _ g6 kh => ?_⟩
    have lh3 := hpr.len
    simp only [List.length_cons, List.length_nil] at lh3
    refine (hR _ _).mpr ⟨g4.trans (g5.trans g6), lh, h, _, kh, fun x hx => (bh x hx).mono (by decide), by ((try clear c1 c2 eg es1 es2 ev2 ew hb hc hcj hlen hp k2 k4 k5 kg kg2 kh m5 m5' m9 ma mi n_l2 n_l4 n_l5 n_lg nab p2 wb); omega), ?_, ?_, rfl⟩
    · have e2 : h = Dr.pmul [0 - b - p * s2, 1] [0 - c, 1] := hpr.uniq (Dr.pmul_prod (by simp) (by simp))
      have t := Dr.pmul_top [0 - b - p * s2, 1] [0 - c, 1] 1 1 rfl rfl
      rw [← e2, List.getD_eq_getElem?_getD] at t
      rw [List.getLast?_eq_getElem?, show h.length - 1 = 1 + 1 by ((try clear c1 c2 e2 eg es1 es2 ev2 ew hb hc hcj hlen hp k2 k4 k5 kg kg2 kh m5 m5' m9 ma mi n_l2 n_l4 n_l5 n_lg nab p2 t wb); omega)]
      cases z : h[1 + 1]? with
      | none => rw [z] at t; simp at t
      | some v => rw [z] at t; exact congrArg some t
    · rw [hpr.ev, ev2]
      intro z
      have wc : (w - c) % p ≠ 0 := mod_ne hp.1 ma (by ((try clear c1 c2 eg es1 es2 ev2 ew hb hp k2 k4 k5 kg kg2 kh lh3 m5 m5' m9 ma mi n_l2 n_l4 n_l5 n_lg nab p2 wb z); omega)) (Ne.symm hcj.2.2.1) (k := s1) (by rw [ew]; ((try clear c1 c2 eg es1 es2 ev2 ew hb hc hcj hlen hp k2 k4 k5 kg kg2 kh lh3 m5 m5' m9 ma mi n_l2 n_l4 n_l5 n_lg nab p2 wb z); omega))
      have ec : Dr.pev [0 - c, 1] w = w - c := by
        simp only [Dr.pev]
        ((try clear c1 c2 eg es1 es2 ev2 ew hb hc hcj hlen hp k2 k4 k5 kg kg2 kh lh3 m5 m5' m9 ma mi n_l2 n_l4 n_l5 n_lg nab p2 wb wc z); omega)
      rw [ec] at z
      exact wc (Dr.euclid hpp z wb)
  intro σ' H3 z
  refine byX fun X hX => ?_; obtain ⟨g3, lh, h, t7, kh, bh, lh2, th, nz, rfl⟩ := (hR _ _).mp z; refine hX ?_; clear hX X
  clear hR z
  have kg3 := g3 _ _ kg2
  (try dsimp only); (first | refine hX _ _ ?_ | skip); (try dsimp only); (first | refine seqX (fun X hX => ?_) | skip); try walk_at "dr1"; (try simp only [sp__law_times]); try walk_at "dr1"
  refine ⟨_, SqL.of kg3, h, SqL.of kh, by simp, by simp, by ((try clear eg es1 es2 ev2 ew hb hp k2 kg kg2 kg3 kh m5 m5' m9 ma n_l2 n_lg nab nz p2 th wb); omega), by ((try clear eg es1 es2 ev2 ew hb hp k2 kg kg2 kg3 kh m5 m5' m9 ma n_l2 n_lg nab nz p2 th wb); omega), 20, bg, 45, bh, by decide, by decide, fun lf f H4 hf bf nf g4 kf => ?_⟩
  have lf2 := hf.len
  simp only [List.length_cons, List.length_nil] at lf2
  obtain ⟨v, e1, e2, e3, _⟩ := get_int (fs := f) (k := 0) (by decide) (by ((try clear eg es1 es2 ev2 ew hb hp k2 kf kg kg2 kg3 kh m5 m5' m9 ma n_l2 n_lg nab nf nz p2 th wb); omega))
  have e1 : f[0]? = some v := e1
  have bm : Dr.Sm (other / 50 % 9 - 4) 4 := sm_of 8 (by ((try clear e1 e2 e3 eg es1 es2 ev2 ew hb hp k2 kf kg kg2 kg3 kh lf2 lh2 m5 m5' ma n_l2 n_lg nab nf nz p2 th wb); omega)) (by decide)
  obtain ⟨mo, emo⟩ : ∃ mo, mo = other / 50 % 9 - 4 := ⟨_, rfl⟩
  rw [← emo] at bm
  (try dsimp only); (first | refine hX _ _ ?_ | skip); (try dsimp only); (first | refine seqX (fun X hX => ?_) | skip); try walk_at "dr1"; (try simp only [sp__law_times]); try walk_at "dr1"
  rw [← emo]
  refine ⟨_, SqL.of kf, _, e2, ⟨by decide, by decide⟩, mulSm bp bm (by decide), _, rfl, _, kf, _, e3, ?_⟩
  rw [set_int]
  generalize e5 : upd H4 lf _ = H5
  have nf0 : H lf = none := g1.free (g2.free (g3.free nf))
  have g5 : Same H H5 := by rw [← e5]; exact (g1.trans (g2.trans (g3.trans g4))).up nf0 _
  have kf5 : H5 lf = some (.lst ((f.set 0 (v + p * mo)).map V.int)) := by rw [← e5]; exact upd_same
  have ngf : lg ≠ lf := fun z => by rw [z, nf] at kg3; cases kg3
  have nhf : lh ≠ lf := fun z => by rw [z, nf] at kh; cases kh
  have kg5 : H5 lg = some (.lst ([0 - a - p * s1, 1].map V.int)) := by rw [← e5, upd_ne ngf]; exact g4 _ _ kg3
  have kh5 : H5 lh = some (.lst (h.map V.int)) := by rw [← e5, upd_ne nhf]; exact g4 _ _ kh
  clear e5
  (first | refine hX _ _ ?_ | skip); (try dsimp only); try (repeat (first | dsimp only [tSeq] | walk_at "dr1")); (try simp only [sp__law_times]); try (repeat (first | dsimp only [tSeq] | walk_at "dr1"))
  refine ⟨by decide, ?_⟩
  intro lR n_lR; generalize e_lR : upd _ lR _ = H6; obtain ⟨g6, kR⟩ := newH e_lR n_lR; clear e_lR
  have dm : p * mo % p = 0 := by simp
  refine q lR lf lg lh _ _ h a H6 (Dr.Good.two hpp eg nz lh2 th hf e1 dm) (fun x hx => ?_) (fun x hx => (bg x hx).mono (by decide)) (fun x hx => (bh x hx).mono (by decide)) ma (g5.trans g6) kR (g6 _ _ kf5) (g6 _ _ kg5) (g6 _ _ kh5)
  rcases mem_set hx with u | u
  · exact (bf x u).mono (by decide)
  · rw [u]
    exact ((bf v (List.mem_of_getElem? e1)).add (bp.mul bm)).mono (by decide)
inductive SpI (H : Hp) (p : Int) (lo : Addr) (cell a way : Int) (f g h : List Int) (k : Int) (σ : St) (H2 : Hp) : Prop
  | mk (same : Same H H2) (N : Int) (lf lg lh : Addr) (f' g' h' : List Int) (t9 t10 : Option V) (kf : H2 lf = some (.lst (f'.map V.int))) (kg : H2 lg = some (.lst (g'.map V.int))) (kh : H2 lh = some (.lst (h'.map V.int))) (n1 : H lf = none ∧ H lg = none ∧ H lh = none) (n2 : lf ≠ lg ∧ lf ≠ lh ∧ lg ≠ lh) (l1 : f'.length ≤ 14 ∧ g'.length ≤ 7 ∧ h'.length ≤ 7) (b1 : Dr.PolyB f' 400 ∧ Dr.PolyB g' 400 ∧ Dr.PolyB h' 400) (hN : N ≤ 60) (hg : k < way → f' = f ∧ g' = g ∧ h' = h ∧ 1 ≤ N) (hb : way ≤ k → ¬ (Dr.May p N f' g' h' ∧ Dr.Bez p g' h')) (e : σ = [some (.int p), some (.ref lo), some (.int cell), some (.ref lf), some (.ref lg), some (.ref lh), some (.int a), some (.int way), some (.int N), t9, t10])
theorem SpI.skip {H : Hp} {p : Int} {lo : Addr} {cell a way : Int} {f g h : List Int} {k k' : Int} {σ : St} {H2 : Hp} (z : SpI H p lo cell a way f g h k σ H2) (e : k' = k + 1) (n : way ≠ k') : SpI H p lo cell a way f g h k' σ H2 := by
  obtain ⟨s, N, lf, lg, lh, f', g', h', t9, t10, k1, k2, k3, n1, n2, l1, b1, hN, hg, hb, e1⟩ := z
  exact ⟨s, N, lf, lg, lh, f', g', h', t9, t10, k1, k2, k3, n1, n2, l1, b1, hN, fun c => hg (by ((try clear b1 e1 hN k1 k2 k3 l1 n n1 n2); omega)), fun c => hb (by ((try clear b1 e1 hN k1 k2 k3 l1 n1 n2); omega)), e1⟩
noncomputable def sp__law_spoilt (K : PySem.W.Frag) : Sp := fun vs H Q _ => ∃ (p : Int) (lo : Addr) (cell : Int) (lf lg lh : Addr) (f g h : List Int) (a : Int), vs = [.int p, .ref lo, .int cell] ∧ H lo = some (.lst [.ref lf, .ref lg, .ref lh, .int a]) ∧ H lf = some (.lst (f.map V.int)) ∧ H lg = some (.lst (g.map V.int)) ∧ H lh = some (.lst (h.map V.int)) ∧ p ∈ Dr.primes ∧ Dr.Good p f g h ∧ Dr.PolyB f 90 ∧ Dr.PolyB g 90 ∧ Dr.PolyB h 90 ∧ (0 ≤ a ∧ a < p) ∧
  ∀ (c lf lg lh : Addr) (N : Int) (f g h : List Int) (H' : Hp), Same H H' → H' c = some (.lst [.int N, .ref lf, .ref lg, .ref lh]) → H' lf = some (.lst (f.map V.int)) → H' lg = some (.lst (g.map V.int)) → H' lh = some (.lst (h.map V.int)) → (f.length ≤ 14 ∧ g.length ≤ 7 ∧ h.length ≤ 7) → (Dr.PolyB f 400 ∧ Dr.PolyB g 400 ∧ Dr.PolyB h 400) → N ≤ 60 → ¬ (Dr.May p N f g h ∧ Dr.Bez p g h) → Q (.ref c) H'
theorem ixN_back {n : Nat} (h : 1 ≤ n) : ixN n (-1) = some (n - 1) := by
  unfold ixN
  rw [if_neg (by decide), if_pos (by omega)]
  exact congrArg some (by omega)
theorem pb_set {f : List Int} {n : Nat} {k : Nat} {v : Int} (h : Dr.PolyB f n) (hv : Dr.Sm v n) : Dr.PolyB (f.set k v) n := fun x hx => by
  rcases mem_set hx with u | u
  · exact h x u
  · rw [u]; exact hv
theorem ok__law_spoilt (B : Bi mg K) (d__law_times : Def P w K mg base "_law_times" 1 ["f", "g"] (sp__law_times K)) (F : Fun K "_law_spoilt" "_law_spoilt" s__law_spoilt f fd) : FnOk P w K mg base CX0 2 f fd ["p", "good", "cell"] (sp__law_spoilt K) := by
  refine F.ok S__law_spoilt (fun vs H Q E h => ?_) (fun cdv A outer s H vs Q E hr h => ?_)
  · obtain ⟨p, lo, cell, lf, lg, lh, f, g, h, a, rfl, _⟩ := h
    rfl
  obtain ⟨p, lo, cell, lf0, lg0, lh0, f, g, h, a, rfl, ko, kf0, kg0, kh0, hpp, G, bf, bg, bh, ha, q⟩ := h
  have S := S__law_spoilt
  have p2 := Dr.primes_ge hpp
  have hp : 2 ≤ p ∧ p < 1000 := by ((try clear ha kf0 kg0 kh0 ko); omega)
  have bp : Dr.Sm p 10 := sm_of 1000 (by ((try clear ha hp kf0 kg0 kh0 ko); omega)) (by decide)
  have may1 := G.may 1 (by decide)
  have lg2 := G.lg
  have lh2 := G.lh
  have lf2 := may1.lf
  have one : (1 : Int) % p ≠ 0 := Dr.one_mod hpp
  refine ⟨_, ((pss_cons (ps_asg (pe_lst (pa_cons (pe_callTy call_list_of rfl B.b_list L2.bt_list (pa_cons (pe_ix ix_list (pv 1) pe_int (fun _ _ => rfl)) pa_nil)) (pa_cons (pe_callTy call_list_of rfl B.b_list L2.bt_list (pa_cons (pe_ix ix_list (pv 1) pe_int (fun _ _ => rfl)) pa_nil)) (pa_cons (pe_callTy call_list_of rfl B.b_list L2.bt_list (pa_cons (pe_ix ix_list (pv 1) pe_int (fun _ _ => rfl)) pa_nil)) (pa_cons (pe_ix ix_list (pv 1) pe_int (fun _ _ => rfl)) pa_nil))))) (pg_lst rfl (pgs_cons (pg_name (i := 3) S.nd rfl (Or.inl rfl)) (pgs_cons (pg_name (i := 4) S.nd rfl (Or.inl rfl)) (pgs_cons (pg_name (i := 5) S.nd rfl (Or.inl rfl)) (pgs_cons (pg_name (i := 6) S.nd rfl (Or.inl rfl)) pgs_nil))))))
    (pss_cons (ps_set (i := 7) S.nd rfl (Or.inl rfl) (pe_op op_mod (pv 2) pe_int))
    (pss_cons (ps_set (i := 8) S.nd rfl (Or.inl rfl) (pe_op op_add pe_int (pe_op op_mod (pe_op op_fdivW (pv 2) pe_int) pe_int)))
    (pss_cons (ps_join (ps_if (pt_cmpR op_eq (pv 7) pe_int (nomark _)) (pss_one (ps_set (i := 8) S.nd rfl (Or.inl rfl) pe_int)) pss_nil))
    (pss_cons (ps_join (ps_if (pt_cmpR op_eq (pv 7) pe_int (nomark _)) (pss_cons (ps_set (i := 9) S.nd rfl (Or.inl rfl) (pe_op op_mod (pe_op op_fdivW (pv 2) pe_int) (pe_op op_sub (pe_callB call_len_seq rfl B.b_len PySem.boot_len (pa_cons (pv 3) pa_nil)) pe_int)))
    (pss_one (ps_asg (pe_op op_sub (pe_op op_add (pe_ix ix_list (pv 3) (pv 9) (fun _ _ => rfl)) pe_int) (pe_op op_mulW pe_int (pe_op op_mod (pe_op op_fdivW (pv 2) pe_int) pe_int))) (pg_sub (pv 3) (pv 9) set_list)))) pss_nil))
    (pss_cons (ps_join (ps_if (pt_cmpR op_eq (pv 7) pe_int (nomark _)) (pss_cons (ps_asg (pe_op op_add pe_int (pv 0)) (pg_sub (pv 3) (pe_un un_neg pe_int) set_list))
    (pss_one (ps_asg (pe_op op_add pe_int (pe_op op_mulW (pv 0) (pe_op op_mod (pe_op op_fdivW (pv 2) pe_int) pe_int))) (pg_sub (pv 4) (pe_un un_neg pe_int) set_list)))) pss_nil))
    (pss_cons (ps_join (ps_if (pt_cmpR op_eq (pv 7) pe_int (nomark _)) (pss_cons (ps_set (i := 10) S.nd rfl (Or.inl rfl) (pe_ix ix_list (pe_lst (pa_cons (pv 4) (pa_cons (pv 5) pa_nil))) (pe_op op_mod (pe_op op_fdivW (pv 2) pe_int) pe_int) (fun _ _ => rfl)))
    (pss_one (ps_asg (pe_op op_add pe_int (pe_op op_mulW (pv 0) (pe_op op_add pe_int (pe_op op_mod (pe_op op_fdivW (pv 2) pe_int) pe_int)))) (pg_sub (pv 10) (pe_un un_neg pe_int) set_list)))) pss_nil))
    (pss_cons (ps_join (ps_if (pt_cmpR op_eq (pv 7) pe_int (nomark _)) (pss_cons (ps_asg (pe_op op_sub pe_int pe_int) (pg_sub (pv 4) (pe_un un_neg pe_int) set_list))
    (pss_one (ps_asg (pe_op op_sub pe_int pe_int) (pg_sub (pv 5) (pe_un un_neg pe_int) set_list)))) pss_nil))
    (pss_cons (ps_join (ps_if (pt_cmpR op_eq (pv 7) pe_int (nomark _)) (pss_one (ps_set (i := 3) S.nd rfl (Or.inl rfl) (pe_op op_cat (pv 3) (pe_lst (pa_cons pe_int pa_nil))))) pss_nil))
    (pss_cons (ps_join (ps_if (pt_cmpR op_eq (pv 7) pe_int (nomark _)) (pss_one (ps_set (i := 3) S.nd rfl (Or.inl rfl) (pe_slice sl_list (pv 3) po_none (po_some (pe_un un_neg pe_int))))) pss_nil))
    (pss_cons (ps_join (ps_if (pt_cmpR op_eq (pv 7) pe_int (nomark _)) (pss_one (ps_asg (pe_ix ix_list (pe_lst (pa_cons (pe_lst (pa_cons (pe_callTy call_list_of rfl B.b_list L2.bt_list (pa_cons (pv 5) pa_nil)) (pa_cons (pe_lst (pa_cons pe_int pa_nil)) (pa_cons (pv 5) pa_nil)))) (pa_cons (pe_lst (pa_cons (pe_callTy call_list_of rfl B.b_list L2.bt_list (pa_cons (pv 4) pa_nil)) (pa_cons (pv 4) (pa_cons (pe_lst (pa_cons pe_int pa_nil)) pa_nil)))) pa_nil))) (pe_op op_mod (pe_op op_fdivW (pv 2) pe_int) pe_int) (fun _ _ => rfl)) (pg_lst rfl (pgs_cons (pg_name (i := 3) S.nd rfl (Or.inl rfl)) (pgs_cons (pg_name (i := 4) S.nd rfl (Or.inl rfl)) (pgs_cons (pg_name (i := 5) S.nd rfl (Or.inl rfl)) pgs_nil)))))) pss_nil))
    (pss_cons (ps_join (ps_if (pt_cmpR op_eq (pv 7) pe_int (nomark _)) (pss_cons (ps_set (i := 4) S.nd rfl (Or.inl rfl) (pe_def d__law_times hr rfl (pa_cons (pv 4) (pa_cons (pe_lst (pa_cons (pe_op op_sub pe_int (pv 6)) (pa_cons pe_int pa_nil))) pa_nil))))
    (pss_cons (ps_set (i := 5) S.nd rfl (Or.inl rfl) (pe_def d__law_times hr rfl (pa_cons (pv 5) (pa_cons (pe_lst (pa_cons (pe_op op_sub pe_int (pv 6)) (pa_cons pe_int pa_nil))) pa_nil))))
    (pss_one (ps_set (i := 3) S.nd rfl (Or.inl rfl) (pe_def d__law_times hr rfl (pa_cons (pv 4) (pa_cons (pv 5) pa_nil))))))) pss_nil))
    (pss_cons (ps_join (ps_if (pt_cmpR op_eq (pv 7) pe_int (nomark _)) (pss_one (ps_asg (pe_op op_add (pe_ix ix_list (pv 5) pe_int (fun _ _ => rfl)) pe_int) (pg_sub (pv 5) pe_int set_list))) pss_nil))
    (pss_one (ps_ret (pe_lst (pa_cons (pv 8) (pa_cons (pv 3) (pa_cons (pv 4) (pa_cons (pv 5) pa_nil))))))))))))))))))))), ?_⟩
  (try dsimp only); (first | refine hX _ _ ?_ | skip); (try dsimp only); (first | refine seqX (fun X hX => ?_) | skip); try walk_at "dr1"; (try simp only [sp__law_times]); try walk_at "dr1"
  refine ⟨_, SqL.of ko, _, atI_nat (j := 0) rfl, _, rfl, _, .inl (SqL.of kf0), ?_⟩
  intro lf n_lf; generalize e_lf : upd _ lf _ = H1; obtain ⟨g1, kf⟩ := newH e_lf n_lf; clear e_lf
  refine ⟨_, SqL.of (g1 _ _ ko), _, atI_nat (j := 1) rfl, _, rfl, _, .inl (SqL.of (g1 _ _ kg0)), ?_⟩
  intro lg n_lg; generalize e_lg : upd _ lg _ = H2; obtain ⟨g2, kg⟩ := newH e_lg n_lg; clear e_lg
  have G2 := g1.trans g2
  refine ⟨_, SqL.of (G2 _ _ ko), _, atI_nat (j := 2) rfl, _, rfl, _, .inl (SqL.of (G2 _ _ kh0)), ?_⟩
  intro lh n_lh; generalize e_lh : upd _ lh _ = H3; obtain ⟨g3, kh⟩ := newH e_lh n_lh; clear e_lh
  have G3 := G2.trans g3
  refine ⟨_, SqL.of (G3 _ _ ko), _, atI_nat (j := 3) rfl, by decide, ?_⟩
  intro l4 n_l4; generalize e_l4 : upd _ l4 _ = H4; obtain ⟨g4, k4⟩ := newH e_l4 n_l4; clear e_l4
  refine ⟨_, SqL.of k4, rfl, ?_⟩
  have kf4 := g4 _ _ (g3 _ _ (g2 _ _ kf))
  have kg4 := g4 _ _ (g3 _ _ kg)
  have kh4 := g4 _ _ kh
  have nfg : lf ≠ lg := fun z => by rw [z, n_lg] at kf; cases kf
  have nfh : lf ≠ lh := fun z => by have := g2 _ _ kf; rw [z, n_lh] at this; cases this
  have ngh : lg ≠ lh := fun z => by rw [z, n_lh] at kg; cases kg
  have n0g : H lg = none := g1.free n_lg
  have n0h : H lh = none := G2.free n_lh
  have G4 := G3.trans g4
  refine ⟨_, _, rfl, _, _, rfl, _, _, rfl, _, _, rfl, rfl, ?_⟩
  have hw := mod_in cell (show (0 : Int) < 10 by decide)
  have hN0 := mod_in (cell / 10) (show (0 : Int) < 9 by decide)
  (try dsimp only); (first | refine hX _ _ ?_ | skip); (try dsimp only); (first | refine seqX (fun X hX => ?_) | skip); try walk_at "dr1"; (try simp only [sp__law_times]); try walk_at "dr1"
  generalize cell % 10 = way at hw ⊢
  (try dsimp only); (first | refine hX _ _ ?_ | skip); (try dsimp only); (first | refine seqX (fun X hX => ?_) | skip); try walk_at "dr1"; (try simp only [sp__law_times]); try walk_at "dr1"
  refine ⟨⟨by decide, by decide⟩, ?_⟩
  have z : SpI H p lo cell a way f g h (-1) [some (.int p), some (.ref lo), some (.int cell), some (.ref lf), some (.ref lg), some (.ref lh), some (.int a), some (.int way), some (.int (1 + cell / 10 % 9)), none, none] H4 :=
    ⟨G4, _, lf, lg, lh, f, g, h, none, none, kf4, kg4, kh4, ⟨n_lf, n0g, n0h⟩, ⟨nfg, nfh, ngh⟩, by ((try clear hN0 ha hp hw k4 kf kf0 kf4 kg kg0 kg4 kh kh0 kh4 ko n0g n0h n_l4 n_lf n_lg n_lh nfg nfh ngh one p2); omega), ⟨fun x hx => (bf x hx).mono (by decide), fun x hx => (bg x hx).mono (by decide), fun x hx => (bh x hx).mono (by decide)⟩, by ((try clear ha hp hw k4 kf kf0 kf4 kg kg0 kg4 kh kh0 kh4 ko lf2 lg2 lh2 n0g n0h n_l4 n_lf n_lg n_lh nfg nfh ngh one p2); omega), fun _ => ⟨rfl, rfl, rfl, by ((try clear ha hp hw k4 kf kf0 kf4 kg kg0 kg4 kh kh0 kh4 ko lf2 lg2 lh2 n0g n0h n_l4 n_lf n_lg n_lh nfg nfh ngh one p2); omega)⟩, fun _ => by ((try clear hN0 ha hp k4 kf kf0 kf4 kg kg0 kg4 kh kh0 kh4 ko lf2 lg2 lh2 n0g n0h n_l4 n_lf n_lg n_lh nfg nfh ngh one p2); omega), rfl⟩
  revert z
  generalize [some (V.int p), some (.ref lo), some (.int cell), some (.ref lf), some (.ref lg), some (.ref lh), some (.int a), some (.int way), some (.int (1 + cell / 10 % 9)), none, none] = σ
  clear kf kg kh kf4 kg4 kh4 k4 nfg nfh ngh n0g n0h n_lf n_lg n_lh n_l4
  generalize H4 = H5
  intro z
  (first | refine hX _ _ ?_ | skip); refine seqJ (SpI H p lo cell a way f g h 0) ?_ ?_
  · have z0 := z
    obtain ⟨G5, N, lf, lg, lh, f', g', h', t9, t10, kf, kg, kh, n1, n2, l1, b1, hN, hgd, hbad, rfl⟩ := z
    (first | refine hX _ _ ?_ | skip); (try dsimp only); try (repeat (first | dsimp only [tSeq] | walk_at "dr1")); (try simp only [sp__law_times]); try (repeat (first | dsimp only [tSeq] | walk_at "dr1"))
    refine ite2 (fun c => ?_) fun c => z0.skip (by decide) c
    obtain ⟨e1, e2, e3, N1⟩ := hgd (by ((try clear b1 hN hN0 ha hp hw kf kf0 kg kg0 kh kh0 ko l1 lf2 lg2 lh2 n1 n2 one p2); omega))
    subst e1 e2 e3
    exact ⟨G5, 0, lf, lg, lh, f', g', h', t9, t10, kf, kg, kh, n1, n2, l1, b1, by decide, fun c => by ((try clear N1 b1 hN hN0 ha hp hw kf kf0 kg kg0 kh kh0 ko l1 lf2 lg2 lh2 n1 n2 one p2); omega), fun _ z => absurd z.1.n (by decide), rfl⟩
  clear z H5
  intro σ H5 z
  (first | refine hX _ _ ?_ | skip); refine seqJ (SpI H p lo cell a way f g h 1) ?_ ?_
  · have z0 := z
    obtain ⟨G5, N, lf, lg, lh, f', g', h', t9, t10, kf, kg, kh, n1, n2, l1, b1, hN, hgd, hbad, rfl⟩ := z
    (first | refine hX _ _ ?_ | skip); (try dsimp only); try (repeat (first | dsimp only [tSeq] | walk_at "dr1")); (try simp only [sp__law_times]); try (repeat (first | dsimp only [tSeq] | walk_at "dr1"))
    refine ite2 (fun c => ?_) fun c => z0.skip (by decide) c
    obtain ⟨e1, e2, e3, N1⟩ := hgd (by ((try clear b1 hN hN0 ha hp hw kf kf0 kg kg0 kh kh0 ko l1 lf2 lg2 lh2 n1 n2 one p2); omega))
    subst e1 e2 e3
    have mi := mod_in (cell / 90) (show 0 < (f'.length : Int) - 1 by ((try clear N1 b1 c hN hN0 ha hp hw kf kf0 kg kg0 kh kh0 ko n1 n2 one p2); omega))
    have m2 := mod_in (cell / 540) (show (0 : Int) < 2 by decide)
    obtain ⟨v, e1, e2, e3, _⟩ := get_int (fs := f') (k := cell / 90 % ((f'.length : Int) - 1)) mi.1 (by ((try clear N1 b1 c hN hN0 ha hp hw kf kf0 kg kg0 kh kh0 ko l1 lh2 m2 n1 n2 one p2); omega))
    refine ⟨⟨by decide, by decide⟩, _, .inl (SqL.of kf), ?_⟩
    rw [List.length_map]
    refine ⟨by ((try clear N1 b1 c e1 e2 e3 hN hN0 ha hp hw kf kf0 kg kg0 kh kh0 ko m2 mi n1 n2 one p2); omega), _, SqL.of kf, _, e2, _, rfl, ⟨by decide, by decide⟩, IntMulOk.of_left (by decide), _, kf, _, e3, ?_⟩
    rw [set_int, show v + 1 - 2 * (cell / 540 % 2) = v + (1 - 2 * (cell / 540 % 2)) by ((try clear N1 b1 c e1 e2 e3 hN hN0 ha hp hw kf kf0 kg kg0 kh kh0 ko l1 lf2 lg2 lh2 m2 mi n1 n2 one p2); omega)]
    have hd : (1 - 2 * (cell / 540 % 2)) % p ≠ 0 := by
      rcases (show cell / 540 % 2 = 0 ∨ cell / 540 % 2 = 1 by ((try clear N1 b1 c e1 e2 e3 hN hN0 ha hp hw kf kf0 kg kg0 kh kh0 ko l1 lf2 lg2 lh2 mi n1 n2 one p2); omega)) with e | e <;> rw [e]
      · exact one
      · intro z
        apply one
        have := Dr.dvd_mul_l (-1) z
        simpa using this
    have bv : Dr.Sm (v + (1 - 2 * (cell / 540 % 2))) 400 := ((bf v (List.mem_of_getElem? e1)).add (sm_of (k := 2) 1 (by ((try clear N1 b1 c e1 e2 e3 hN hN0 ha hd hp hw kf kf0 kg kg0 kh kh0 ko l1 lf2 lg2 lh2 mi n1 n2 one p2); omega)) (by decide))).mono (by decide)
    exact ⟨G5.up n1.1 _, N, lf, lg, lh, _, g', h', _, _, upd_same, by rw [upd_ne (Ne.symm n2.1)]; exact kg, by rw [upd_ne (Ne.symm n2.2.1)]; exact kh, n1, n2, by rw [List.length_set]; ((try clear N1 b1 c e1 e2 e3 hN hN0 ha hd hp hw kf kf0 kg kg0 kh kh0 ko lf2 lg2 lh2 m2 mi n1 n2 one p2); omega), ⟨pb_set b1.1 bv, b1.2.1, b1.2.2⟩, hN, fun c => by ((try clear N1 b1 e1 e2 e3 hN hN0 ha hd hp hw kf kf0 kg kg0 kh kh0 ko l1 lf2 lg2 lh2 m2 mi n1 n2 one p2); omega), fun _ z => G.put e1 hd N z.1, rfl⟩
  clear z H5
  intro σ H5 z
  (first | refine hX _ _ ?_ | skip); refine seqJ (SpI H p lo cell a way f g h 2) ?_ ?_
  · have z0 := z
    obtain ⟨G5, N, lf, lg, lh, f', g', h', t9, t10, kf, kg, kh, n1, n2, l1, b1, hN, hgd, hbad, rfl⟩ := z
    (first | refine hX _ _ ?_ | skip); (try dsimp only); try (repeat (first | dsimp only [tSeq] | walk_at "dr1")); (try simp only [sp__law_times]); try (repeat (first | dsimp only [tSeq] | walk_at "dr1"))
    refine ite2 (fun c => ?_) fun c => z0.skip (by decide) c
    obtain ⟨e1, e2, e3, N1⟩ := hgd (by ((try clear b1 hN hN0 ha hp hw kf kf0 kg kg0 kh kh0 ko l1 lf2 lg2 lh2 n1 n2 one p2); omega))
    subst e1 e2 e3
    have m2 := mod_in (cell / 90) (show (0 : Int) < 2 by decide)
    have bm : Dr.Sm (cell / 90 % 2) 1 := sm_of 1 (by ((try clear N1 b1 c hN hN0 ha hp hw kf kf0 kg kg0 kh kh0 ko l1 lf2 lg2 lh2 n1 n2 one p2); omega)) (by decide)
    refine ⟨_, kf, _, ixN_back (by rw [List.length_map]; ((try clear N1 b1 c hN hN0 ha hp hw kf kf0 kg kg0 kh kh0 ko m2 n1 n2 one p2); omega)), ⟨by decide, by decide⟩, mulSm bp bm (by decide), ?_⟩
    rw [upd_ne (Ne.symm n2.1)]
    refine ⟨_, kg, _, ixN_back (by rw [List.length_map]; ((try clear N1 b1 c hN hN0 ha hp hw kf kf0 kg kg0 kh kh0 ko l1 lf2 lh2 m2 n1 n2 one p2); omega)), ?_⟩
    rw [set_int, set_int, List.length_map, List.length_map]
    have tf : (f'.set (f'.length - 1) (1 + p)).getLast? = some (1 + p) := Dr.last_set (by ((try clear N1 b1 c hN hN0 ha hp hw kf kf0 kg kg0 kh kh0 ko m2 n1 n2 one p2); omega))
    refine ⟨(G5.up n1.1 _).up n1.2.1 _, N, lf, lg, lh, _, _, h', _, _, by rw [upd_ne n2.1]; exact upd_same, upd_same, by rw [upd_ne (Ne.symm n2.2.2), upd_ne (Ne.symm n2.2.1)]; exact kh, n1, n2, by simp only [List.length_set]; ((try clear N1 b1 c hN hN0 ha hp hw kf kf0 kg kg0 kh kh0 ko lf2 lg2 lh2 m2 n1 n2 one p2 tf); omega), ⟨pb_set b1.1 (sm_of (k := 400) 1001 (by ((try clear N1 b1 c hN hN0 ha hp hw kf kf0 kg kg0 kh kh0 ko l1 lf2 lg2 lh2 m2 n1 n2 one tf); omega)) (by decide)), pb_set b1.2.1 (((sm_of (k := 1) 1 (by decide) (by decide)).add (bp.mul bm)).mono (by decide)), b1.2.2⟩, hN, fun c => by ((try clear N1 b1 hN hN0 ha hp hw kf kf0 kg kg0 kh kh0 ko l1 lf2 lg2 lh2 m2 n1 n2 one p2 tf); omega), fun _ z => ?_, rfl⟩
    have := z.1.tf
    rw [tf] at this
    have := Option.some.inj this
    ((try clear N1 b1 c hN hN0 ha hp hw kf kf0 kg kg0 kh kh0 ko l1 lf2 lg2 lh2 m2 n1 n2 one tf z); omega)
  clear z H5
  intro σ H5 z
  (first | refine hX _ _ ?_ | skip); refine seqJ (SpI H p lo cell a way f g h 3) ?_ ?_
  · have z0 := z
    obtain ⟨G5, N, lf, lg, lh, f', g', h', t9, t10, kf, kg, kh, n1, n2, l1, b1, hN, hgd, hbad, rfl⟩ := z
    (first | refine hX _ _ ?_ | skip); (try dsimp only); try (repeat (first | dsimp only [tSeq] | walk_at "dr1")); (try simp only [sp__law_times]); try (repeat (first | dsimp only [tSeq] | walk_at "dr1"))
    refine ite2 (fun c => ?_) fun c => z0.skip (by decide) c
    obtain ⟨e1, e2, e3, N1⟩ := hgd (by ((try clear b1 hN hN0 ha hp hw kf kf0 kg kg0 kh kh0 ko l1 lf2 lg2 lh2 n1 n2 one p2); omega))
    subst e1 e2 e3
    have m2 := mod_in (cell / 270) (show (0 : Int) < 2 by decide)
    have m3 := mod_in (cell / 90) (show (0 : Int) < 3 by decide)
    have bm : Dr.Sm (1 + cell / 90 % 3) 2 := sm_of 3 (by ((try clear N1 b1 c hN hN0 ha hp hw kf kf0 kg kg0 kh kh0 ko l1 lf2 lg2 lh2 m2 n1 n2 one p2); omega)) (by decide)
    have bv : Dr.Sm (1 + p * (1 + cell / 90 % 3)) 400 := ((sm_of (k := 1) 1 (by decide) (by decide)).add (bp.mul bm)).mono (by decide)
    have nv : 1 + p * (1 + cell / 90 % 3) ≠ 1 := fun z => by
      have := Int.mul_pos (show 0 < p by ((try clear N1 b1 c hN hN0 ha hp hw kf kf0 kg kg0 kh kh0 ko l1 lf2 lg2 lh2 m2 m3 n1 n2 one z); omega)) (show 0 < 1 + cell / 90 % 3 by ((try clear N1 b1 c hN hN0 ha hp hw kf kf0 kg kg0 kh kh0 ko l1 lf2 lg2 lh2 m2 n1 n2 one p2 z); omega))
      ((try clear N1 b1 c hN hN0 ha hp hw kf kf0 kg kg0 kh kh0 ko l1 lf2 lg2 lh2 m2 m3 n1 n2 one p2); omega)
    refine ⟨by decide, ?_⟩
    intro l6 n_l6; generalize e_l6 : upd _ l6 _ = H6; obtain ⟨g6, k6⟩ := newH e_l6 n_l6; clear e_l6
    have G6 := G5.trans g6
    rcases (show cell / 270 % 2 = 0 ∨ cell / 270 % 2 = 1 by ((try clear N1 b1 c hN hN0 ha hp hw k6 kf kf0 kg kg0 kh kh0 ko l1 lf2 lg2 lh2 m3 n1 n2 n_l6 nv one p2); omega)) with e | e <;> rw [e]
    · refine ⟨⟨by decide, by decide⟩, _, SqL.of k6, _, atI_nat (j := 0) rfl, ⟨by decide, by decide⟩, mulSm bp bm (by decide), _, rfl, _, g6 _ _ kg, _, ixN_back (by rw [List.length_map]; ((try clear N1 b1 c e hN hN0 ha hp hw k6 kf kf0 kg kg0 kh kh0 ko l1 lf2 lh2 m2 m3 n1 n2 n_l6 nv one p2); omega)), ?_⟩
      rw [set_int, List.length_map]
      have tg : (g'.set (g'.length - 1) (1 + p * (1 + cell / 90 % 3))).getLast? = _ := Dr.last_set (by ((try clear N1 b1 c e hN hN0 ha hp hw k6 kf kf0 kg kg0 kh kh0 ko l1 lf2 lh2 m2 m3 n1 n2 n_l6 nv one p2); omega))
      refine ⟨G6.up n1.2.1 _, N, lf, lg, lh, f', _, h', _, _, by rw [upd_ne n2.1]; exact g6 _ _ kf, upd_same, by rw [upd_ne (Ne.symm n2.2.2)]; exact g6 _ _ kh, n1, n2, by simp only [List.length_set]; ((try clear N1 b1 c e hN hN0 ha hp hw k6 kf kf0 kg kg0 kh kh0 ko lf2 lg2 lh2 m2 m3 n1 n2 n_l6 nv one p2 tg); omega), ⟨b1.1, pb_set b1.2.1 bv, b1.2.2⟩, hN, fun c => by ((try clear N1 b1 e hN hN0 ha hp hw k6 kf kf0 kg kg0 kh kh0 ko l1 lf2 lg2 lh2 m2 m3 n1 n2 n_l6 nv one p2 tg); omega), fun _ z => ?_, rfl⟩
      have := z.1.tg
      rw [tg] at this
      exact nv (Option.some.inj this)
    · refine ⟨⟨by decide, by decide⟩, _, SqL.of k6, _, atI_nat (j := 1) rfl, ⟨by decide, by decide⟩, mulSm bp bm (by decide), _, rfl, _, g6 _ _ kh, _, ixN_back (by rw [List.length_map]; ((try clear N1 b1 c e hN hN0 ha hp hw k6 kf kf0 kg kg0 kh kh0 ko lf2 lg2 m2 m3 n1 n2 n_l6 nv one p2); omega)), ?_⟩
      rw [set_int, List.length_map]
      have th : (h'.set (h'.length - 1) (1 + p * (1 + cell / 90 % 3))).getLast? = _ := Dr.last_set (by ((try clear N1 b1 c e hN hN0 ha hp hw k6 kf kf0 kg kg0 kh kh0 ko lf2 lg2 m2 m3 n1 n2 n_l6 nv one p2); omega))
      refine ⟨G6.up n1.2.2 _, N, lf, lg, lh, f', g', _, _, _, by rw [upd_ne n2.2.1]; exact g6 _ _ kf, by rw [upd_ne n2.2.2]; exact g6 _ _ kg, upd_same, n1, n2, by simp only [List.length_set]; ((try clear N1 b1 c e hN hN0 ha hp hw k6 kf kf0 kg kg0 kh kh0 ko lf2 lg2 lh2 m2 m3 n1 n2 n_l6 nv one p2 th); omega), ⟨b1.1, b1.2.1, pb_set b1.2.2 bv⟩, hN, fun c => by ((try clear N1 b1 e hN hN0 ha hp hw k6 kf kf0 kg kg0 kh kh0 ko l1 lf2 lg2 lh2 m2 m3 n1 n2 n_l6 nv one p2 th); omega), fun _ z => ?_, rfl⟩
      have := z.1.th
      rw [th] at this
      exact nv (Option.some.inj this)
  clear z H5
  intro σ H5 z
  (first | refine hX _ _ ?_ | skip); refine seqJ (SpI H p lo cell a way f g h 4) ?_ ?_
  · have z0 := z
    obtain ⟨G5, N, lf, lg, lh, f', g', h', t9, t10, kf, kg, kh, n1, n2, l1, b1, hN, hgd, hbad, rfl⟩ := z
    (first | refine hX _ _ ?_ | skip); (try dsimp only); try (repeat (first | dsimp only [tSeq] | walk_at "dr1")); (try simp only [sp__law_times]); try (repeat (first | dsimp only [tSeq] | walk_at "dr1"))
    refine ite2 (fun c => ?_) fun c => z0.skip (by decide) c
    obtain ⟨e1, e2, e3, N1⟩ := hgd (by ((try clear b1 hN hN0 ha hp hw kf kf0 kg kg0 kh kh0 ko l1 lf2 lg2 lh2 n1 n2 one p2); omega))
    subst e1 e2 e3
    refine ⟨_, kg, _, ixN_back (by rw [List.length_map]; ((try clear N1 b1 c hN hN0 ha hp hw kf kf0 kg kg0 kh kh0 ko l1 lf2 lh2 n1 n2 one p2); omega)), ?_⟩
    rw [upd_ne (Ne.symm n2.2.2)]
    refine ⟨_, kh, _, ixN_back (by rw [List.length_map]; ((try clear N1 b1 c hN hN0 ha hp hw kf kf0 kg kg0 kh kh0 ko lf2 lg2 n1 n2 one p2); omega)), ?_⟩
    rw [set_int, set_int, List.length_map, List.length_map]
    have tg : (g'.set (g'.length - 1) (0 - 1)).getLast? = some (0 - 1) := Dr.last_set (by ((try clear N1 b1 c hN hN0 ha hp hw kf kf0 kg kg0 kh kh0 ko l1 lf2 lh2 n1 n2 one p2); omega))
    have bm : Dr.Sm (0 - 1) 400 := sm_of 1 (by decide) (by decide)
    refine ⟨(G5.up n1.2.1 _).up n1.2.2 _, N, lf, lg, lh, f', _, _, _, _, by rw [upd_ne n2.2.1, upd_ne n2.1]; exact kf, by rw [upd_ne n2.2.2]; exact upd_same, upd_same, n1, n2, by simp only [List.length_set]; ((try clear N1 b1 c hN hN0 ha hp hw kf kf0 kg kg0 kh kh0 ko lf2 lg2 lh2 n1 n2 one p2 tg); omega), ⟨b1.1, pb_set b1.2.1 bm, pb_set b1.2.2 bm⟩, hN, fun c => by ((try clear N1 b1 hN hN0 ha hp hw kf kf0 kg kg0 kh kh0 ko l1 lf2 lg2 lh2 n1 n2 one p2 tg); omega), fun _ z => ?_, rfl⟩
    have := z.1.tg
    rw [tg] at this
    exact absurd (Option.some.inj this) (by decide)
  clear z H5
  intro σ H5 z
  (first | refine hX _ _ ?_ | skip); refine seqJ (SpI H p lo cell a way f g h 5) ?_ ?_
  · have z0 := z
    obtain ⟨G5, N, lf, lg, lh, f', g', h', t9, t10, kf, kg, kh, n1, n2, l1, b1, hN, hgd, hbad, rfl⟩ := z
    (first | refine hX _ _ ?_ | skip); (try dsimp only); try (repeat (first | dsimp only [tSeq] | walk_at "dr1")); (try simp only [sp__law_times]); try (repeat (first | dsimp only [tSeq] | walk_at "dr1"))
    refine ite2 (fun c => ?_) fun c => z0.skip (by decide) c
    obtain ⟨e1, e2, e3, N1⟩ := hgd (by ((try clear b1 hN hN0 ha hp hw kf kf0 kg kg0 kh kh0 ko l1 lf2 lg2 lh2 n1 n2 one p2); omega))
    subst e1 e2 e3
    refine ⟨by decide, ?_⟩
    intro l6 n_l6; generalize e_l6 : upd _ l6 _ = H6; obtain ⟨g6, k6⟩ := newH e_l6 n_l6; clear e_l6
    refine ⟨_, g6 _ _ kf, _, k6, by simp only [List.length_map, List.length_cons, List.length_nil]; unfold sizeLine; ((try clear N1 b1 c hN hN0 ha hp hw k6 kf kf0 kg kg0 kh kh0 ko n1 n2 n_l6 one p2); omega), ?_⟩
    intro l7 n_l7; generalize e_l7 : upd _ l7 _ = H7; obtain ⟨g7, k7⟩ := newH e_l7 n_l7; clear e_l7
    have k7 : H7 l7 = some (.lst ((f' ++ [1]).map V.int)) := by rw [k7, List.map_append]; rfl
    have G7 := g6.trans g7
    have ne7 : ∀ {l : Addr} {o : HO}, H5 l = some o → l7 ≠ l := fun {l o} q z => by have := g6 _ _ q; rw [← z, n_l7] at this; cases this
    have n7 : H l7 = none := G5.free (g6.free n_l7)
    refine ⟨G5.trans G7, N, l7, lg, lh, _, g', h', _, _, k7, G7 _ _ kg, G7 _ _ kh, ⟨n7, n1.2⟩, ⟨ne7 kg, ne7 kh, n2.2.2⟩, by simp only [List.length_append, List.length_cons, List.length_nil]; ((try clear N1 b1 c hN hN0 ha hp hw k6 k7 kf kf0 kg kg0 kh kh0 ko n1 n2 n7 n_l6 n_l7 one p2); omega), ⟨fun x hx => ?_, b1.2⟩, hN, fun c => by ((try clear N1 b1 hN hN0 ha hp hw k6 k7 kf kf0 kg kg0 kh kh0 ko l1 lf2 lg2 lh2 n1 n2 n7 n_l6 n_l7 one p2); omega), fun _ z => ?_, rfl⟩
    · rcases List.mem_append.mp hx with w | w
      · exact b1.1 x w
      · rw [List.mem_singleton.mp w]; exact sm_of 1 (by decide) (by decide)
    · have := z.1.lf
      simp only [List.length_append, List.length_cons, List.length_nil] at this
      ((try clear N1 b1 c hN hN0 ha hp hw k6 k7 kf kf0 kg kg0 kh kh0 ko l1 lh2 n1 n2 n7 n_l6 n_l7 one p2 z); omega)
  clear z H5
  intro σ H5 z
  (first | refine hX _ _ ?_ | skip); refine seqJ (SpI H p lo cell a way f g h 6) ?_ ?_
  · have z0 := z
    obtain ⟨G5, N, lf, lg, lh, f', g', h', t9, t10, kf, kg, kh, n1, n2, l1, b1, hN, hgd, hbad, rfl⟩ := z
    (first | refine hX _ _ ?_ | skip); (try dsimp only); try (repeat (first | dsimp only [tSeq] | walk_at "dr1")); (try simp only [sp__law_times]); try (repeat (first | dsimp only [tSeq] | walk_at "dr1"))
    refine ite2 (fun c => ?_) fun c => z0.skip (by decide) c
    obtain ⟨e1, e2, e3, N1⟩ := hgd (by ((try clear b1 hN hN0 ha hp hw kf kf0 kg kg0 kh kh0 ko l1 lf2 lg2 lh2 n1 n2 one p2); omega))
    subst e1 e2 e3
    refine ⟨_, SqL.of kf, ?_⟩
    intro l6 n_l6; generalize e_l6 : upd _ l6 _ = H6; obtain ⟨g6, k6⟩ := newH e_l6 n_l6; clear e_l6
    rw [cut_init] at k6
    have ne6 : ∀ {l : Addr} {o : HO}, H5 l = some o → l6 ≠ l := fun {l o} q z => by rw [← z, n_l6] at q; cases q
    refine ⟨G5.trans g6, N, l6, lg, lh, _, g', h', _, _, k6, g6 _ _ kg, g6 _ _ kh, ⟨G5.free n_l6, n1.2⟩, ⟨ne6 kg, ne6 kh, n2.2.2⟩, by rw [List.length_dropLast]; ((try clear N1 b1 c hN hN0 ha hp hw k6 kf kf0 kg kg0 kh kh0 ko n1 n2 n_l6 one p2); omega), ⟨fun x hx => b1.1 x (List.dropLast_subset _ hx), b1.2⟩, hN, fun c => by ((try clear N1 b1 hN hN0 ha hp hw k6 kf kf0 kg kg0 kh kh0 ko l1 lf2 lg2 lh2 n1 n2 n_l6 one p2); omega), fun _ z => ?_, rfl⟩
    have := z.1.lf
    rw [List.length_dropLast] at this
    ((try clear N1 b1 c hN hN0 ha hp hw k6 kf kf0 kg kg0 kh kh0 ko n1 n2 n_l6 one p2 z); omega)
  clear z H5
  intro σ H5 z
  (first | refine hX _ _ ?_ | skip); refine seqJ (SpI H p lo cell a way f g h 7) ?_ ?_
  · have z0 := z
    obtain ⟨G5, N, lf, lg, lh, f', g', h', t9, t10, kf, kg, kh, n1, n2, l1, b1, hN, hgd, hbad, rfl⟩ := z
    (first | refine hX _ _ ?_ | skip); (try dsimp only); try (repeat (first | dsimp only [tSeq] | walk_at "dr1")); (try simp only [sp__law_times]); try (repeat (first | dsimp only [tSeq] | walk_at "dr1"))
    refine ite2 (fun c => ?_) fun c => z0.skip (by decide) c
    obtain ⟨e1, e2, e3, N1⟩ := hgd (by ((try clear b1 hN hN0 ha hp hw kf kf0 kg kg0 kh kh0 ko l1 lf2 lg2 lh2 n1 n2 one p2); omega))
    subst e1 e2 e3
    refine ⟨_, .inl (SqL.of kh), ?_⟩
    intro l6 n_l6; generalize e_l6 : upd _ l6 _ = H6; obtain ⟨g6, k6⟩ := newH e_l6 n_l6; clear e_l6
    refine ⟨by decide, ?_⟩
    intro l7 n_l7; generalize e_l7 : upd _ l7 _ = H7; obtain ⟨g7, k7⟩ := newH e_l7 n_l7; clear e_l7
    refine ⟨by decide, ?_⟩
    intro l8 n_l8; generalize e_l8 : upd _ l8 _ = H8; obtain ⟨g8, k8⟩ := newH e_l8 n_l8; clear e_l8
    have G8 := g6.trans (g7.trans g8)
    refine ⟨_, .inl (SqL.of (G8 _ _ kg)), ?_⟩
    intro l9 n_l9; generalize e_l9 : upd _ l9 _ = H9; obtain ⟨g9, k9⟩ := newH e_l9 n_l9; clear e_l9
    refine ⟨by decide, ?_⟩
    intro l10 n_l10; generalize e_l10 : upd _ l10 _ = H10; obtain ⟨g10, k10⟩ := newH e_l10 n_l10; clear e_l10
    refine ⟨by decide, ?_⟩
    intro l11 n_l11; generalize e_l11 : upd _ l11 _ = H11; obtain ⟨g11, k11⟩ := newH e_l11 n_l11; clear e_l11
    refine ⟨by decide, ?_⟩
    intro l12 n_l12; generalize e_l12 : upd _ l12 _ = H12; obtain ⟨g12, k12⟩ := newH e_l12 n_l12; clear e_l12
    have m2 := mod_in (cell / 90) (show (0 : Int) < 2 by decide)
    have k7' : H7 l7 = some (.lst (([1] : List Int).map V.int)) := k7
    have k10' : H10 l10 = some (.lst (([1] : List Int).map V.int)) := k10
    have one1 : Dr.PolyB [1] 400 := fun x hx => by rw [List.mem_singleton.mp hx]; exact sm_of 1 (by decide) (by decide)
    have G912 := g9.trans (g10.trans (g11.trans g12))
    have G12 := G8.trans G912
    rcases (show cell / 90 % 2 = 0 ∨ cell / 90 % 2 = 1 by ((try clear N1 b1 c hN hN0 ha hp hw k10 k10' k11 k12 k6 k7 k7' k8 k9 kf kf0 kg kg0 kh kh0 ko l1 lf2 lg2 lh2 n1 n2 n_l10 n_l11 n_l12 n_l6 n_l7 n_l8 n_l9 one p2); omega)) with e | e <;> rw [e]
    · refine ⟨⟨by decide, by decide⟩, _, SqL.of k12, _, atI_nat (j := 0) rfl, _, rfl, _, SqL.of (G912 _ _ k8), rfl, _, _, rfl, _, _, rfl, _, _, rfl, rfl, ?_⟩
      refine ⟨G5.trans G12, N, l6, l7, lh, h', [1], h', _, _, G912 _ _ (g8 _ _ (g7 _ _ k6)), G912 _ _ (g8 _ _ k7'), G12 _ _ kh, ⟨G5.free n_l6, G5.free (g6.free n_l7), n1.2.2⟩, ⟨fun z => ?_, fun z => ?_, fun z => ?_⟩, by simp only [List.length_cons, List.length_nil]; ((try clear N1 b1 c e hN hN0 ha hp hw k10 k10' k11 k12 k6 k7 k7' k8 k9 kf kf0 kg kg0 kh kh0 ko lf2 lg2 m2 n1 n2 n_l10 n_l11 n_l12 n_l6 n_l7 n_l8 n_l9 one p2); omega), ⟨b1.2.2, one1, b1.2.2⟩, hN, fun c => by ((try clear N1 b1 e hN hN0 ha hp hw k10 k10' k11 k12 k6 k7 k7' k8 k9 kf kf0 kg kg0 kh kh0 ko l1 lf2 lg2 lh2 m2 n1 n2 n_l10 n_l11 n_l12 n_l6 n_l7 n_l8 n_l9 one p2); omega), fun _ z => absurd z.1.lg (by decide), rfl⟩
      · rw [z, n_l7] at k6; cases k6
      · rw [z, kh] at n_l6; cases n_l6
      · have := g6 _ _ kh
        rw [← z, n_l7] at this
        cases this
    · refine ⟨⟨by decide, by decide⟩, _, SqL.of k12, _, atI_nat (j := 1) rfl, _, rfl, _, SqL.of (g12 _ _ k11), rfl, _, _, rfl, _, _, rfl, _, _, rfl, rfl, ?_⟩
      refine ⟨G5.trans G12, N, l9, lg, l10, g', g', [1], _, _, g12 _ _ (g11 _ _ (g10 _ _ k9)), G12 _ _ kg, g12 _ _ (g11 _ _ k10'), ⟨G5.free (G8.free n_l9), n1.2.1, G5.free (G8.free (g9.free n_l10))⟩, ⟨fun z => ?_, fun z => ?_, fun z => ?_⟩, by simp only [List.length_cons, List.length_nil]; ((try clear N1 b1 c e hN hN0 ha hp hw k10 k10' k11 k12 k6 k7 k7' k8 k9 kf kf0 kg kg0 kh kh0 ko l1 lf2 lh2 m2 n1 n2 n_l10 n_l11 n_l12 n_l6 n_l7 n_l8 n_l9 one p2); omega), ⟨b1.2.1, b1.2.1, one1⟩, hN, fun c => by ((try clear N1 b1 e hN hN0 ha hp hw k10 k10' k11 k12 k6 k7 k7' k8 k9 kf kf0 kg kg0 kh kh0 ko l1 lf2 lg2 lh2 m2 n1 n2 n_l10 n_l11 n_l12 n_l6 n_l7 n_l8 n_l9 one p2); omega), fun _ z => absurd z.1.lh (by decide), rfl⟩
      · have := G8 _ _ kg
        rw [← z, n_l9] at this
        cases this
      · rw [z, n_l10] at k9; cases k9
      · have := g9 _ _ (G8 _ _ kg)
        rw [z, n_l10] at this
        cases this
  clear z H5
  intro σ H5 z
  (first | refine hX _ _ ?_ | skip); refine seqJ (SpI H p lo cell a way f g h 8) ?_ ?_
  · have z0 := z
    obtain ⟨G5, N, lf, lg, lh, f', g', h', t9, t10, kf, kg, kh, n1, n2, l1, b1, hN, hgd, hbad, rfl⟩ := z
    (first | refine hX _ _ ?_ | skip); (try dsimp only); try (repeat (first | dsimp only [tSeq] | walk_at "dr1")); (try simp only [sp__law_times]); try (repeat (first | dsimp only [tSeq] | walk_at "dr1"))
    refine ite2 (fun c => ?_) fun c => z0.skip (by decide) c
    obtain ⟨e1, e2, e3, N1⟩ := hgd (by ((try clear b1 hN hN0 ha hp hw kf kf0 kg kg0 kh kh0 ko l1 lf2 lg2 lh2 n1 n2 one p2); omega))
    subst e1 e2 e3
    have bx : Dr.PolyB [0 - a, 1] 10 := pb_two (sm_of 1000 (by ((try clear N1 b1 c hN hN0 hp hw kf kf0 kg kg0 kh kh0 ko l1 lf2 lg2 lh2 n1 n2 one); omega)) (by decide)) (by decide)
    refine ⟨by decide, ?_⟩
    intro l6 n_l6; generalize e_l6 : upd _ l6 _ = H6; obtain ⟨g6, k6⟩ := newH e_l6 n_l6; clear e_l6
    have k6 : H6 l6 = some (.lst ([0 - a, 1].map V.int)) := k6
    refine ⟨_, SqL.of (g6 _ _ kg), _, SqL.of k6, by ((try clear N1 b1 c hN hN0 ha hp hw k6 kf kf0 kg kg0 kh kh0 ko l1 lf2 lh2 n1 n2 n_l6 one p2); omega), by ((try clear N1 b1 c hN hN0 ha hp hw k6 kf kf0 kg kg0 kh kh0 ko l1 lf2 lh2 n1 n2 n_l6 one p2); omega), by simp, by simp, 90, bg, 10, bx, by decide, by decide, fun lg3 g3 H7 hg bg3 n7 g7 k7 => ⟨by decide, ?_⟩⟩
    intro l8 n_l8; generalize e_l8 : upd _ l8 _ = H8; obtain ⟨g8, k8⟩ := newH e_l8 n_l8; clear e_l8
    have k8 : H8 l8 = some (.lst ([0 - a, 1].map V.int)) := k8
    have G8 := g6.trans (g7.trans g8)
    refine ⟨_, SqL.of (G8 _ _ kh), _, SqL.of k8, by ((try clear N1 b1 c hN hN0 ha hp hw k6 k7 k8 kf kf0 kg kg0 kh kh0 ko lf2 lg2 n1 n2 n7 n_l6 n_l8 one p2); omega), by ((try clear N1 b1 c hN hN0 ha hp hw k6 k7 k8 kf kf0 kg kg0 kh kh0 ko lf2 lg2 n1 n2 n7 n_l6 n_l8 one p2); omega), by simp, by simp, 90, bh, 10, bx, by decide, by decide, fun lh3 h3 H9 hh bh3 n9 g9 k9 => ?_⟩
    have k79 := g9 _ _ (g8 _ _ k7)
    have lg3' := hg.len
    have lh3' := hh.len
    simp only [List.length_cons, List.length_nil] at lg3' lh3'
    refine ⟨_, SqL.of k79, _, SqL.of k9, by ((try clear N1 b1 c hN hN0 ha hp hw k6 k7 k79 k8 k9 kf kf0 kg kg0 kh kh0 ko l1 lf2 lh2 lh3' n1 n2 n7 n9 n_l6 n_l8 one p2); omega), by ((try clear N1 b1 c hN hN0 ha hp hw k6 k7 k79 k8 k9 kf kf0 kg kg0 kh kh0 ko l1 lf2 lh2 lh3' n1 n2 n7 n9 n_l6 n_l8 one p2); omega), by ((try clear N1 b1 c hN hN0 ha hp hw k6 k7 k79 k8 k9 kf kf0 kg kg0 kh kh0 ko lf2 lg2 lg3' n1 n2 n7 n9 n_l6 n_l8 one p2); omega), by ((try clear N1 b1 c hN hN0 ha hp hw k6 k7 k79 k8 k9 kf kf0 kg kg0 kh kh0 ko lf2 lg2 lg3' n1 n2 n7 n9 n_l6 n_l8 one p2); omega), 112, bg3, 112, bh3, by decide, by decide, fun lf3 f3 H10 hf bf3 n10 g10 k10 => ?_⟩
    have lf3' := hf.len
    have G10 := G8.trans (g9.trans g10)
    have k710 := g10 _ _ k79
    have k910 := g10 _ _ k9
    refine ⟨G5.trans G10, N, lf3, lg3, lh3, f3, g3, h3, _, _, k10, k710, k910, ⟨G5.free (G8.free (g9.free n10)), G5.free (g6.free n7), G5.free (G8.free n9)⟩, ⟨fun z => ?_, fun z => ?_, fun z => ?_⟩, by ((try clear N1 b1 c hN hN0 ha hp hw k10 k6 k7 k710 k79 k8 k9 k910 kf kf0 kg kg0 kh kh0 ko lf2 n1 n10 n2 n7 n9 n_l6 n_l8 one p2); omega), ⟨fun x hx => (bf3 x hx).mono (by decide), fun x hx => (bg3 x hx).mono (by decide), fun x hx => (bh3 x hx).mono (by decide)⟩, hN, fun c => by ((try clear N1 b1 hN hN0 ha hp hw k10 k6 k7 k710 k79 k8 k9 k910 kf kf0 kg kg0 kh kh0 ko l1 lf2 lf3' lg2 lg3' lh2 lh3' n1 n10 n2 n7 n9 n_l6 n_l8 one p2); omega), fun _ z => Dr.both_bad hpp hg hh z.2, rfl⟩
    · rw [z, k79] at n10; cases n10
    · rw [z, k9] at n10; cases n10
    · have := g8 _ _ k7
      rw [z, n9] at this
      cases this
  clear z H5
  intro σ H5 z
  (first | refine hX _ _ ?_ | skip); refine seqJ (SpI H p lo cell a way f g h 9) ?_ ?_
  · have z0 := z
    obtain ⟨G5, N, lf, lg, lh, f', g', h', t9, t10, kf, kg, kh, n1, n2, l1, b1, hN, hgd, hbad, rfl⟩ := z
    (first | refine hX _ _ ?_ | skip); (try dsimp only); try (repeat (first | dsimp only [tSeq] | walk_at "dr1")); (try simp only [sp__law_times]); try (repeat (first | dsimp only [tSeq] | walk_at "dr1"))
    refine ite2 (fun c => ?_) fun c => z0.skip (by decide) c
    obtain ⟨e1, e2, e3, N1⟩ := hgd (by ((try clear b1 hN hN0 ha hp hw kf kf0 kg kg0 kh kh0 ko l1 lf2 lg2 lh2 n1 n2 one p2); omega))
    subst e1 e2 e3
    obtain ⟨v, e1, e2, e3, _⟩ := get_int (fs := h') (k := 0) (by decide) (by ((try clear N1 b1 c hN hN0 ha hp hw kf kf0 kg kg0 kh kh0 ko lf2 lg2 n1 n2 one p2); omega))
    have e1 : h'[0]? = some v := e1
    refine ⟨_, SqL.of kh, _, e2, _, rfl, _, kh, _, e3, ?_⟩
    rw [set_int]
    have bv : Dr.Sm (v + 1) 400 := ((bh v (List.mem_of_getElem? e1)).add (sm_of (k := 2) 1 (by decide) (by decide))).mono (by decide)
    exact ⟨G5.up n1.2.2 _, N, lf, lg, lh, f', g', _, _, _, by rw [upd_ne n2.2.1]; exact kf, by rw [upd_ne n2.2.2]; exact kg, upd_same, n1, n2, by rw [List.length_set]; ((try clear N1 b1 c e1 e2 e3 hN hN0 ha hp hw kf kf0 kg kg0 kh kh0 ko lf2 lg2 lh2 n1 n2 one p2); omega), ⟨b1.1, b1.2.1, pb_set b1.2.2 bv⟩, hN, fun c => by ((try clear N1 b1 e1 e2 e3 hN hN0 ha hp hw kf kf0 kg kg0 kh kh0 ko l1 lf2 lg2 lh2 n1 n2 one p2); omega), fun _ z => Dr.Good.first hpp G e1 N z.1, rfl⟩
  clear z H5
  intro σ H5 z
  obtain ⟨G5, N, lf, lg, lh, f', g', h', t9, t10, kf, kg, kh, n1, n2, l1, b1, hN, hgd, hbad, rfl⟩ := z
  (first | refine hX _ _ ?_ | skip); (try dsimp only); try (repeat (first | dsimp only [tSeq] | walk_at "dr1")); (try simp only [sp__law_times]); try (repeat (first | dsimp only [tSeq] | walk_at "dr1"))
  refine ⟨by decide, ?_⟩
  intro lR n_lR; generalize e_lR : upd _ lR _ = H6; obtain ⟨g6, kR⟩ := newH e_lR n_lR; clear e_lR
  exact q lR lf lg lh N f' g' h' H6 (G5.trans g6) kR (g6 _ _ kf) (g6 _ _ kg) (g6 _ _ kh) l1 b1 hN (hbad (by ((try clear b1 hN hN0 ha hp kR kf kf0 kg kg0 kh kh0 ko l1 lf2 lg2 lh2 n1 n2 n_lR one p2); omega)))
noncomputable def npK : List Bool := [true, true, false, false, false, false, false, false, false, false, false, false, false]
noncomputable def sp__law_kinds (K : PySem.W.Frag) : Sp := fun vs H Q _ => ∃ (p N : Int) (a b c : Addr) (f g h : List Int) (m : Nat), vs = [.int p, .int N, .ref a, .ref b, .ref c] ∧ SqL K H a (f.map V.int) ∧ SqL K H b (g.map V.int) ∧ SqL K H c (h.map V.int) ∧ (f.length ≤ 14 ∧ g.length ≤ 7 ∧ h.length ≤ 7) ∧ p ∈ Dr.primes ∧ N ≤ 60 ∧ Dr.PolyB f m ∧ Dr.PolyB g m ∧ Dr.PolyB h m ∧ m ≤ 10000 ∧
  ∀ (c : Addr) (bs : List Bool) (H' : Hp), Same H H' → H' c = some (.lst (bs.map V.bl)) → (Dr.May p N f g h ∧ Dr.Bez p g h → bs = []) → (¬ (Dr.May p N f g h ∧ Dr.Bez p g h) → bs = npK) → Q (.ref c) H'
theorem ok__law_kinds (B : Bi mg K) (d_parts_at : DefE P w K mg base "parts_at" 5 ["p", "N", "f", "g", "h"] (sp_parts_at K)) (F : Fun K "_law_kinds" "_law_kinds" s__law_kinds f fd) : FnOk P w K mg base CX0 6 f fd ["p", "N", "f", "g", "h"] (sp__law_kinds K) := by
  refine F.ok S__law_kinds (fun vs H Q E h => ?_) (fun cdv A outer s H vs Q E hr h => ?_)
  · obtain ⟨p, N, a, b, c, f, g, h, m, rfl, _⟩ := h
    rfl
  obtain ⟨p, N, a, b, c, f, g, h, m, rfl, hS, hS2, hS3, hl, hpp, hN, hf, hg, hh, hm, q⟩ := h
  have S := S__law_kinds
  refine ⟨_, ((pss_cons (ps_set (i := 5) S.nd rfl (Or.inl rfl) (pe_lst pa_nil))
    (pss_cons (ps_join (ps_tryAs rfl rfl rfl B.c_RestError S.nd (i := 6) rfl rfl (fun _ _ _ hx => (pss_one (ps_expr (pe_defX hx d_parts_at hr rfl (pa_cons (pv 0) (pa_cons (pv 1) (pa_cons (pv 2) (pa_cons (pv 3) (pa_cons (pv 4) pa_nil))))))))) (fun _ => (pss_cons (ps_set (i := 5) S.nd rfl (Or.inl rfl) (pe_lst (pa_cons (pe_callB (call_isiX (K := K) rfl) rfl B.b_isinstance L2.bt_isinstance (pa_cons (pv 6) (pa_cons (pe_glob (v := .ref _) rfl B.c_NoParts rfl) pa_nil))) (pa_cons (pe_callB (call_isiX (K := K) rfl) rfl B.b_isinstance L2.bt_isinstance (pa_cons (pv 6) (pa_cons (pe_bltn (v := .ty "ValueError") rfl B.b_ValueError L2.bt_ValueError rfl) pa_nil))) (pa_cons (pe_callB (call_isiX (K := K) rfl) rfl B.b_isinstance L2.bt_isinstance (pa_cons (pv 6) (pa_cons (pe_glob (v := .ref _) rfl B.c_NoBall rfl) pa_nil))) (pa_cons (pe_callB (call_isiX (K := K) rfl) rfl B.b_isinstance L2.bt_isinstance (pa_cons (pv 6) (pa_cons (pe_glob (v := .ref _) rfl B.c_NoDepth rfl) pa_nil))) pa_nil))))))
    (pss_cons (ps_set (i := 5) S.nd rfl (Or.inl rfl) (pe_op op_cat (pv 5) (pe_lst (pa_cons (pe_callB (call_isiX (K := K) rfl) rfl B.b_isinstance L2.bt_isinstance (pa_cons (pv 6) (pa_cons (pe_glob (v := .ref _) rfl B.c_NoInverse rfl) pa_nil))) (pa_cons (pe_callB (call_isiX (K := K) rfl) rfl B.b_isinstance L2.bt_isinstance (pa_cons (pv 6) (pa_cons (pe_glob (v := .ref _) rfl B.c_NoName rfl) pa_nil))) (pa_cons (pe_callB (call_isiX (K := K) rfl) rfl B.b_isinstance L2.bt_isinstance (pa_cons (pv 6) (pa_cons (pe_glob (v := .ref _) rfl B.c_NoPrime rfl) pa_nil))) pa_nil))))))
    (pss_cons (ps_set (i := 5) S.nd rfl (Or.inl rfl) (pe_op op_cat (pv 5) (pe_lst (pa_cons (pe_callB (call_isiX (K := K) rfl) rfl B.b_isinstance L2.bt_isinstance (pa_cons (pv 6) (pa_cons (pe_glob (v := .ref _) rfl B.c_NoRow rfl) pa_nil))) (pa_cons (pe_callB (call_isiX (K := K) rfl) rfl B.b_isinstance L2.bt_isinstance (pa_cons (pv 6) (pa_cons (pe_glob (v := .ref _) rfl B.c_NoSingle rfl) pa_nil))) (pa_cons (pe_callB (call_isiX (K := K) rfl) rfl B.b_isinstance L2.bt_isinstance (pa_cons (pv 6) (pa_cons (pe_glob (v := .ref _) rfl B.c_NoSmall rfl) pa_nil))) pa_nil))))))
    (pss_one (ps_set (i := 5) S.nd rfl (Or.inl rfl) (pe_op op_cat (pv 5) (pe_lst (pa_cons (pe_callB (call_isiX (K := K) rfl) rfl B.b_isinstance L2.bt_isinstance (pa_cons (pv 6) (pa_cons (pe_glob (v := .ref _) rfl B.c_NoText rfl) pa_nil))) (pa_cons (pe_callB (call_isiX (K := K) rfl) rfl B.b_isinstance L2.bt_isinstance (pa_cons (pv 6) (pa_cons (pe_glob (v := .ref _) rfl B.c_TooDeep rfl) pa_nil))) (pa_cons (pe_callB (call_isiX (K := K) rfl) rfl B.b_isinstance L2.bt_isinstance (pa_cons (pv 6) (pa_cons (pe_glob (v := .ref _) rfl B.c_TooGreat rfl) pa_nil))) pa_nil)))))))))))))
    (pss_one (ps_ret (pv 5)))))), ?_⟩
  (try dsimp only); (first | refine hX _ _ ?_ | skip); (try dsimp only); (first | refine seqX (fun X hX => ?_) | skip); try walk_at "dr1"; (try simp only [sp_parts_at]); try walk_at "dr1"
  refine ⟨by decide, ?_⟩
  intro l1 n_l1; generalize e_l1 : upd _ l1 _ = H1; obtain ⟨g1, k1⟩ := newH e_l1 n_l1; clear e_l1
  (first | refine hX _ _ ?_ | skip); refine seqI ?_
  obtain ⟨R, hR⟩ : ∃ R : St → Hp → Prop, ∀ σ' H2, R σ' H2 ↔ (Same H H2 ∧ ∃ (d : Addr) (bs : List Bool) (t4 : Option V), H2 d = some (.lst (bs.map V.bl)) ∧ (Dr.May p N f g h ∧ Dr.Bez p g h → bs = []) ∧ (¬ (Dr.May p N f g h ∧ Dr.Bez p g h) → bs = npK) ∧ σ' = [some (.int p), some (.int N), some (.ref a), some (.ref b), some (.ref c), some (.ref d), t4]) := ⟨_, fun _ _ => Iff.rfl⟩
  (first | refine hX _ _ ?_ | skip); refine joinB R ?_ ?_
  · (try dsimp only); (first | refine hX _ _ ?_ | skip); (try dsimp only); (first | refine seqX (fun X hX => ?_) | skip); try walk_at "dr1"; (try simp only [sp_parts_at]); try walk_at "dr1"
    refine ⟨f, g1.seq hS, g, g1.seq hS2, h, g1.seq hS3, by ((try clear hN hm k1 n_l1); omega), by ((try clear hN hm k1 n_l1); omega), by ((try clear hN hm k1 n_l1); omega), hpp, hN, m, hf, hg, hh, hm, fun hn H2 g2 => ⟨B.m_NoParts_RestError, _, rfl, fun ea n_ea => ?_⟩, fun t d e G J H2 may bez P nd ne de g2 kd ke kt => ?_⟩
    · generalize e_ea : upd _ ea _ = H3
      obtain ⟨g3, k3⟩ := newH e_ea n_ea
      clear e_ea
      (try dsimp only); (first | refine hX _ _ ?_ | skip); (try dsimp only); (first | refine seqX (fun X hX => ?_) | skip); try walk_at "dr1"; (try simp only [sp_parts_at]); try walk_at "dr1"
      refine ⟨_, k3, B.f_NoParts, _, B.i_NoParts_NoParts, _, k3, B.f_NoParts, _, B.i_NoParts_ValueError, _, k3, B.f_NoParts, _, B.i_NoParts_NoBall, _, k3, B.f_NoParts, _, B.i_NoParts_NoDepth, by decide, ?_⟩
      intro b1 n_b1; generalize e_b1 : upd _ b1 _ = H4; obtain ⟨g4, k4⟩ := newH e_b1 n_b1; clear e_b1
      (try dsimp only); (first | refine hX _ _ ?_ | skip); (try dsimp only); (first | refine seqX (fun X hX => ?_) | skip); try walk_at "dr1"; (try simp only [sp_parts_at]); try walk_at "dr1"
      refine ⟨_, (g4 _ _ k3), B.f_NoParts, _, B.i_NoParts_NoInverse, _, (g4 _ _ k3), B.f_NoParts, _, B.i_NoParts_NoName, _, (g4 _ _ k3), B.f_NoParts, _, B.i_NoParts_NoPrime, by decide, ?_⟩
      intro b2 n_b2; generalize e_b2 : upd _ b2 _ = H5; obtain ⟨g5, k5⟩ := newH e_b2 n_b2; clear e_b2
      refine ⟨_, g5 _ _ k4, _, k5, by decide, ?_⟩
      intro b3 n_b3; generalize e_b3 : upd _ b3 _ = H6; obtain ⟨g6, k6⟩ := newH e_b3 n_b3; clear e_b3
      have G6 := g4.trans (g5.trans g6)
      (try dsimp only); (first | refine hX _ _ ?_ | skip); (try dsimp only); (first | refine seqX (fun X hX => ?_) | skip); try walk_at "dr1"; (try simp only [sp_parts_at]); try walk_at "dr1"
      refine ⟨_, (G6 _ _ k3), B.f_NoParts, _, B.i_NoParts_NoRow, _, (G6 _ _ k3), B.f_NoParts, _, B.i_NoParts_NoSingle, _, (G6 _ _ k3), B.f_NoParts, _, B.i_NoParts_NoSmall, by decide, ?_⟩
      intro b4 n_b4; generalize e_b4 : upd _ b4 _ = H7; obtain ⟨g7, k7⟩ := newH e_b4 n_b4; clear e_b4
      refine ⟨_, g7 _ _ k6, _, k7, by decide, ?_⟩
      intro b5 n_b5; generalize e_b5 : upd _ b5 _ = H8; obtain ⟨g8, k8⟩ := newH e_b5 n_b5; clear e_b5
      have G8 := G6.trans (g7.trans g8)
      (try dsimp only); (first | refine hX _ _ ?_ | skip); (try dsimp only); (first | refine seqX (fun X hX => ?_) | skip); try walk_at "dr1"; (try simp only [sp_parts_at]); try walk_at "dr1"
      refine ⟨_, (G8 _ _ k3), B.f_NoParts, _, B.i_NoParts_NoText, _, (G8 _ _ k3), B.f_NoParts, _, B.i_NoParts_TooDeep, _, (G8 _ _ k3), B.f_NoParts, _, B.i_NoParts_TooGreat, by decide, ?_⟩
      intro b6 n_b6; generalize e_b6 : upd _ b6 _ = H9; obtain ⟨g9, k9⟩ := newH e_b6 n_b6; clear e_b6
      refine ⟨_, g9 _ _ k8, _, k9, by decide, ?_⟩
      intro b7 n_b7; generalize e_b7 : upd _ b7 _ = H10; obtain ⟨g10, k10⟩ := newH e_b7 n_b7; clear e_b7
      try dsimp only [Ends.gone]
      exact (hR _ _).mpr ⟨g1.trans (g2.trans (g3.trans (G8.trans (g9.trans g10)))), b7, npK, _, k10, fun z => absurd z hn, fun _ => rfl, rfl⟩
    · exact (hR _ _).mpr ⟨g1.trans g2, l1, [], _, g2 _ _ k1, fun _ => rfl, fun z => absurd ⟨may, bez⟩ z, rfl⟩
  intro σ' H2 z
  obtain ⟨g2, c, bs, t4, kc, h1, h2, rfl⟩ := (hR _ _).mp z
  clear hR z
  (first | refine hX _ _ ?_ | skip); (try dsimp only); try (repeat (first | dsimp only [tSeq] | walk_at "dr1")); (try simp only [sp_parts_at]); try (repeat (first | dsimp only [tSeq] | walk_at "dr1"))
  exact q c bs H2 g2 kc h1 h2
section
variable {K : PySem.W.Frag} {H : Hp} {l m a b c a' b' c' : Addr} {f g h : List Int} {Q : VK}
theorem three_dat (hl : H l = some (.lst [.ref a, .ref b, .ref c])) (ha : H a = some (.lst (f.map V.int))) (hb : H b = some (.lst (g.map V.int))) (hc : H c = some (.lst (h.map V.int))) : DatV K H (.ref l) (.list [.list (f.map .int), .list (g.map .int), .list (h.map .int)]) :=
  .lst (SqL.of hl) (.cons (.lst (SqL.of ha) (DatVs.ints f)) (.cons (.lst (SqL.of hb) (DatVs.ints g)) (.cons (.lst (SqL.of hc) (DatVs.ints h)) .nil)))
theorem three_sh (f g h : List Int) : SeqAt.shaped (.list [.list (f.map PyData.int), .list (g.map PyData.int), .list (h.map PyData.int)]) = true := by
  unfold SeqAt.shaped
  simp [PyData.canLay0, PyData.canLayAll0, PyData.depth, PyData.depthAll, canLay_ints, depth_ints]
theorem three_eq (f g h : List Int) : PyData.eqv (.list [.list (f.map PyData.int), .list (g.map PyData.int), .list (h.map PyData.int)]) (.list [.list (f.map PyData.int), .list (g.map PyData.int), .list (h.map PyData.int)]) = true := by
  simp only [PyData.eqv, PyData.eqvAll, eqvAll_ints]
  simp
theorem neLLL (hl : H l = some (.lst [.ref a, .ref b, .ref c])) (ha : H a = some (.lst (f.map V.int))) (hb : H b = some (.lst (g.map V.int))) (hc : H c = some (.lst (h.map V.int))) (hm : H m = some (.lst [.ref a', .ref b', .ref c'])) (ha' : H a' = some (.lst (f.map V.int))) (hb' : H b' = some (.lst (g.map V.int))) (hc' : H c' = some (.lst (h.map V.int))) (q : Q (.bl false) H) : rEqD K true (.ref l) (.ref m) H Q := by
  refine ⟨_, _, three_dat hl ha hb hc, three_dat hm ha' hb' hc', three_sh .., three_sh .., ?_⟩
  rw [if_pos rfl, three_eq]
  exact q
end
theorem neLB {K : PySem.W.Frag} {H : Hp} {a b : Addr} {Q : VK} (bs : List Bool) (h : SqL K H a (bs.map V.bl)) (h' : SqL K H b (bs.map V.bl)) (q : Q (.bl false) H) : rEqD K true (.ref a) (.ref b) H Q := by
  obtain ⟨d, e, h1, h2, h3, h4, h5⟩ := eqLB (Q := fun v _ => v = .bl true) bs h h' rfl
  refine ⟨d, e, h1, h2, h3, h4, ?_⟩
  rw [if_neg (by decide)] at h5
  have : PyData.eqv d e = true := by
    injection h5
  rw [if_pos rfl, this]
  exact q
theorem ok_law (B : Bi mg K) (d__law_cell_at : Def P w K mg base "_law_cell_at" 1 ["script", "k"] (sp__law_cell_at K)) (d__law_prime : Def P w K mg base "_law_prime" 1 ["cell"] (sp__law_prime K)) (d__law_good : Def P w K mg base "_law_good" 2 ["p", "cell", "other"] (sp__law_good K)) (d__law_spoilt : Def P w K mg base "_law_spoilt" 2 ["p", "good", "cell"] (sp__law_spoilt K)) (d__law_kinds : Def P w K mg base "_law_kinds" 6 ["p", "N", "f", "g", "h"] (sp__law_kinds K)) (F : Fun K "law" "law" s_law f fd) : FnOk P w K mg base CX0 7 f fd ["script"] (spLaw K) := by
  refine F.ok S_law (fun vs H Q E h => ?_) (fun cdv A outer s H vs Q E hr h => ?_)
  · obtain ⟨a, ns, rfl, _⟩ := h
    rfl
  obtain ⟨la, ns, rfl, hS, hl, hbits, q⟩ := h
  have S := S_law
  refine ⟨_, ((pss_cons (ps_set (i := 1) S.nd rfl (Or.inl rfl) (pe_def d__law_prime hr rfl (pa_cons (pe_def d__law_cell_at hr rfl (pa_cons (pv 0) (pa_cons pe_int pa_nil))) pa_nil)))
    (pss_cons (ps_for PassesOwn.never rfl (pi_range3 rfl B.b_range (pa_cons pe_int (pa_cons (pe_callB (call_max2 rfl) rfl B.b_max L2.bt_max (pa_cons pe_int (pa_cons (pe_callB (call_min2 rfl) rfl B.b_min L2.bt_min (pa_cons (pe_callB call_len_seq rfl B.b_len PySem.boot_len (pa_cons (pv 0) pa_nil)) (pa_cons pe_int pa_nil))) pa_nil))) (pa_cons pe_int pa_nil)))) (pg_name (i := 2) S.nd rfl (Or.inl rfl)) (pss_cons (ps_set (i := 3) S.nd rfl (Or.inl rfl) (pe_def d__law_good hr rfl (pa_cons (pv 1) (pa_cons (pe_def d__law_cell_at hr rfl (pa_cons (pv 0) (pa_cons (pv 2) pa_nil))) (pa_cons (pe_def d__law_cell_at hr rfl (pa_cons (pv 0) (pa_cons (pe_op op_add (pv 2) pe_int) pa_nil))) pa_nil)))))
    (pss_cons (ps_set (i := 4) S.nd rfl (Or.inl rfl) (pe_op op_add pe_int (pe_op op_mod (pe_def d__law_cell_at hr rfl (pa_cons (pv 0) (pa_cons (pe_op op_add (pv 2) pe_int) pa_nil))) pe_int)))
    (pss_cons (ps_set (i := 5) S.nd rfl (Or.inl rfl) (pe_lst (pa_cons (pe_callTy call_list_of rfl B.b_list L2.bt_list (pa_cons (pe_ix ix_list (pv 3) pe_int (fun _ _ => rfl)) pa_nil)) (pa_cons (pe_callTy call_list_of rfl B.b_list L2.bt_list (pa_cons (pe_ix ix_list (pv 3) pe_int (fun _ _ => rfl)) pa_nil)) (pa_cons (pe_callTy call_list_of rfl B.b_list L2.bt_list (pa_cons (pe_ix ix_list (pv 3) pe_int (fun _ _ => rfl)) pa_nil)) pa_nil)))))
    (pss_cons (ps_if (PW.pt (pw_or (pt_cmpR (op_neD hr.units) (pe_def d__law_kinds hr rfl (pa_cons (pv 1) (pa_cons (pv 4) (pa_cons (pe_ix ix_list (pv 5) pe_int (fun _ _ => rfl)) (pa_cons (pe_ix ix_list (pv 5) pe_int (fun _ _ => rfl)) (pa_cons (pe_ix ix_list (pv 5) pe_int (fun _ _ => rfl)) pa_nil)))))) (pe_lst pa_nil) (nomark _)) (pw_or1 (pt_cmpR (op_neD hr.units) (pv 5) (pe_slice sl_list (pv 3) po_none (po_some pe_int)) (nomark _))))) (pss_one (ps_ret pe_bl)) pss_nil)
    (pss_cons (ps_asg (pe_def d__law_spoilt hr rfl (pa_cons (pv 1) (pa_cons (pv 3) (pa_cons (pe_def d__law_cell_at hr rfl (pa_cons (pv 0) (pa_cons (pe_op op_add (pv 2) pe_int) pa_nil))) pa_nil)))) (pg_lst rfl (pgs_cons (pg_name (i := 6) S.nd rfl (Or.inl rfl)) (pgs_cons (pg_name (i := 7) S.nd rfl (Or.inl rfl)) (pgs_cons (pg_name (i := 8) S.nd rfl (Or.inl rfl)) (pgs_cons (pg_name (i := 9) S.nd rfl (Or.inl rfl)) pgs_nil))))))
    (pss_cons (ps_set (i := 5) S.nd rfl (Or.inl rfl) (pe_lst (pa_cons (pe_callTy call_list_of rfl B.b_list L2.bt_list (pa_cons (pv 7) pa_nil)) (pa_cons (pe_callTy call_list_of rfl B.b_list L2.bt_list (pa_cons (pv 8) pa_nil)) (pa_cons (pe_callTy call_list_of rfl B.b_list L2.bt_list (pa_cons (pv 9) pa_nil)) pa_nil)))))
    (pss_cons (ps_set (i := 10) S.nd rfl (Or.inl rfl) (pe_def d__law_kinds hr rfl (pa_cons (pv 1) (pa_cons (pv 6) (pa_cons (pe_ix ix_list (pv 5) pe_int (fun _ _ => rfl)) (pa_cons (pe_ix ix_list (pv 5) pe_int (fun _ _ => rfl)) (pa_cons (pe_ix ix_list (pv 5) pe_int (fun _ _ => rfl)) pa_nil)))))))
    (pss_one (ps_if (PW.pt (pw_or (pt_cmpR (op_neD hr.units) (pv 10) (pe_op op_cat (pe_lst (pa_cons pe_bl (pa_cons pe_bl pa_nil))) (pe_op op_rep (pe_lst (pa_cons pe_bl pa_nil)) pe_int)) (nomark _)) (pw_or1 (pt_cmpR (op_neD hr.units) (pv 5) (pe_lst (pa_cons (pv 7) (pa_cons (pv 8) (pa_cons (pv 9) pa_nil)))) (nomark _))))) (pss_one (ps_ret pe_bl)) pss_nil))))))))))
    (pss_one (ps_ret pe_bl))))), ?_⟩
  (try dsimp only); (first | refine hX _ _ ?_ | skip); (try dsimp only); (first | refine seqX (fun X hX => ?_) | skip); try walk_at "dr1"; (try simp only [sp__law_cell_at, sp__law_prime, sp__law_good, sp__law_spoilt, sp__law_kinds]); try walk_at "dr1"
  refine ⟨ns, hS, hl, fun p H1 hpp g1 => ?_⟩
  have p2 := Dr.primes_ge hpp
  (try dsimp only); (first | refine hX _ _ ?_ | skip); (try dsimp only); (first | refine seqX (fun X hX => ?_) | skip); try walk_at "dr1"; (try simp only [sp__law_cell_at, sp__law_prime, sp__law_good, sp__law_spoilt, sp__law_kinds]); try walk_at "dr1"
  refine ⟨_, .inl (g1.seq hS), ?_⟩
  rw [List.length_map]
  generalize eT : (if _ > (2 : Int) then _ else (2 : Int)) = T
  have bT : 2 ≤ T ∧ T ≤ 41 := by
    rw [← eT]
    split <;> split <;> ((try clear eT p2); omega)
  clear eT
  refine ⟨by decide, by decide, by ((try clear hl p2); omega), by ((try clear hl p2); omega), ?_⟩
  obtain ⟨Pv, hPv⟩ : ∃ Pv : Nat → St → Hp → Prop, ∀ i σ H2, Pv i σ H2 ↔ (Same H H2 ∧ ∃ (t2 t3 t4 t5 t6 t7 t8 t9 t10 : Option V), σ = [some (.ref la), some (.int p), t2, t3, t4, t5, t6, t7, t8, t9, t10]) := ⟨_, fun _ _ _ => Iff.rfl⟩
  (first | refine hX _ _ ?_ | skip); refine forC Pv ((hPv _ _ _).mpr ⟨g1, _, _, _, _, _, _, _, _, _, rfl⟩) ?_ (fun σ H' _ => ?_)
  case refine_2 =>
    (first | refine hX _ _ ?_ | skip); (try dsimp only); try (repeat (first | dsimp only [tSeq] | walk_at "dr1")); (try simp only [sp__law_cell_at, sp__law_prime, sp__law_good, sp__law_spoilt, sp__law_kinds]); try (repeat (first | dsimp only [tSeq] | walk_at "dr1"))
    exact q H'
  intro i σ H2 hi z
  refine byX fun X hX => ?_; obtain ⟨G2, t2, t3, t4, t5, t6, t7, t8, t9, t10, rfl⟩ := (hPv _ _ _).mp z; refine hX ?_; clear hX X
  have hS2 := G2.seq hS
  have hk : (0 : Int) ≤ 1 + (i : Int) * 4 ∧ (1 : Int) + (i : Int) * 4 < 60 := by
    have := turns_lt (by decide) hi
    ((try clear hi hl p2); omega)
  generalize (1 : Int) + (i : Int) * 4 = k at hk ⊢
  (try dsimp only); (first | refine hX _ _ ?_ | skip); (try dsimp only); (first | refine seqX (fun X hX => ?_) | skip); try walk_at "dr1"; (try simp only [sp__law_cell_at, sp__law_prime, sp__law_good, sp__law_spoilt, sp__law_kinds]); try walk_at "dr1"
  refine ⟨ns, hS2, hl, by ((try clear bT hi hl p2); omega), by ((try clear bT hi hl p2); omega), ns, hS2, hl, by ((try clear bT hi hl p2); omega), by ((try clear bT hi hl p2); omega), hpp, fun lo lf lg lh f g h a H3 Gd bf bg bh ha g3 ko kf kg kh => ?_⟩
  (try dsimp only); (first | refine hX _ _ ?_ | skip); (try dsimp only); (first | refine seqX (fun X hX => ?_) | skip); try walk_at "dr1"; (try simp only [sp__law_cell_at, sp__law_prime, sp__law_good, sp__law_spoilt, sp__law_kinds]); try walk_at "dr1"
  refine ⟨ns, g3.seq hS2, hl, by ((try clear bT ha hi hl kf kg kh ko p2); omega), by ((try clear bT ha hi hl kf kg kh ko p2); omega), ?_⟩
  have m9 := mod_in (cellz ns (k + 2)) (show (0 : Int) < 9 by decide)
  generalize cellz ns (k + 2) % 9 = dp at m9 ⊢
  (try dsimp only); (first | refine hX _ _ ?_ | skip); (try dsimp only); (first | refine seqX (fun X hX => ?_) | skip); try walk_at "dr1"; (try simp only [sp__law_cell_at, sp__law_prime, sp__law_good, sp__law_spoilt, sp__law_kinds]); try walk_at "dr1"
  refine ⟨_, SqL.of ko, _, atI_nat (j := 0) rfl, _, rfl, _, .inl (SqL.of kf), ?_⟩
  intro lA n_lA; generalize e_lA : upd _ lA _ = H4; obtain ⟨g4, kA⟩ := newH e_lA n_lA; clear e_lA
  refine ⟨_, SqL.of (g4 _ _ ko), _, atI_nat (j := 1) rfl, _, rfl, _, .inl (SqL.of (g4 _ _ kg)), ?_⟩
  intro lB n_lB; generalize e_lB : upd _ lB _ = H5; obtain ⟨g5, kB⟩ := newH e_lB n_lB; clear e_lB
  have g45 := g4.trans g5
  refine ⟨_, SqL.of (g45 _ _ ko), _, atI_nat (j := 2) rfl, _, rfl, _, .inl (SqL.of (g45 _ _ kh)), ?_⟩
  intro lC n_lC; generalize e_lC : upd _ lC _ = H6; obtain ⟨g6, kC⟩ := newH e_lC n_lC; clear e_lC
  refine ⟨by decide, ?_⟩
  intro lH n_lH; generalize e_lH : upd _ lH _ = H7; obtain ⟨g7, kH⟩ := newH e_lH n_lH; clear e_lH
  have g47 := g45.trans (g6.trans g7)
  have kA7 := g7 _ _ (g6 _ _ (g5 _ _ kA))
  have kB7 := g7 _ _ (g6 _ _ kB)
  have kC7 := g7 _ _ kC
  have ko7 := g47 _ _ ko
  have kf7 := g47 _ _ kf
  have kg7 := g47 _ _ kg
  have kh7 := g47 _ _ kh
  have may := Gd.may (1 + dp) (by ((try clear bT ha hi hk hl kA kA7 kB kB7 kC kC7 kH kf kf7 kg kg7 kh kh7 ko ko7 n_lA n_lB n_lC n_lH p2); omega))
  have lf2 := may.lf
  have lg2 := Gd.lg
  have lh2 := Gd.lh
  clear kA kB kC ko kf kg kh
  (try dsimp only); (first | refine hX _ _ ?_ | skip); (try dsimp only); (first | refine seqX (fun X hX => ?_) | skip); try walk_at "dr1"; (try simp only [sp__law_cell_at, sp__law_prime, sp__law_good, sp__law_spoilt, sp__law_kinds]); try walk_at "dr1"
  refine ⟨_, SqL.of kH, _, atI_nat (j := 0) rfl, _, SqL.of kH, _, atI_nat (j := 1) rfl, _, SqL.of kH, _, atI_nat (j := 2) rfl, _, rfl, _, rfl, _, rfl, f, SqL.of kA7, g, SqL.of kB7, h, SqL.of kC7, by ((try clear bT ha hi hk hl kA7 kB7 kC7 kH kf7 kg7 kh7 ko7 m9 n_lA n_lB n_lC n_lH p2); omega), by ((try clear bT ha hi hk hl kA7 kB7 kC7 kH kf7 kg7 kh7 ko7 lf2 lh2 m9 n_lA n_lB n_lC n_lH p2); omega), by ((try clear bT ha hi hk hl kA7 kB7 kC7 kH kf7 kg7 kh7 ko7 lf2 lg2 m9 n_lA n_lB n_lC n_lH p2); omega), hpp, by ((try clear bT ha hi hk hl kA7 kB7 kC7 kH kf7 kg7 kh7 ko7 lf2 lg2 lh2 n_lA n_lB n_lC n_lH p2); omega), 90, bf, bg, bh, by decide, fun c bs H8 g8 k8 e1 _ => ⟨by decide, ?_⟩⟩
  have e1 := e1 ⟨may, Gd.bez⟩
  subst e1
  intro l9 n_l9; generalize e_l9 : upd _ l9 _ = H9; obtain ⟨g9, k9⟩ := newH e_l9 n_l9; clear e_l9
  refine neLB [] (SqL.of (g9 _ _ k8)) (SqL.of k9) ⟨_, rfl, ?_⟩
  rw [if_neg (by decide)]
  have g89 := g8.trans g9
  refine ⟨_, SqL.of (g89 _ _ ko7), ?_⟩
  intro l10 n_l10; generalize e_l10 : upd _ l10 _ = H10; obtain ⟨g10, k10⟩ := newH e_l10 n_l10; clear e_l10
  have k10 : H10 l10 = some (.lst [.ref lf, .ref lg, .ref lh]) := k10
  have G10 := g89.trans g10
  refine neLLL (G10 _ _ kH) (G10 _ _ kA7) (G10 _ _ kB7) (G10 _ _ kC7) k10 (G10 _ _ kf7) (G10 _ _ kg7) (G10 _ _ kh7) ⟨_, rfl, ?_⟩
  rw [if_neg (by decide)]
  have G10' := G2.trans (g3.trans (g47.trans G10))
  have ko10 := G10 _ _ ko7
  have kf10 := G10 _ _ kf7
  have kg10 := G10 _ _ kg7
  have kh10 := G10 _ _ kh7
  clear kA7 kB7 kC7 kf7 kg7 kh7 ko7 k8 k9 k10 kH
  (try dsimp only); (first | refine hX _ _ ?_ | skip); (try dsimp only); (first | refine seqX (fun X hX => ?_) | skip); try walk_at "dr1"; (try simp only [sp__law_cell_at, sp__law_prime, sp__law_good, sp__law_spoilt, sp__law_kinds]); try walk_at "dr1"
  refine ⟨ns, G10'.seq hS, hl, by ((try clear bT ha hi hl k10 kf10 kg10 kh10 ko10 lf2 lg2 lh2 m9 n_l10 n_l9 n_lA n_lB n_lC n_lH p2); omega), by ((try clear bT ha hi hl k10 kf10 kg10 kh10 ko10 lf2 lg2 lh2 m9 n_l10 n_l9 n_lA n_lB n_lC n_lH p2); omega), lf, lg, lh, f, g, h, a, ko10, kf10, kg10, kh10, hpp, Gd, bf, bg, bh, ha.1, ha.2, fun c2 mf mg2 mh N f2 g2 h2 H11 g11 k11 kf2 kg2 kh2 l2 b2 hN bad => ?_⟩
  refine ⟨_, SqL.of k11, rfl, _, _, rfl, _, _, rfl, _, _, rfl, _, _, rfl, rfl, ?_⟩
  (try dsimp only); (first | refine hX _ _ ?_ | skip); (try dsimp only); (first | refine seqX (fun X hX => ?_) | skip); try walk_at "dr1"; (try simp only [sp__law_cell_at, sp__law_prime, sp__law_good, sp__law_spoilt, sp__law_kinds]); try walk_at "dr1"
  refine ⟨_, .inl (SqL.of kf2), ?_⟩
  intro nA n_nA; generalize e_nA : upd _ nA _ = H12; obtain ⟨g12, kA⟩ := newH e_nA n_nA; clear e_nA
  refine ⟨_, .inl (SqL.of (g12 _ _ kg2)), ?_⟩
  intro nB n_nB; generalize e_nB : upd _ nB _ = H13; obtain ⟨g13, kB⟩ := newH e_nB n_nB; clear e_nB
  have g123 := g12.trans g13
  refine ⟨_, .inl (SqL.of (g123 _ _ kh2)), ?_⟩
  intro nC n_nC; generalize e_nC : upd _ nC _ = H14; obtain ⟨g14, kC⟩ := newH e_nC n_nC; clear e_nC
  refine ⟨by decide, ?_⟩
  intro nH n_nH; generalize e_nH : upd _ nH _ = H15; obtain ⟨g15, kH⟩ := newH e_nH n_nH; clear e_nH
  have g125 := g123.trans (g14.trans g15)
  have kA7 := g15 _ _ (g14 _ _ (g13 _ _ kA))
  have kB7 := g15 _ _ (g14 _ _ kB)
  have kC7 := g15 _ _ kC
  have kf7 := g125 _ _ kf2
  have kg7 := g125 _ _ kg2
  have kh7 := g125 _ _ kh2
  (try dsimp only); (first | refine hX _ _ ?_ | skip); (try dsimp only); (first | refine seqX (fun X hX => ?_) | skip); try walk_at "dr1"; (try simp only [sp__law_cell_at, sp__law_prime, sp__law_good, sp__law_spoilt, sp__law_kinds]); try walk_at "dr1"
  refine ⟨_, SqL.of kH, _, atI_nat (j := 0) rfl, _, SqL.of kH, _, atI_nat (j := 1) rfl, _, SqL.of kH, _, atI_nat (j := 2) rfl, _, rfl, _, rfl, _, rfl, f2, SqL.of kA7, g2, SqL.of kB7, h2, SqL.of kC7, by ((try clear b2 bT bad hN ha hi hk hl k10 k11 kA kA7 kB kB7 kC kC7 kH kf10 kf2 kf7 kg10 kg2 kg7 kh10 kh2 kh7 ko10 lf2 lg2 lh2 m9 n_l10 n_l9 n_lA n_lB n_lC n_lH n_nA n_nB n_nC n_nH p2); omega), by ((try clear b2 bT bad hN ha hi hk hl k10 k11 kA kA7 kB kB7 kC kC7 kH kf10 kf2 kf7 kg10 kg2 kg7 kh10 kh2 kh7 ko10 lf2 lg2 lh2 m9 n_l10 n_l9 n_lA n_lB n_lC n_lH n_nA n_nB n_nC n_nH p2); omega), by ((try clear b2 bT bad hN ha hi hk hl k10 k11 kA kA7 kB kB7 kC kC7 kH kf10 kf2 kf7 kg10 kg2 kg7 kh10 kh2 kh7 ko10 lf2 lg2 lh2 m9 n_l10 n_l9 n_lA n_lB n_lC n_lH n_nA n_nB n_nC n_nH p2); omega), hpp, hN, 400, b2.1, b2.2.1, b2.2.2, by decide, fun c bs H16 g16 k16 _ e2 => ?_⟩
  have e2 := e2 bad
  subst e2
  (first | refine hX _ _ ?_ | skip); (try dsimp only); try (repeat (first | dsimp only [tSeq] | walk_at "dr1")); (try simp only [sp__law_cell_at, sp__law_prime, sp__law_good, sp__law_spoilt, sp__law_kinds]); try (repeat (first | dsimp only [tSeq] | walk_at "dr1"))
  refine ⟨by decide, ?_⟩
  intro d1 n_d1; generalize e_d1 : upd _ d1 _ = J1; obtain ⟨i1, w1⟩ := newH e_d1 n_d1; clear e_d1
  refine ⟨by decide, ?_⟩
  intro d2 n_d2; generalize e_d2 : upd _ d2 _ = J2; obtain ⟨i2, w2⟩ := newH e_d2 n_d2; clear e_d2
  refine ⟨_, w2, by decide, by decide, by decide, ?_⟩
  intro d3 n_d3; generalize e_d3 : upd _ d3 _ = J3; obtain ⟨i3, w3⟩ := newH e_d3 n_d3; clear e_d3
  refine ⟨_, i3 _ _ (i2 _ _ w1), _, w3, by decide, ?_⟩
  intro d4 n_d4; generalize e_d4 : upd _ d4 _ = J4; obtain ⟨i4, w4⟩ := newH e_d4 n_d4; clear e_d4
  have I4 := i1.trans (i2.trans (i3.trans i4))
  refine neLB npK (SqL.of (I4 _ _ k16)) (SqL.of w4) ⟨_, rfl, ?_⟩
  rw [if_neg (by decide)]
  refine ⟨by decide, ?_⟩
  intro d5 n_d5; generalize e_d5 : upd _ d5 _ = J5; obtain ⟨i5, w5⟩ := newH e_d5 n_d5; clear e_d5
  have I5 := g16.trans (I4.trans i5)
  refine neLLL (I5 _ _ kH) (I5 _ _ kA7) (I5 _ _ kB7) (I5 _ _ kC7) w5 (I5 _ _ kf7) (I5 _ _ kg7) (I5 _ _ kh7) ⟨_, rfl, ?_⟩
  rw [if_neg (by decide)]
  exact (hPv _ _ _).mpr ⟨G10'.trans (g11.trans (g125.trans I5)), _, _, _, _, _, _, _, _, _, rfl⟩
theorem all_mk {h : Heap} {fa f1 f2 f3 f4 f5 f6 f7 f8 f9 f10 f11 f12 f13 f14 f15 f16 f17 f18 f19 : Addr} (X : K.In h) (G : h.Ns mainGlobals mg) (hfa : mg "law" = some (.ref fa))
    {od1 an1 od2 an2 od3 an3 od4 an4 od5 an5 od6 an6 od7 an7 od8 an8 od9 an9 od10 an10 od11 an11 od12 an12 od13 an13 od14 an14 od15 an15 od16 an16 od17 an17 od18 an18 od19 an19 : Option Addr} {sl1 sl2 sl3 sl4 sl5 sl6 sl7 sl8 sl9 sl10 sl11 sl12 sl13 sl14 sl15 sl16 sl17 sl18 sl19 : Array (Option Value)} {oc1 kV1 dc1 pm1 cd1 ct1 oc2 kV2 dc2 pm2 cd2 ct2 oc3 kV3 dc3 pm3 cd3 ct3 oc4 kV4 dc4 pm4 cd4 ct4 oc5 kV5 dc5 pm5 cd5 ct5 oc6 kV6 dc6 pm6 cd6 ct6 oc7 kV7 dc7 pm7 cd7 ct7 oc8 kV8 dc8 pm8 cd8 ct8 oc9 kV9 dc9 pm9 cd9 ct9 oc10 kV10 dc10 pm10 cd10 ct10 oc11 kV11 dc11 pm11 cd11 ct11 oc12 kV12 dc12 pm12 cd12 ct12 oc13 kV13 dc13 pm13 cd13 ct13 oc14 kV14 dc14 pm14 cd14 ct14 oc15 kV15 dc15 pm15 cd15 ct15 oc16 kV16 dc16 pm16 cd16 ct16 oc17 kV17 dc17 pm17 cd17 ct17 oc18 kV18 dc18 pm18 cd18 ct18 oc19 kV19 dc19 pm19 cd19 ct19 : Value}
    (a1 : PySem.W.nsIn K mainGlobals "power_of" = some (some (.ref f1))) (l1 : K.lookup f1 = some ⟨oc1, od1, .func (PySem.W.fnOf "power_of" "power_of" (defArgs s_power_of) (defBody s_power_of) (defScope s_power_of) .none kV1 dc1 pm1 an1 cd1 ct1), sl1⟩) (c1 : PySem.W.codeIn K cd1 "power_of" = true) (k1 : PySem.W.keepIn K (.ref f1) = true)
    (a2 : PySem.W.nsIn K mainGlobals "inverse_by_prime" = some (some (.ref f2))) (l2 : K.lookup f2 = some ⟨oc2, od2, .func (PySem.W.fnOf "inverse_by_prime" "inverse_by_prime" (defArgs s_inverse_by_prime) (defBody s_inverse_by_prime) (defScope s_inverse_by_prime) .none kV2 dc2 pm2 an2 cd2 ct2), sl2⟩) (c2 : PySem.W.codeIn K cd2 "inverse_by_prime" = true) (k2 : PySem.W.keepIn K (.ref f2) = true)
    (a3 : PySem.W.nsIn K mainGlobals "inverse_of" = some (some (.ref f3))) (l3 : K.lookup f3 = some ⟨oc3, od3, .func (PySem.W.fnOf "inverse_of" "inverse_of" (defArgs s_inverse_of) (defBody s_inverse_of) (defScope s_inverse_of) .none kV3 dc3 pm3 an3 cd3 ct3), sl3⟩) (c3 : PySem.W.codeIn K cd3 "inverse_of" = true) (k3 : PySem.W.keepIn K (.ref f3) = true)
    (a4 : PySem.W.nsIn K mainGlobals "degree_of" = some (some (.ref f4))) (l4 : K.lookup f4 = some ⟨oc4, od4, .func (PySem.W.fnOf "degree_of" "degree_of" (defArgs s_degree_of) (defBody s_degree_of) (defScope s_degree_of) .none kV4 dc4 pm4 an4 cd4 ct4), sl4⟩) (c4 : PySem.W.codeIn K cd4 "degree_of" = true) (k4 : PySem.W.keepIn K (.ref f4) = true)
    (a5 : PySem.W.nsIn K mainGlobals "poly_product" = some (some (.ref f5))) (l5 : K.lookup f5 = some ⟨oc5, od5, .func (PySem.W.fnOf "poly_product" "poly_product" (defArgs s_poly_product) (defBody s_poly_product) (defScope s_poly_product) .none kV5 dc5 pm5 an5 cd5 ct5), sl5⟩) (c5 : PySem.W.codeIn K cd5 "poly_product" = true) (k5 : PySem.W.keepIn K (.ref f5) = true)
    (a6 : PySem.W.nsIn K mainGlobals "rests_of" = some (some (.ref f6))) (l6 : K.lookup f6 = some ⟨oc6, od6, .func (PySem.W.fnOf "rests_of" "rests_of" (defArgs s_rests_of) (defBody s_rests_of) (defScope s_rests_of) .none kV6 dc6 pm6 an6 cd6 ct6), sl6⟩) (c6 : PySem.W.codeIn K cd6 "rests_of" = true) (k6 : PySem.W.keepIn K (.ref f6) = true)
    (a7 : PySem.W.nsIn K mainGlobals "poly_difference" = some (some (.ref f7))) (l7 : K.lookup f7 = some ⟨oc7, od7, .func (PySem.W.fnOf "poly_difference" "poly_difference" (defArgs s_poly_difference) (defBody s_poly_difference) (defScope s_poly_difference) .none kV7 dc7 pm7 an7 cd7 ct7), sl7⟩) (c7 : PySem.W.codeIn K cd7 "poly_difference" = true) (k7 : PySem.W.keepIn K (.ref f7) = true)
    (a8 : PySem.W.nsIn K mainGlobals "divided_by_prime" = some (some (.ref f8))) (l8 : K.lookup f8 = some ⟨oc8, od8, .func (PySem.W.fnOf "divided_by_prime" "divided_by_prime" (defArgs s_divided_by_prime) (defBody s_divided_by_prime) (defScope s_divided_by_prime) .none kV8 dc8 pm8 an8 cd8 ct8), sl8⟩) (c8 : PySem.W.codeIn K cd8 "divided_by_prime" = true) (k8 : PySem.W.keepIn K (.ref f8) = true)
    (a9 : PySem.W.nsIn K mainGlobals "inverse_beside" = some (some (.ref f9))) (l9 : K.lookup f9 = some ⟨oc9, od9, .func (PySem.W.fnOf "inverse_beside" "inverse_beside" (defArgs s_inverse_beside) (defBody s_inverse_beside) (defScope s_inverse_beside) .none kV9 dc9 pm9 an9 cd9 ct9), sl9⟩) (c9 : PySem.W.codeIn K cd9 "inverse_beside" = true) (k9 : PySem.W.keepIn K (.ref f9) = true)
    (a10 : PySem.W.nsIn K mainGlobals "may_part" = some (some (.ref f10))) (l10 : K.lookup f10 = some ⟨oc10, od10, .func (PySem.W.fnOf "may_part" "may_part" (defArgs s_may_part) (defBody s_may_part) (defScope s_may_part) .none kV10 dc10 pm10 an10 cd10 ct10), sl10⟩) (c10 : PySem.W.codeIn K cd10 "may_part" = true) (k10 : PySem.W.keepIn K (.ref f10) = true)
    (a11 : PySem.W.nsIn K mainGlobals "raised" = some (some (.ref f11))) (l11 : K.lookup f11 = some ⟨oc11, od11, .func (PySem.W.fnOf "raised" "raised" (defArgs s_raised) (defBody s_raised) (defScope s_raised) .none kV11 dc11 pm11 an11 cd11 ct11), sl11⟩) (c11 : PySem.W.codeIn K cd11 "raised" = true) (k11 : PySem.W.keepIn K (.ref f11) = true)
    (a12 : PySem.W.nsIn K mainGlobals "parts_at" = some (some (.ref f12))) (l12 : K.lookup f12 = some ⟨oc12, od12, .func (PySem.W.fnOf "parts_at" "parts_at" (defArgs s_parts_at) (defBody s_parts_at) (defScope s_parts_at) .none kV12 dc12 pm12 an12 cd12 ct12), sl12⟩) (c12 : PySem.W.codeIn K cd12 "parts_at" = true) (k12 : PySem.W.keepIn K (.ref f12) = true)
    (a13 : PySem.W.nsIn K mainGlobals "_law_cell_at" = some (some (.ref f13))) (l13 : K.lookup f13 = some ⟨oc13, od13, .func (PySem.W.fnOf "_law_cell_at" "_law_cell_at" (defArgs s__law_cell_at) (defBody s__law_cell_at) (defScope s__law_cell_at) .none kV13 dc13 pm13 an13 cd13 ct13), sl13⟩) (c13 : PySem.W.codeIn K cd13 "_law_cell_at" = true) (k13 : PySem.W.keepIn K (.ref f13) = true)
    (a14 : PySem.W.nsIn K mainGlobals "_law_prime" = some (some (.ref f14))) (l14 : K.lookup f14 = some ⟨oc14, od14, .func (PySem.W.fnOf "_law_prime" "_law_prime" (defArgs s__law_prime) (defBody s__law_prime) (defScope s__law_prime) .none kV14 dc14 pm14 an14 cd14 ct14), sl14⟩) (c14 : PySem.W.codeIn K cd14 "_law_prime" = true) (k14 : PySem.W.keepIn K (.ref f14) = true)
    (a15 : PySem.W.nsIn K mainGlobals "_law_times" = some (some (.ref f15))) (l15 : K.lookup f15 = some ⟨oc15, od15, .func (PySem.W.fnOf "_law_times" "_law_times" (defArgs s__law_times) (defBody s__law_times) (defScope s__law_times) .none kV15 dc15 pm15 an15 cd15 ct15), sl15⟩) (c15 : PySem.W.codeIn K cd15 "_law_times" = true) (k15 : PySem.W.keepIn K (.ref f15) = true)
    (a16 : PySem.W.nsIn K mainGlobals "_law_good" = some (some (.ref f16))) (l16 : K.lookup f16 = some ⟨oc16, od16, .func (PySem.W.fnOf "_law_good" "_law_good" (defArgs s__law_good) (defBody s__law_good) (defScope s__law_good) .none kV16 dc16 pm16 an16 cd16 ct16), sl16⟩) (c16 : PySem.W.codeIn K cd16 "_law_good" = true) (k16 : PySem.W.keepIn K (.ref f16) = true)
    (a17 : PySem.W.nsIn K mainGlobals "_law_spoilt" = some (some (.ref f17))) (l17 : K.lookup f17 = some ⟨oc17, od17, .func (PySem.W.fnOf "_law_spoilt" "_law_spoilt" (defArgs s__law_spoilt) (defBody s__law_spoilt) (defScope s__law_spoilt) .none kV17 dc17 pm17 an17 cd17 ct17), sl17⟩) (c17 : PySem.W.codeIn K cd17 "_law_spoilt" = true) (k17 : PySem.W.keepIn K (.ref f17) = true)
    (a18 : PySem.W.nsIn K mainGlobals "_law_kinds" = some (some (.ref f18))) (l18 : K.lookup f18 = some ⟨oc18, od18, .func (PySem.W.fnOf "_law_kinds" "_law_kinds" (defArgs s__law_kinds) (defBody s__law_kinds) (defScope s__law_kinds) .none kV18 dc18 pm18 an18 cd18 ct18), sl18⟩) (c18 : PySem.W.codeIn K cd18 "_law_kinds" = true) (k18 : PySem.W.keepIn K (.ref f18) = true)
    (a19 : PySem.W.nsIn K mainGlobals "law" = some (some (.ref f19))) (l19 : K.lookup f19 = some ⟨oc19, od19, .func (PySem.W.fnOf "law" "law" (defArgs s_law) (defBody s_law) (defScope s_law) .none kV19 dc19 pm19 an19 cd19 ct19), sl19⟩) (c19 : PySem.W.codeIn K cd19 "law" = true) (k19 : PySem.W.keepIn K (.ref f19) = true)
    (z_ValueError : PySem.W.nsIn K mainGlobals "ValueError" = some none) (z_enumerate : PySem.W.nsIn K mainGlobals "enumerate" = some none) (z_isinstance : PySem.W.nsIn K mainGlobals "isinstance" = some none) (z_len : PySem.W.nsIn K mainGlobals "len" = some none) (z_list : PySem.W.nsIn K mainGlobals "list" = some none) (z_max : PySem.W.nsIn K mainGlobals "max" = some none) (z_min : PySem.W.nsIn K mainGlobals "min" = some none) (z_range : PySem.W.nsIn K mainGlobals "range" = some none) (z_zip : PySem.W.nsIn K mainGlobals "zip" = some none) {e_NoBall : Addr} (z_NoBall : PySem.W.nsIn K mainGlobals "NoBall" = some (some (.ref e_NoBall))) {e_NoDepth : Addr} (z_NoDepth : PySem.W.nsIn K mainGlobals "NoDepth" = some (some (.ref e_NoDepth))) {e_NoInverse : Addr} (z_NoInverse : PySem.W.nsIn K mainGlobals "NoInverse" = some (some (.ref e_NoInverse))) {e_NoName : Addr} (z_NoName : PySem.W.nsIn K mainGlobals "NoName" = some (some (.ref e_NoName))) {e_NoParts : Addr} (z_NoParts : PySem.W.nsIn K mainGlobals "NoParts" = some (some (.ref e_NoParts))) {e_NoPrime : Addr} (z_NoPrime : PySem.W.nsIn K mainGlobals "NoPrime" = some (some (.ref e_NoPrime))) {e_NoRow : Addr} (z_NoRow : PySem.W.nsIn K mainGlobals "NoRow" = some (some (.ref e_NoRow))) {e_NoSingle : Addr} (z_NoSingle : PySem.W.nsIn K mainGlobals "NoSingle" = some (some (.ref e_NoSingle))) {e_NoSmall : Addr} (z_NoSmall : PySem.W.nsIn K mainGlobals "NoSmall" = some (some (.ref e_NoSmall))) {e_NoText : Addr} (z_NoText : PySem.W.nsIn K mainGlobals "NoText" = some (some (.ref e_NoText))) {e_RestError : Addr} (z_RestError : PySem.W.nsIn K mainGlobals "RestError" = some (some (.ref e_RestError))) {e_TooDeep : Addr} (z_TooDeep : PySem.W.nsIn K mainGlobals "TooDeep" = some (some (.ref e_TooDeep))) {e_TooGreat : Addr} (z_TooGreat : PySem.W.nsIn K mainGlobals "TooGreat" = some (some (.ref e_TooGreat))) (x_NoParts : ExcK K e_NoParts) (m_NoParts_RestError : PySem.W.exmOne K (.ref e_NoParts) (.ref e_RestError) = some true) (f_NoParts : Xc.ExcC K e_NoParts) (i_NoParts_NoBall : PySem.W.kitOne K (.ref e_NoParts) (.ref e_NoBall) = some false) (i_NoParts_NoDepth : PySem.W.kitOne K (.ref e_NoParts) (.ref e_NoDepth) = some false) (i_NoParts_NoInverse : PySem.W.kitOne K (.ref e_NoParts) (.ref e_NoInverse) = some false) (i_NoParts_NoName : PySem.W.kitOne K (.ref e_NoParts) (.ref e_NoName) = some false) (i_NoParts_NoParts : PySem.W.kitOne K (.ref e_NoParts) (.ref e_NoParts) = some true) (i_NoParts_NoPrime : PySem.W.kitOne K (.ref e_NoParts) (.ref e_NoPrime) = some false) (i_NoParts_NoRow : PySem.W.kitOne K (.ref e_NoParts) (.ref e_NoRow) = some false) (i_NoParts_NoSingle : PySem.W.kitOne K (.ref e_NoParts) (.ref e_NoSingle) = some false) (i_NoParts_NoSmall : PySem.W.kitOne K (.ref e_NoParts) (.ref e_NoSmall) = some false) (i_NoParts_NoText : PySem.W.kitOne K (.ref e_NoParts) (.ref e_NoText) = some false) (i_NoParts_RestError : PySem.W.kitOne K (.ref e_NoParts) (.ref e_RestError) = some true) (i_NoParts_TooDeep : PySem.W.kitOne K (.ref e_NoParts) (.ref e_TooDeep) = some false) (i_NoParts_TooGreat : PySem.W.kitOne K (.ref e_NoParts) (.ref e_TooGreat) = some false) (i_NoParts_ValueError : PySem.W.kitOne K (.ref e_NoParts) (.type "ValueError") = some true) :
    ∃ fd : FuncData, (∀ (s : Shared) (v : Value), BindsTo s fd ⟨[v], []⟩ [("script", v)]) ∧ ∀ base : Heap, K.In base → base.Ns mainGlobals mg → FnOk P w K mg base CX0 7 fa fd ["script"] (spLaw K) := by
  have e := hfa.symm.trans (PySem.W.mg_of X G a19)
  cases e
  have F1 := fun_mk (st := s_power_of) l1 c1 k1
  have b1 := F1.binds (ps := ["p", "e"]) fun _ _ _ _ _ _ us hl => by obtain ⟨_, _, rfl⟩ := us2 hl; rfl
  have F2 := fun_mk (st := s_inverse_by_prime) l2 c2 k2
  have b2 := F2.binds (ps := ["p", "x"]) fun _ _ _ _ _ _ us hl => by obtain ⟨_, _, rfl⟩ := us2 hl; rfl
  have F3 := fun_mk (st := s_inverse_of) l3 c3 k3
  have b3 := F3.binds (ps := ["p", "e", "x"]) fun _ _ _ _ _ _ us hl => by obtain ⟨_, _, _, rfl⟩ := us3 hl; rfl
  have F4 := fun_mk (st := s_degree_of) l4 c4 k4
  have b4 := F4.binds (ps := ["f"]) fun _ _ _ _ _ _ us hl => by obtain ⟨_, rfl⟩ := us1 hl; rfl
  have F5 := fun_mk (st := s_poly_product) l5 c5 k5
  have b5 := F5.binds (ps := ["f", "g"]) fun _ _ _ _ _ _ us hl => by obtain ⟨_, _, rfl⟩ := us2 hl; rfl
  have F6 := fun_mk (st := s_rests_of) l6 c6 k6
  have b6 := F6.binds (ps := ["p", "f"]) fun _ _ _ _ _ _ us hl => by obtain ⟨_, _, rfl⟩ := us2 hl; rfl
  have F7 := fun_mk (st := s_poly_difference) l7 c7 k7
  have b7 := F7.binds (ps := ["f", "g"]) fun _ _ _ _ _ _ us hl => by obtain ⟨_, _, rfl⟩ := us2 hl; rfl
  have F8 := fun_mk (st := s_divided_by_prime) l8 c8 k8
  have b8 := F8.binds (ps := ["p", "f", "g"]) fun _ _ _ _ _ _ us hl => by obtain ⟨_, _, _, rfl⟩ := us3 hl; rfl
  have F9 := fun_mk (st := s_inverse_beside) l9 c9 k9
  have b9 := F9.binds (ps := ["p", "h", "g"]) fun _ _ _ _ _ _ us hl => by obtain ⟨_, _, _, rfl⟩ := us3 hl; rfl
  have F10 := fun_mk (st := s_may_part) l10 c10 k10
  have b10 := F10.binds (ps := ["p", "N", "f", "g", "h"]) fun _ _ _ _ _ _ us hl => by obtain ⟨_, _, _, _, _, rfl⟩ := us5 hl; rfl
  have F11 := fun_mk (st := s_raised) l11 c11 k11
  have b11 := F11.binds (ps := ["f", "power", "more"]) fun _ _ _ _ _ _ us hl => by obtain ⟨_, _, _, rfl⟩ := us3 hl; rfl
  have F12 := fun_mk (st := s_parts_at) l12 c12 k12
  have b12 := F12.binds (ps := ["p", "N", "f", "g", "h"]) fun _ _ _ _ _ _ us hl => by obtain ⟨_, _, _, _, _, rfl⟩ := us5 hl; rfl
  have F13 := fun_mk (st := s__law_cell_at) l13 c13 k13
  have b13 := F13.binds (ps := ["script", "k"]) fun _ _ _ _ _ _ us hl => by obtain ⟨_, _, rfl⟩ := us2 hl; rfl
  have F14 := fun_mk (st := s__law_prime) l14 c14 k14
  have b14 := F14.binds (ps := ["cell"]) fun _ _ _ _ _ _ us hl => by obtain ⟨_, rfl⟩ := us1 hl; rfl
  have F15 := fun_mk (st := s__law_times) l15 c15 k15
  have b15 := F15.binds (ps := ["f", "g"]) fun _ _ _ _ _ _ us hl => by obtain ⟨_, _, rfl⟩ := us2 hl; rfl
  have F16 := fun_mk (st := s__law_good) l16 c16 k16
  have b16 := F16.binds (ps := ["p", "cell", "other"]) fun _ _ _ _ _ _ us hl => by obtain ⟨_, _, _, rfl⟩ := us3 hl; rfl
  have F17 := fun_mk (st := s__law_spoilt) l17 c17 k17
  have b17 := F17.binds (ps := ["p", "good", "cell"]) fun _ _ _ _ _ _ us hl => by obtain ⟨_, _, _, rfl⟩ := us3 hl; rfl
  have F18 := fun_mk (st := s__law_kinds) l18 c18 k18
  have b18 := F18.binds (ps := ["p", "N", "f", "g", "h"]) fun _ _ _ _ _ _ us hl => by obtain ⟨_, _, _, _, _, rfl⟩ := us5 hl; rfl
  have F19 := fun_mk (st := s_law) l19 c19 k19
  have k_NoBall : clK K "NoBall" = e_NoBall := clK_of z_NoBall
  have k_NoDepth : clK K "NoDepth" = e_NoDepth := clK_of z_NoDepth
  have k_NoInverse : clK K "NoInverse" = e_NoInverse := clK_of z_NoInverse
  have k_NoName : clK K "NoName" = e_NoName := clK_of z_NoName
  have k_NoParts : clK K "NoParts" = e_NoParts := clK_of z_NoParts
  have k_NoPrime : clK K "NoPrime" = e_NoPrime := clK_of z_NoPrime
  have k_NoRow : clK K "NoRow" = e_NoRow := clK_of z_NoRow
  have k_NoSingle : clK K "NoSingle" = e_NoSingle := clK_of z_NoSingle
  have k_NoSmall : clK K "NoSmall" = e_NoSmall := clK_of z_NoSmall
  have k_NoText : clK K "NoText" = e_NoText := clK_of z_NoText
  have k_RestError : clK K "RestError" = e_RestError := clK_of z_RestError
  have k_TooDeep : clK K "TooDeep" = e_TooDeep := clK_of z_TooDeep
  have k_TooGreat : clK K "TooGreat" = e_TooGreat := clK_of z_TooGreat
  have B : Bi mg K := ⟨PySem.W.mg_none_of X G z_ValueError, PySem.W.mg_none_of X G z_enumerate, PySem.W.mg_none_of X G z_isinstance, PySem.W.mg_none_of X G z_len, PySem.W.mg_none_of X G z_list, PySem.W.mg_none_of X G z_max, PySem.W.mg_none_of X G z_min, PySem.W.mg_none_of X G z_range, PySem.W.mg_none_of X G z_zip, (by rw [k_NoBall]; exact PySem.W.mg_of X G z_NoBall), (by rw [k_NoDepth]; exact PySem.W.mg_of X G z_NoDepth), (by rw [k_NoInverse]; exact PySem.W.mg_of X G z_NoInverse), (by rw [k_NoName]; exact PySem.W.mg_of X G z_NoName), (by rw [k_NoParts]; exact PySem.W.mg_of X G z_NoParts), (by rw [k_NoPrime]; exact PySem.W.mg_of X G z_NoPrime), (by rw [k_NoRow]; exact PySem.W.mg_of X G z_NoRow), (by rw [k_NoSingle]; exact PySem.W.mg_of X G z_NoSingle), (by rw [k_NoSmall]; exact PySem.W.mg_of X G z_NoSmall), (by rw [k_NoText]; exact PySem.W.mg_of X G z_NoText), (by rw [k_RestError]; exact PySem.W.mg_of X G z_RestError), (by rw [k_TooDeep]; exact PySem.W.mg_of X G z_TooDeep), (by rw [k_TooGreat]; exact PySem.W.mg_of X G z_TooGreat), (by rw [k_NoParts]; exact x_NoParts), (by simp only [k_NoParts, k_RestError]; exact m_NoParts_RestError), (by rw [k_NoParts]; exact f_NoParts), (by simp only [k_NoParts, k_NoBall]; exact i_NoParts_NoBall), (by simp only [k_NoParts, k_NoDepth]; exact i_NoParts_NoDepth), (by simp only [k_NoParts, k_NoInverse]; exact i_NoParts_NoInverse), (by simp only [k_NoParts, k_NoName]; exact i_NoParts_NoName), (by simp only [k_NoParts]; exact i_NoParts_NoParts), (by simp only [k_NoParts, k_NoPrime]; exact i_NoParts_NoPrime), (by simp only [k_NoParts, k_NoRow]; exact i_NoParts_NoRow), (by simp only [k_NoParts, k_NoSingle]; exact i_NoParts_NoSingle), (by simp only [k_NoParts, k_NoSmall]; exact i_NoParts_NoSmall), (by simp only [k_NoParts, k_NoText]; exact i_NoParts_NoText), (by simp only [k_NoParts, k_RestError]; exact i_NoParts_RestError), (by simp only [k_NoParts, k_TooDeep]; exact i_NoParts_TooDeep), (by simp only [k_NoParts, k_TooGreat]; exact i_NoParts_TooGreat), (by simp only [k_NoParts]; exact i_NoParts_ValueError)⟩
  refine ⟨PySem.W.fnOf "law" "law" (defArgs s_law) (defBody s_law) (defScope s_law) .none kV19 dc19 pm19 an19 cd19 ct19, fun s v => .of_eq rfl, fun base _ _ => ?_⟩
  have D_power_of := def_mk (P := P) (w := w) (base := base) F1 (ok_power_of B  F1) b1 (PySem.W.mg_of X G a1)
  have D_inverse_by_prime := def_mk (P := P) (w := w) (base := base) F2 (ok_inverse_by_prime B  F2) b2 (PySem.W.mg_of X G a2)
  have D_degree_of := def_mk (P := P) (w := w) (base := base) F4 (ok_degree_of B  F4) b4 (PySem.W.mg_of X G a4)
  have D_poly_product := def_mk (P := P) (w := w) (base := base) F5 (ok_poly_product B  F5) b5 (PySem.W.mg_of X G a5)
  have D_rests_of := def_mk (P := P) (w := w) (base := base) F6 (ok_rests_of B  F6) b6 (PySem.W.mg_of X G a6)
  have D_poly_difference := def_mk (P := P) (w := w) (base := base) F7 (ok_poly_difference B  F7) b7 (PySem.W.mg_of X G a7)
  have D_raised := def_mk (P := P) (w := w) (base := base) F11 (ok_raised B  F11) b11 (PySem.W.mg_of X G a11)
  have D__law_cell_at := def_mk (P := P) (w := w) (base := base) F13 (ok__law_cell_at B  F13) b13 (PySem.W.mg_of X G a13)
  have D__law_prime := def_mk (P := P) (w := w) (base := base) F14 (ok__law_prime B  F14) b14 (PySem.W.mg_of X G a14)
  have D__law_times := def_mk (P := P) (w := w) (base := base) F15 (ok__law_times B  F15) b15 (PySem.W.mg_of X G a15)
  have D_inverse_of := def_mk (P := P) (w := w) (base := base) F3 (ok_inverse_of B D_power_of D_inverse_by_prime F3) b3 (PySem.W.mg_of X G a3)
  have D_may_part := def_mk (P := P) (w := w) (base := base) F10 (ok_may_part B D_degree_of D_poly_product D_rests_of D_poly_difference F10) b10 (PySem.W.mg_of X G a10)
  have D__law_good := def_mk (P := P) (w := w) (base := base) F16 (ok__law_good B D__law_times F16) b16 (PySem.W.mg_of X G a16)
  have D__law_spoilt := def_mk (P := P) (w := w) (base := base) F17 (ok__law_spoilt B D__law_times F17) b17 (PySem.W.mg_of X G a17)
  have D_divided_by_prime := def_mk (P := P) (w := w) (base := base) F8 (ok_divided_by_prime B D_inverse_of D_degree_of D_rests_of F8) b8 (PySem.W.mg_of X G a8)
  have D_inverse_beside := def_mk (P := P) (w := w) (base := base) F9 (ok_inverse_beside B D_inverse_of D_degree_of D_poly_product D_rests_of D_poly_difference D_divided_by_prime F9) b9 (PySem.W.mg_of X G a9)
  have D_parts_at := defE_mk (P := P) (w := w) (base := base) F12 (ok_parts_at B D_poly_product D_rests_of D_poly_difference D_divided_by_prime D_inverse_beside D_may_part D_raised F12) b12 (PySem.W.mg_of X G a12)
  have D__law_kinds := def_mk (P := P) (w := w) (base := base) F18 (ok__law_kinds B D_parts_at F18) b18 (PySem.W.mg_of X G a18)
  exact ok_law B D__law_cell_at D__law_prime D__law_good D__law_spoilt D__law_kinds F19
theorem k_dec : @instDecidableEqStr = @instDecidableEqStr := rfl
set_option maxHeartbeats 0 in
noncomputable def kH : Params → PySem.W.Frag := fun P => (fun (_ : @instDecidableEqStr = @instDecidableEqStr) =>
(nat_lit 2, { cls := Value.none, data := Data.dict #[] }) ::
(nat_lit 3, { cls := Value.type "dict", data := Data.dict #[{ hash := PyData.keyHash P "__name__", key := Value.str "__name__" 165, val := Value.str "law_deeprests_k73_no_parts" 526 }, { hash := PyData.keyHash P "__doc__", key := Value.str "__doc__" 166, val := Value.none }, { hash := PyData.keyHash P "__package__", key := Value.str "__package__" 167, val := Value.none }, { hash := PyData.keyHash P "__loader__", key := Value.str "__loader__" 168, val := Value.builtin "__main__.__loader__#opaque" }, { hash := PyData.keyHash P "__spec__", key := Value.str "__spec__" 169, val := Value.none }, { hash := PyData.keyHash P "__annotations__", key := Value.str "__annotations__" 170, val := Value.ref 6 }, { hash := PyData.keyHash P "__builtins__", key := Value.str "__builtins__" 171, val := Value.ref 4 }, { hash := PyData.keyHash P "__file__", key := Value.str "__file__" 173, val := Value.str "/claim/cut.py" 172 }, { hash := PyData.keyHash P "__cached__", key := Value.str "__cached__" 174, val := Value.none }, { hash := PyData.keyHash P "RestError", key := Value.str "RestError" 206, val := Value.ref 24 }, { hash := PyData.keyHash P "NoDepth", key := Value.str "NoDepth" 222, val := Value.ref 37 }, { hash := PyData.keyHash P "NoInverse", key := Value.str "NoInverse" 238, val := Value.ref 49 }, { hash := PyData.keyHash P "NoBall", key := Value.str "NoBall" 254, val := Value.ref 61 }, { hash := PyData.keyHash P "NoSingle", key := Value.str "NoSingle" 270, val := Value.ref 73 }, { hash := PyData.keyHash P "TooDeep", key := Value.str "TooDeep" 286, val := Value.ref 85 }, { hash := PyData.keyHash P "NoSmall", key := Value.str "NoSmall" 302, val := Value.ref 97 }, { hash := PyData.keyHash P "NoParts", key := Value.str "NoParts" 318, val := Value.ref 109 }, { hash := PyData.keyHash P "NoPrime", key := Value.str "NoPrime" 334, val := Value.ref 121 }, { hash := PyData.keyHash P "NoText", key := Value.str "NoText" 350, val := Value.ref 133 }, { hash := PyData.keyHash P "NoName", key := Value.str "NoName" 366, val := Value.ref 145 }, { hash := PyData.keyHash P "NoRow", key := Value.str "NoRow" 382, val := Value.ref 157 }, { hash := PyData.keyHash P "TooGreat", key := Value.str "TooGreat" 398, val := Value.ref 169 }, { hash := PyData.keyHash P "power_of", key := Value.str "power_of" 410, val := Value.ref 178 }, { hash := PyData.keyHash P "inverse_by_prime", key := Value.str "inverse_by_prime" 416, val := Value.ref 183 }, { hash := PyData.keyHash P "inverse_of", key := Value.str "inverse_of" 428, val := Value.ref 190 }, { hash := PyData.keyHash P "degree_of", key := Value.str "degree_of" 440, val := Value.ref 197 }, { hash := PyData.keyHash P "poly_product", key := Value.str "poly_product" 453, val := Value.ref 204 }, { hash := PyData.keyHash P "rests_of", key := Value.str "rests_of" 461, val := Value.ref 209 }, { hash := PyData.keyHash P "poly_difference", key := Value.str "poly_difference" 473, val := Value.ref 216 }, { hash := PyData.keyHash P "divided_by_prime", key := Value.str "divided_by_prime" 489, val := Value.ref 223 }, { hash := PyData.keyHash P "inverse_beside", key := Value.str "inverse_beside" 502, val := Value.ref 230 }, { hash := PyData.keyHash P "may_part", key := Value.str "may_part" 513, val := Value.ref 237 }, { hash := PyData.keyHash P "raised", key := Value.str "raised" 519, val := Value.ref 242 }, { hash := PyData.keyHash P "parts_at", key := Value.str "parts_at" 525, val := Value.ref 247 }, { hash := PyData.keyHash P "_law_cell_at", key := Value.str "_law_cell_at" 535, val := Value.ref 254 }, { hash := PyData.keyHash P "_law_prime", key := Value.str "_law_prime" 543, val := Value.ref 261 }, { hash := PyData.keyHash P "_law_times", key := Value.str "_law_times" 554, val := Value.ref 268 }, { hash := PyData.keyHash P "_law_good", key := Value.str "_law_good" 560, val := Value.ref 273 }, { hash := PyData.keyHash P "_law_spoilt", key := Value.str "_law_spoilt" 577, val := Value.ref 280 }, { hash := PyData.keyHash P "_law_kinds", key := Value.str "_law_kinds" 590, val := Value.ref 287 }, { hash := PyData.keyHash P "law", key := Value.str "law" 607, val := Value.ref 294 }] 41 }) ::
(nat_lit 15, { cls := Value.type "tuple", data := Data.seq #[Value.type "ValueError"] }) ::
(nat_lit 22, { cls := Value.type "tuple", data := Data.seq #[] }) ::
(nat_lit 23, { cls := Value.type "dict", data := Data.dict #[{ hash := PyData.keyHash P "__module__", key := Value.str "__module__" 196, val := Value.str "deeprests.errors" 187 }, { hash := PyData.keyHash P "__firstlineno__", key := Value.str "__firstlineno__" 200, val := Value.int 2 199 }, { hash := PyData.keyHash P "__static_attributes__", key := Value.str "__static_attributes__" 201, val := Value.ref 22 }, { hash := PyData.keyHash P "__weakref__", key := Value.str "__weakref__" 203, val := Value.ref 25 }, { hash := PyData.keyHash P "__doc__", key := Value.str "__doc__" 204, val := Value.none }] 3 }) ::
(nat_lit 24, { cls := Value.type "type", data := Data.cls { name := "RestError", bases := [Value.type "ValueError"], mro := [Value.ref 24, Value.type "ValueError", Value.type "Exception", Value.type "BaseException", Value.type "object"], ns := 23, qualname := "RestError", subclasses := [Value.ref 37, Value.ref 49, Value.ref 61, Value.ref 73, Value.ref 85, Value.ref 97, Value.ref 109, Value.ref 121, Value.ref 133, Value.ref 145, Value.ref 157, Value.ref 169] }, slots := #[Option.some (Value.ref 15), Option.none, Option.some (Value.str "RestError" 189), Option.some (Value.str "RestError" 197), Option.some (Value.builtin "ValueError.__new__"), Option.some (Value.bool Bool.true)] }) ::
(nat_lit 25, { cls := Value.type "getset_descriptor", data := Data.fields #[Value.str "__weakref__" 202, Value.ref 24, Value.builtin "ExceptionGroup.__weakref__", Value.none] }) ::
(nat_lit 28, { cls := Value.type "tuple", data := Data.seq #[Value.ref 24] }) ::
(nat_lit 35, { cls := Value.type "tuple", data := Data.seq #[] }) ::
(nat_lit 36, { cls := Value.type "dict", data := Data.dict #[{ hash := PyData.keyHash P "__module__", key := Value.str "__module__" 214, val := Value.str "deeprests.errors" 187 }, { hash := PyData.keyHash P "__firstlineno__", key := Value.str "__firstlineno__" 218, val := Value.int 4 217 }, { hash := PyData.keyHash P "__static_attributes__", key := Value.str "__static_attributes__" 219, val := Value.ref 35 }, { hash := PyData.keyHash P "__doc__", key := Value.str "__doc__" 220, val := Value.none }] 2 }) ::
(nat_lit 37, { cls := Value.type "type", data := Data.cls { name := "NoDepth", bases := [Value.ref 24], mro := [Value.ref 37, Value.ref 24, Value.type "ValueError", Value.type "Exception", Value.type "BaseException", Value.type "object"], ns := 36, qualname := "NoDepth" }, slots := #[Option.some (Value.ref 28), Option.none, Option.some (Value.str "NoDepth" 207), Option.some (Value.str "NoDepth" 215), Option.some (Value.builtin "ValueError.__new__"), Option.some (Value.bool Bool.true)] }) ::
(nat_lit 40, { cls := Value.type "tuple", data := Data.seq #[Value.ref 24] }) ::
(nat_lit 47, { cls := Value.type "tuple", data := Data.seq #[] }) ::
(nat_lit 48, { cls := Value.type "dict", data := Data.dict #[{ hash := PyData.keyHash P "__module__", key := Value.str "__module__" 230, val := Value.str "deeprests.errors" 187 }, { hash := PyData.keyHash P "__firstlineno__", key := Value.str "__firstlineno__" 234, val := Value.int 6 233 }, { hash := PyData.keyHash P "__static_attributes__", key := Value.str "__static_attributes__" 235, val := Value.ref 47 }, { hash := PyData.keyHash P "__doc__", key := Value.str "__doc__" 236, val := Value.none }] 2 }) ::
(nat_lit 49, { cls := Value.type "type", data := Data.cls { name := "NoInverse", bases := [Value.ref 24], mro := [Value.ref 49, Value.ref 24, Value.type "ValueError", Value.type "Exception", Value.type "BaseException", Value.type "object"], ns := 48, qualname := "NoInverse" }, slots := #[Option.some (Value.ref 40), Option.none, Option.some (Value.str "NoInverse" 223), Option.some (Value.str "NoInverse" 231), Option.some (Value.builtin "ValueError.__new__"), Option.some (Value.bool Bool.true)] }) ::
(nat_lit 52, { cls := Value.type "tuple", data := Data.seq #[Value.ref 24] }) ::
(nat_lit 59, { cls := Value.type "tuple", data := Data.seq #[] }) ::
(nat_lit 60, { cls := Value.type "dict", data := Data.dict #[{ hash := PyData.keyHash P "__module__", key := Value.str "__module__" 246, val := Value.str "deeprests.errors" 187 }, { hash := PyData.keyHash P "__firstlineno__", key := Value.str "__firstlineno__" 250, val := Value.int 8 249 }, { hash := PyData.keyHash P "__static_attributes__", key := Value.str "__static_attributes__" 251, val := Value.ref 59 }, { hash := PyData.keyHash P "__doc__", key := Value.str "__doc__" 252, val := Value.none }] 2 }) ::
(nat_lit 61, { cls := Value.type "type", data := Data.cls { name := "NoBall", bases := [Value.ref 24], mro := [Value.ref 61, Value.ref 24, Value.type "ValueError", Value.type "Exception", Value.type "BaseException", Value.type "object"], ns := 60, qualname := "NoBall" }, slots := #[Option.some (Value.ref 52), Option.none, Option.some (Value.str "NoBall" 239), Option.some (Value.str "NoBall" 247), Option.some (Value.builtin "ValueError.__new__"), Option.some (Value.bool Bool.true)] }) ::
(nat_lit 64, { cls := Value.type "tuple", data := Data.seq #[Value.ref 24] }) ::
(nat_lit 71, { cls := Value.type "tuple", data := Data.seq #[] }) ::
(nat_lit 72, { cls := Value.type "dict", data := Data.dict #[{ hash := PyData.keyHash P "__module__", key := Value.str "__module__" 262, val := Value.str "deeprests.errors" 187 }, { hash := PyData.keyHash P "__firstlineno__", key := Value.str "__firstlineno__" 266, val := Value.int 10 265 }, { hash := PyData.keyHash P "__static_attributes__", key := Value.str "__static_attributes__" 267, val := Value.ref 71 }, { hash := PyData.keyHash P "__doc__", key := Value.str "__doc__" 268, val := Value.none }] 2 }) ::
(nat_lit 73, { cls := Value.type "type", data := Data.cls { name := "NoSingle", bases := [Value.ref 24], mro := [Value.ref 73, Value.ref 24, Value.type "ValueError", Value.type "Exception", Value.type "BaseException", Value.type "object"], ns := 72, qualname := "NoSingle" }, slots := #[Option.some (Value.ref 64), Option.none, Option.some (Value.str "NoSingle" 255), Option.some (Value.str "NoSingle" 263), Option.some (Value.builtin "ValueError.__new__"), Option.some (Value.bool Bool.true)] }) ::
(nat_lit 76, { cls := Value.type "tuple", data := Data.seq #[Value.ref 24] }) ::
(nat_lit 83, { cls := Value.type "tuple", data := Data.seq #[] }) ::
(nat_lit 84, { cls := Value.type "dict", data := Data.dict #[{ hash := PyData.keyHash P "__module__", key := Value.str "__module__" 278, val := Value.str "deeprests.errors" 187 }, { hash := PyData.keyHash P "__firstlineno__", key := Value.str "__firstlineno__" 282, val := Value.int 12 281 }, { hash := PyData.keyHash P "__static_attributes__", key := Value.str "__static_attributes__" 283, val := Value.ref 83 }, { hash := PyData.keyHash P "__doc__", key := Value.str "__doc__" 284, val := Value.none }] 2 }) ::
(nat_lit 85, { cls := Value.type "type", data := Data.cls { name := "TooDeep", bases := [Value.ref 24], mro := [Value.ref 85, Value.ref 24, Value.type "ValueError", Value.type "Exception", Value.type "BaseException", Value.type "object"], ns := 84, qualname := "TooDeep" }, slots := #[Option.some (Value.ref 76), Option.none, Option.some (Value.str "TooDeep" 271), Option.some (Value.str "TooDeep" 279), Option.some (Value.builtin "ValueError.__new__"), Option.some (Value.bool Bool.true)] }) ::
(nat_lit 88, { cls := Value.type "tuple", data := Data.seq #[Value.ref 24] }) ::
(nat_lit 95, { cls := Value.type "tuple", data := Data.seq #[] }) ::
(nat_lit 96, { cls := Value.type "dict", data := Data.dict #[{ hash := PyData.keyHash P "__module__", key := Value.str "__module__" 294, val := Value.str "deeprests.errors" 187 }, { hash := PyData.keyHash P "__firstlineno__", key := Value.str "__firstlineno__" 298, val := Value.int 14 297 }, { hash := PyData.keyHash P "__static_attributes__", key := Value.str "__static_attributes__" 299, val := Value.ref 95 }, { hash := PyData.keyHash P "__doc__", key := Value.str "__doc__" 300, val := Value.none }] 2 }) ::
(nat_lit 97, { cls := Value.type "type", data := Data.cls { name := "NoSmall", bases := [Value.ref 24], mro := [Value.ref 97, Value.ref 24, Value.type "ValueError", Value.type "Exception", Value.type "BaseException", Value.type "object"], ns := 96, qualname := "NoSmall" }, slots := #[Option.some (Value.ref 88), Option.none, Option.some (Value.str "NoSmall" 287), Option.some (Value.str "NoSmall" 295), Option.some (Value.builtin "ValueError.__new__"), Option.some (Value.bool Bool.true)] }) ::
(nat_lit 100, { cls := Value.type "tuple", data := Data.seq #[Value.ref 24] }) ::
(nat_lit 107, { cls := Value.type "tuple", data := Data.seq #[] }) ::
(nat_lit 108, { cls := Value.type "dict", data := Data.dict #[{ hash := PyData.keyHash P "__module__", key := Value.str "__module__" 310, val := Value.str "deeprests.errors" 187 }, { hash := PyData.keyHash P "__firstlineno__", key := Value.str "__firstlineno__" 314, val := Value.int 16 313 }, { hash := PyData.keyHash P "__static_attributes__", key := Value.str "__static_attributes__" 315, val := Value.ref 107 }, { hash := PyData.keyHash P "__doc__", key := Value.str "__doc__" 316, val := Value.none }] 2 }) ::
(nat_lit 109, { cls := Value.type "type", data := Data.cls { name := "NoParts", bases := [Value.ref 24], mro := [Value.ref 109, Value.ref 24, Value.type "ValueError", Value.type "Exception", Value.type "BaseException", Value.type "object"], ns := 108, qualname := "NoParts" }, slots := #[Option.some (Value.ref 100), Option.none, Option.some (Value.str "NoParts" 303), Option.some (Value.str "NoParts" 311), Option.some (Value.builtin "ValueError.__new__"), Option.some (Value.bool Bool.true)] }) ::
(nat_lit 112, { cls := Value.type "tuple", data := Data.seq #[Value.ref 24] }) ::
(nat_lit 119, { cls := Value.type "tuple", data := Data.seq #[] }) ::
(nat_lit 120, { cls := Value.type "dict", data := Data.dict #[{ hash := PyData.keyHash P "__module__", key := Value.str "__module__" 326, val := Value.str "deeprests.errors" 187 }, { hash := PyData.keyHash P "__firstlineno__", key := Value.str "__firstlineno__" 330, val := Value.int 18 329 }, { hash := PyData.keyHash P "__static_attributes__", key := Value.str "__static_attributes__" 331, val := Value.ref 119 }, { hash := PyData.keyHash P "__doc__", key := Value.str "__doc__" 332, val := Value.none }] 2 }) ::
(nat_lit 121, { cls := Value.type "type", data := Data.cls { name := "NoPrime", bases := [Value.ref 24], mro := [Value.ref 121, Value.ref 24, Value.type "ValueError", Value.type "Exception", Value.type "BaseException", Value.type "object"], ns := 120, qualname := "NoPrime" }, slots := #[Option.some (Value.ref 112), Option.none, Option.some (Value.str "NoPrime" 319), Option.some (Value.str "NoPrime" 327), Option.some (Value.builtin "ValueError.__new__"), Option.some (Value.bool Bool.true)] }) ::
(nat_lit 124, { cls := Value.type "tuple", data := Data.seq #[Value.ref 24] }) ::
(nat_lit 131, { cls := Value.type "tuple", data := Data.seq #[] }) ::
(nat_lit 132, { cls := Value.type "dict", data := Data.dict #[{ hash := PyData.keyHash P "__module__", key := Value.str "__module__" 342, val := Value.str "deeprests.errors" 187 }, { hash := PyData.keyHash P "__firstlineno__", key := Value.str "__firstlineno__" 346, val := Value.int 20 345 }, { hash := PyData.keyHash P "__static_attributes__", key := Value.str "__static_attributes__" 347, val := Value.ref 131 }, { hash := PyData.keyHash P "__doc__", key := Value.str "__doc__" 348, val := Value.none }] 2 }) ::
(nat_lit 133, { cls := Value.type "type", data := Data.cls { name := "NoText", bases := [Value.ref 24], mro := [Value.ref 133, Value.ref 24, Value.type "ValueError", Value.type "Exception", Value.type "BaseException", Value.type "object"], ns := 132, qualname := "NoText" }, slots := #[Option.some (Value.ref 124), Option.none, Option.some (Value.str "NoText" 335), Option.some (Value.str "NoText" 343), Option.some (Value.builtin "ValueError.__new__"), Option.some (Value.bool Bool.true)] }) ::
(nat_lit 136, { cls := Value.type "tuple", data := Data.seq #[Value.ref 24] }) ::
(nat_lit 143, { cls := Value.type "tuple", data := Data.seq #[] }) ::
(nat_lit 144, { cls := Value.type "dict", data := Data.dict #[{ hash := PyData.keyHash P "__module__", key := Value.str "__module__" 358, val := Value.str "deeprests.errors" 187 }, { hash := PyData.keyHash P "__firstlineno__", key := Value.str "__firstlineno__" 362, val := Value.int 22 361 }, { hash := PyData.keyHash P "__static_attributes__", key := Value.str "__static_attributes__" 363, val := Value.ref 143 }, { hash := PyData.keyHash P "__doc__", key := Value.str "__doc__" 364, val := Value.none }] 2 }) ::
(nat_lit 145, { cls := Value.type "type", data := Data.cls { name := "NoName", bases := [Value.ref 24], mro := [Value.ref 145, Value.ref 24, Value.type "ValueError", Value.type "Exception", Value.type "BaseException", Value.type "object"], ns := 144, qualname := "NoName" }, slots := #[Option.some (Value.ref 136), Option.none, Option.some (Value.str "NoName" 351), Option.some (Value.str "NoName" 359), Option.some (Value.builtin "ValueError.__new__"), Option.some (Value.bool Bool.true)] }) ::
(nat_lit 148, { cls := Value.type "tuple", data := Data.seq #[Value.ref 24] }) ::
(nat_lit 155, { cls := Value.type "tuple", data := Data.seq #[] }) ::
(nat_lit 156, { cls := Value.type "dict", data := Data.dict #[{ hash := PyData.keyHash P "__module__", key := Value.str "__module__" 374, val := Value.str "deeprests.errors" 187 }, { hash := PyData.keyHash P "__firstlineno__", key := Value.str "__firstlineno__" 378, val := Value.int 24 377 }, { hash := PyData.keyHash P "__static_attributes__", key := Value.str "__static_attributes__" 379, val := Value.ref 155 }, { hash := PyData.keyHash P "__doc__", key := Value.str "__doc__" 380, val := Value.none }] 2 }) ::
(nat_lit 157, { cls := Value.type "type", data := Data.cls { name := "NoRow", bases := [Value.ref 24], mro := [Value.ref 157, Value.ref 24, Value.type "ValueError", Value.type "Exception", Value.type "BaseException", Value.type "object"], ns := 156, qualname := "NoRow" }, slots := #[Option.some (Value.ref 148), Option.none, Option.some (Value.str "NoRow" 367), Option.some (Value.str "NoRow" 375), Option.some (Value.builtin "ValueError.__new__"), Option.some (Value.bool Bool.true)] }) ::
(nat_lit 160, { cls := Value.type "tuple", data := Data.seq #[Value.ref 24] }) ::
(nat_lit 167, { cls := Value.type "tuple", data := Data.seq #[] }) ::
(nat_lit 168, { cls := Value.type "dict", data := Data.dict #[{ hash := PyData.keyHash P "__module__", key := Value.str "__module__" 390, val := Value.str "deeprests.errors" 187 }, { hash := PyData.keyHash P "__firstlineno__", key := Value.str "__firstlineno__" 394, val := Value.int 26 393 }, { hash := PyData.keyHash P "__static_attributes__", key := Value.str "__static_attributes__" 395, val := Value.ref 167 }, { hash := PyData.keyHash P "__doc__", key := Value.str "__doc__" 396, val := Value.none }] 2 }) ::
(nat_lit 169, { cls := Value.type "type", data := Data.cls { name := "TooGreat", bases := [Value.ref 24], mro := [Value.ref 169, Value.ref 24, Value.type "ValueError", Value.type "Exception", Value.type "BaseException", Value.type "object"], ns := 168, qualname := "TooGreat" }, slots := #[Option.some (Value.ref 160), Option.none, Option.some (Value.str "TooGreat" 383), Option.some (Value.str "TooGreat" 391), Option.some (Value.builtin "ValueError.__new__"), Option.some (Value.bool Bool.true)] }) ::
(nat_lit 172, { cls := Value.type "tuple", data := Data.seq #[] }) ::
(nat_lit 174, { cls := Value.type "tuple", data := Data.seq #[Value.str "p" 404, Value.str "e" 405, Value.str "power" 406, Value.str "turn" 407] }) ::
(nat_lit 175, { cls := Value.type "tuple", data := Data.seq #[] }) ::
(nat_lit 177, { cls := Value.type "code", data := Data.fields #[Value.str "power_of" 401, Value.str "power_of" 402, Value.str "/claim/cut.py" 403, Value.int 29 0, Value.int 2 0, Value.int 0 0, Value.int 0 0, Value.int 3 0, Value.ref 172, Value.bool Bool.true, Value.int 181 0, Value.ref 173, Value.none, Value.ref 174, Value.ref 175, Value.ref 176, Value.int 408 0, Value.int 29 0, Value.str "/claim/cut.py" 409] }) ::
(nat_lit 178, ⟨(Value.type "function"), none, .func (PySem.W.fnOf "power_of" "power_of" (defArgs s_power_of) (defBody s_power_of) (defScope s_power_of) (Value.none) (Value.none) (Value.none) (Value.str "deeprests.primes" 399) none (Value.ref 177) (Value.none)), #[]⟩) ::
(nat_lit 179, { cls := Value.type "tuple", data := Data.seq #[] }) ::
(nat_lit 182, { cls := Value.type "code", data := Data.fields #[Value.str "inverse_by_prime" 411, Value.str "inverse_by_prime" 412, Value.str "/claim/cut.py" 413, Value.int 34 0, Value.int 2 0, Value.int 0 0, Value.int 0 0, Value.int 3 0, Value.ref 179, Value.bool Bool.true, Value.int 181 0, Value.ref 180, Value.none, Value.none, Value.none, Value.ref 181, Value.int 414 0, Value.int 34 0, Value.str "/claim/cut.py" 415] }) ::
(nat_lit 183, ⟨(Value.type "function"), none, .func (PySem.W.fnOf "inverse_by_prime" "inverse_by_prime" (defArgs s_inverse_by_prime) (defBody s_inverse_by_prime) (defScope s_inverse_by_prime) (Value.none) (Value.none) (Value.none) (Value.str "deeprests.primes" 399) none (Value.ref 182) (Value.none)), #[]⟩) ::
(nat_lit 184, { cls := Value.type "tuple", data := Data.seq #[] }) ::
(nat_lit 186, { cls := Value.type "tuple", data := Data.seq #[Value.str "p" 420, Value.str "e" 421, Value.str "x" 422, Value.str "power" 423, Value.str "y" 424, Value.str "reached" 425] }) ::
(nat_lit 187, { cls := Value.type "tuple", data := Data.seq #[] }) ::
(nat_lit 189, { cls := Value.type "code", data := Data.fields #[Value.str "inverse_of" 417, Value.str "inverse_of" 418, Value.str "/claim/cut.py" 419, Value.int 37 0, Value.int 3 0, Value.int 0 0, Value.int 0 0, Value.int 3 0, Value.ref 184, Value.bool Bool.true, Value.int 181 0, Value.ref 185, Value.none, Value.ref 186, Value.ref 187, Value.ref 188, Value.int 426 0, Value.int 37 0, Value.str "/claim/cut.py" 427] }) ::
(nat_lit 190, ⟨(Value.type "function"), none, .func (PySem.W.fnOf "inverse_of" "inverse_of" (defArgs s_inverse_of) (defBody s_inverse_of) (defScope s_inverse_of) (Value.none) (Value.none) (Value.none) (Value.str "deeprests.primes" 399) none (Value.ref 189) (Value.none)), #[]⟩) ::
(nat_lit 191, { cls := Value.type "tuple", data := Data.seq #[] }) ::
(nat_lit 193, { cls := Value.type "tuple", data := Data.seq #[Value.str "f" 434, Value.str "degree" 435, Value.str "place" 436, Value.str "number" 437] }) ::
(nat_lit 194, { cls := Value.type "tuple", data := Data.seq #[] }) ::
(nat_lit 196, { cls := Value.type "code", data := Data.fields #[Value.str "degree_of" 431, Value.str "degree_of" 432, Value.str "/claim/cut.py" 433, Value.int 50 0, Value.int 1 0, Value.int 0 0, Value.int 0 0, Value.int 3 0, Value.ref 191, Value.bool Bool.true, Value.int 181 0, Value.ref 192, Value.none, Value.ref 193, Value.ref 194, Value.ref 195, Value.int 438 0, Value.int 50 0, Value.str "/claim/cut.py" 439] }) ::
(nat_lit 197, ⟨(Value.type "function"), none, .func (PySem.W.fnOf "degree_of" "degree_of" (defArgs s_degree_of) (defBody s_degree_of) (defScope s_degree_of) (Value.none) (Value.none) (Value.none) (Value.str "deeprests.polynomials" 429) none (Value.ref 196) (Value.none)), #[]⟩) ::
(nat_lit 198, { cls := Value.type "tuple", data := Data.seq #[] }) ::
(nat_lit 200, { cls := Value.type "tuple", data := Data.seq #[Value.str "f" 444, Value.str "g" 445, Value.str "product" 446, Value.str "place" 447, Value.str "number" 448, Value.str "other_place" 449, Value.str "other_number" 450] }) ::
(nat_lit 201, { cls := Value.type "tuple", data := Data.seq #[] }) ::
(nat_lit 203, { cls := Value.type "code", data := Data.fields #[Value.str "poly_product" 441, Value.str "poly_product" 442, Value.str "/claim/cut.py" 443, Value.int 56 0, Value.int 2 0, Value.int 0 0, Value.int 0 0, Value.int 3 0, Value.ref 198, Value.bool Bool.true, Value.int 181 0, Value.ref 199, Value.none, Value.ref 200, Value.ref 201, Value.ref 202, Value.int 451 0, Value.int 56 0, Value.str "/claim/cut.py" 452] }) ::
(nat_lit 204, ⟨(Value.type "function"), none, .func (PySem.W.fnOf "poly_product" "poly_product" (defArgs s_poly_product) (defBody s_poly_product) (defScope s_poly_product) (Value.none) (Value.none) (Value.none) (Value.str "deeprests.polynomials" 429) none (Value.ref 203) (Value.none)), #[]⟩) ::
(nat_lit 205, { cls := Value.type "tuple", data := Data.seq #[] }) ::
(nat_lit 208, { cls := Value.type "code", data := Data.fields #[Value.str "rests_of" 456, Value.str "rests_of" 457, Value.str "/claim/cut.py" 458, Value.int 63 0, Value.int 2 0, Value.int 0 0, Value.int 0 0, Value.int 3 0, Value.ref 205, Value.bool Bool.true, Value.int 181 0, Value.ref 206, Value.none, Value.none, Value.none, Value.ref 207, Value.int 459 0, Value.int 63 0, Value.str "/claim/cut.py" 460] }) ::
(nat_lit 209, ⟨(Value.type "function"), none, .func (PySem.W.fnOf "rests_of" "rests_of" (defArgs s_rests_of) (defBody s_rests_of) (defScope s_rests_of) (Value.none) (Value.none) (Value.none) (Value.str "deeprests.parts" 454) none (Value.ref 208) (Value.none)), #[]⟩) ::
(nat_lit 210, { cls := Value.type "tuple", data := Data.seq #[] }) ::
(nat_lit 212, { cls := Value.type "tuple", data := Data.seq #[Value.str "f" 465, Value.str "g" 466, Value.str "longest" 467, Value.str "padded" 468, Value.str "place" 469, Value.str "number" 470] }) ::
(nat_lit 213, { cls := Value.type "tuple", data := Data.seq #[] }) ::
(nat_lit 215, { cls := Value.type "code", data := Data.fields #[Value.str "poly_difference" 462, Value.str "poly_difference" 463, Value.str "/claim/cut.py" 464, Value.int 65 0, Value.int 2 0, Value.int 0 0, Value.int 0 0, Value.int 3 0, Value.ref 210, Value.bool Bool.true, Value.int 181 0, Value.ref 211, Value.none, Value.ref 212, Value.ref 213, Value.ref 214, Value.int 471 0, Value.int 65 0, Value.str "/claim/cut.py" 472] }) ::
(nat_lit 216, ⟨(Value.type "function"), none, .func (PySem.W.fnOf "poly_difference" "poly_difference" (defArgs s_poly_difference) (defBody s_poly_difference) (defScope s_poly_difference) (Value.none) (Value.none) (Value.none) (Value.str "deeprests.parts" 454) none (Value.ref 215) (Value.none)), #[]⟩) ::
(nat_lit 217, { cls := Value.type "tuple", data := Data.seq #[] }) ::
(nat_lit 219, { cls := Value.type "tuple", data := Data.seq #[Value.str "p" 477, Value.str "f" 478, Value.str "g" 479, Value.str "degree" 480, Value.str "inverse" 481, Value.str "quotient" 482, Value.str "rest" 483, Value.str "place" 484, Value.str "times" 485, Value.str "step" 486] }) ::
(nat_lit 220, { cls := Value.type "tuple", data := Data.seq #[] }) ::
(nat_lit 222, { cls := Value.type "code", data := Data.fields #[Value.str "divided_by_prime" 474, Value.str "divided_by_prime" 475, Value.str "/claim/cut.py" 476, Value.int 71 0, Value.int 3 0, Value.int 0 0, Value.int 0 0, Value.int 3 0, Value.ref 217, Value.bool Bool.true, Value.int 181 0, Value.ref 218, Value.none, Value.ref 219, Value.ref 220, Value.ref 221, Value.int 487 0, Value.int 71 0, Value.str "/claim/cut.py" 488] }) ::
(nat_lit 223, ⟨(Value.type "function"), none, .func (PySem.W.fnOf "divided_by_prime" "divided_by_prime" (defArgs s_divided_by_prime) (defBody s_divided_by_prime) (defScope s_divided_by_prime) (Value.none) (Value.none) (Value.none) (Value.str "deeprests.parts" 454) none (Value.ref 222) (Value.none)), #[]⟩) ::
(nat_lit 224, { cls := Value.type "tuple", data := Data.seq #[] }) ::
(nat_lit 226, { cls := Value.type "tuple", data := Data.seq #[Value.str "p" 493, Value.str "h" 494, Value.str "g" 495, Value.str "ahead" 496, Value.str "row" 497, Value.str "divided" 498, Value.str "following" 499] }) ::
(nat_lit 227, { cls := Value.type "tuple", data := Data.seq #[] }) ::
(nat_lit 229, { cls := Value.type "code", data := Data.fields #[Value.str "inverse_beside" 490, Value.str "inverse_beside" 491, Value.str "/claim/cut.py" 492, Value.int 84 0, Value.int 3 0, Value.int 0 0, Value.int 0 0, Value.int 3 0, Value.ref 224, Value.bool Bool.true, Value.int 181 0, Value.ref 225, Value.none, Value.ref 226, Value.ref 227, Value.ref 228, Value.int 500 0, Value.int 84 0, Value.str "/claim/cut.py" 501] }) ::
(nat_lit 230, ⟨(Value.type "function"), none, .func (PySem.W.fnOf "inverse_beside" "inverse_beside" (defArgs s_inverse_beside) (defBody s_inverse_beside) (defScope s_inverse_beside) (Value.none) (Value.none) (Value.none) (Value.str "deeprests.parts" 454) none (Value.ref 229) (Value.none)), #[]⟩) ::
(nat_lit 231, { cls := Value.type "tuple", data := Data.seq #[] }) ::
(nat_lit 233, { cls := Value.type "tuple", data := Data.seq #[Value.str "p" 506, Value.str "N" 507, Value.str "f" 508, Value.str "g" 509, Value.str "h" 510] }) ::
(nat_lit 234, { cls := Value.type "tuple", data := Data.seq #[] }) ::
(nat_lit 236, { cls := Value.type "code", data := Data.fields #[Value.str "may_part" 503, Value.str "may_part" 504, Value.str "/claim/cut.py" 505, Value.int 95 0, Value.int 5 0, Value.int 0 0, Value.int 0 0, Value.int 3 0, Value.ref 231, Value.bool Bool.true, Value.int 181 0, Value.ref 232, Value.none, Value.ref 233, Value.ref 234, Value.ref 235, Value.int 511 0, Value.int 95 0, Value.str "/claim/cut.py" 512] }) ::
(nat_lit 237, ⟨(Value.type "function"), none, .func (PySem.W.fnOf "may_part" "may_part" (defArgs s_may_part) (defBody s_may_part) (defScope s_may_part) (Value.none) (Value.none) (Value.none) (Value.str "deeprests.parts" 454) none (Value.ref 236) (Value.none)), #[]⟩) ::
(nat_lit 238, { cls := Value.type "tuple", data := Data.seq #[] }) ::
(nat_lit 241, { cls := Value.type "code", data := Data.fields #[Value.str "raised" 514, Value.str "raised" 515, Value.str "/claim/cut.py" 516, Value.int 101 0, Value.int 3 0, Value.int 0 0, Value.int 0 0, Value.int 3 0, Value.ref 238, Value.bool Bool.true, Value.int 181 0, Value.ref 239, Value.none, Value.none, Value.none, Value.ref 240, Value.int 517 0, Value.int 101 0, Value.str "/claim/cut.py" 518] }) ::
(nat_lit 242, ⟨(Value.type "function"), none, .func (PySem.W.fnOf "raised" "raised" (defArgs s_raised) (defBody s_raised) (defScope s_raised) (Value.none) (Value.none) (Value.none) (Value.str "deeprests.parts" 454) none (Value.ref 241) (Value.none)), #[]⟩) ::
(nat_lit 243, { cls := Value.type "tuple", data := Data.seq #[] }) ::
(nat_lit 246, { cls := Value.type "code", data := Data.fields #[Value.str "parts_at" 520, Value.str "parts_at" 521, Value.str "/claim/cut.py" 522, Value.int 103 0, Value.int 5 0, Value.int 0 0, Value.int 0 0, Value.int 3 0, Value.ref 243, Value.bool Bool.true, Value.int 181 0, Value.ref 244, Value.none, Value.none, Value.none, Value.ref 245, Value.int 523 0, Value.int 103 0, Value.str "/claim/cut.py" 524] }) ::
(nat_lit 247, ⟨(Value.type "function"), none, .func (PySem.W.fnOf "parts_at" "parts_at" (defArgs s_parts_at) (defBody s_parts_at) (defScope s_parts_at) (Value.none) (Value.none) (Value.none) (Value.str "deeprests.parts" 454) none (Value.ref 246) (Value.none)), #[]⟩) ::
(nat_lit 248, { cls := Value.type "tuple", data := Data.seq #[] }) ::
(nat_lit 250, { cls := Value.type "tuple", data := Data.seq #[Value.str "script" 531, Value.str "k" 532] }) ::
(nat_lit 251, { cls := Value.type "tuple", data := Data.seq #[] }) ::
(nat_lit 253, { cls := Value.type "code", data := Data.fields #[Value.str "_law_cell_at" 528, Value.str "_law_cell_at" 529, Value.str "/claim/cut.py" 530, Value.int 123 0, Value.int 2 0, Value.int 0 0, Value.int 0 0, Value.int 3 0, Value.ref 248, Value.bool Bool.true, Value.int 181 0, Value.ref 249, Value.none, Value.ref 250, Value.ref 251, Value.ref 252, Value.int 533 0, Value.int 123 0, Value.str "/claim/cut.py" 534] }) ::
(nat_lit 254, ⟨(Value.type "function"), none, .func (PySem.W.fnOf "_law_cell_at" "_law_cell_at" (defArgs s__law_cell_at) (defBody s__law_cell_at) (defScope s__law_cell_at) (Value.none) (Value.none) (Value.none) (Value.str "law_deeprests_k73_no_parts" 526) none (Value.ref 253) (Value.none)), #[]⟩) ::
(nat_lit 255, { cls := Value.type "tuple", data := Data.seq #[] }) ::
(nat_lit 257, { cls := Value.type "tuple", data := Data.seq #[Value.str "cell" 539, Value.str "primes" 540] }) ::
(nat_lit 258, { cls := Value.type "tuple", data := Data.seq #[] }) ::
(nat_lit 260, { cls := Value.type "code", data := Data.fields #[Value.str "_law_prime" 536, Value.str "_law_prime" 537, Value.str "/claim/cut.py" 538, Value.int 127 0, Value.int 1 0, Value.int 0 0, Value.int 0 0, Value.int 3 0, Value.ref 255, Value.bool Bool.true, Value.int 181 0, Value.ref 256, Value.none, Value.ref 257, Value.ref 258, Value.ref 259, Value.int 541 0, Value.int 127 0, Value.str "/claim/cut.py" 542] }) ::
(nat_lit 261, ⟨(Value.type "function"), none, .func (PySem.W.fnOf "_law_prime" "_law_prime" (defArgs s__law_prime) (defBody s__law_prime) (defScope s__law_prime) (Value.none) (Value.none) (Value.none) (Value.str "law_deeprests_k73_no_parts" 526) none (Value.ref 260) (Value.none)), #[]⟩) ::
(nat_lit 262, { cls := Value.type "tuple", data := Data.seq #[] }) ::
(nat_lit 264, { cls := Value.type "tuple", data := Data.seq #[Value.str "f" 547, Value.str "g" 548, Value.str "found" 549, Value.str "k" 550, Value.str "j" 551] }) ::
(nat_lit 265, { cls := Value.type "tuple", data := Data.seq #[] }) ::
(nat_lit 267, { cls := Value.type "code", data := Data.fields #[Value.str "_law_times" 544, Value.str "_law_times" 545, Value.str "/claim/cut.py" 546, Value.int 132 0, Value.int 2 0, Value.int 0 0, Value.int 0 0, Value.int 3 0, Value.ref 262, Value.bool Bool.true, Value.int 181 0, Value.ref 263, Value.none, Value.ref 264, Value.ref 265, Value.ref 266, Value.int 552 0, Value.int 132 0, Value.str "/claim/cut.py" 553] }) ::
(nat_lit 268, ⟨(Value.type "function"), none, .func (PySem.W.fnOf "_law_times" "_law_times" (defArgs s__law_times) (defBody s__law_times) (defScope s__law_times) (Value.none) (Value.none) (Value.none) (Value.str "law_deeprests_k73_no_parts" 526) none (Value.ref 267) (Value.none)), #[]⟩) ::
(nat_lit 269, { cls := Value.type "tuple", data := Data.seq #[] }) ::
(nat_lit 272, { cls := Value.type "code", data := Data.fields #[Value.str "_law_good" 555, Value.str "_law_good" 556, Value.str "/claim/cut.py" 557, Value.int 138 0, Value.int 3 0, Value.int 0 0, Value.int 0 0, Value.int 3 0, Value.ref 269, Value.bool Bool.true, Value.int 181 0, Value.ref 270, Value.none, Value.none, Value.none, Value.ref 271, Value.int 558 0, Value.int 138 0, Value.str "/claim/cut.py" 559] }) ::
(nat_lit 273, ⟨(Value.type "function"), none, .func (PySem.W.fnOf "_law_good" "_law_good" (defArgs s__law_good) (defBody s__law_good) (defScope s__law_good) (Value.none) (Value.none) (Value.none) (Value.str "law_deeprests_k73_no_parts" 526) none (Value.ref 272) (Value.none)), #[]⟩) ::
(nat_lit 274, { cls := Value.type "tuple", data := Data.seq #[] }) ::
(nat_lit 276, { cls := Value.type "tuple", data := Data.seq #[Value.str "p" 564, Value.str "good" 565, Value.str "cell" 566, Value.str "f" 567, Value.str "g" 568, Value.str "h" 569, Value.str "a" 570, Value.str "way" 571, Value.str "N" 572, Value.str "at" 573, Value.str "some" 574] }) ::
(nat_lit 277, { cls := Value.type "tuple", data := Data.seq #[] }) ::
(nat_lit 279, { cls := Value.type "code", data := Data.fields #[Value.str "_law_spoilt" 561, Value.str "_law_spoilt" 562, Value.str "/claim/cut.py" 563, Value.int 149 0, Value.int 3 0, Value.int 0 0, Value.int 0 0, Value.int 3 0, Value.ref 274, Value.bool Bool.true, Value.int 181 0, Value.ref 275, Value.none, Value.ref 276, Value.ref 277, Value.ref 278, Value.int 575 0, Value.int 149 0, Value.str "/claim/cut.py" 576] }) ::
(nat_lit 280, ⟨(Value.type "function"), none, .func (PySem.W.fnOf "_law_spoilt" "_law_spoilt" (defArgs s__law_spoilt) (defBody s__law_spoilt) (defScope s__law_spoilt) (Value.none) (Value.none) (Value.none) (Value.str "law_deeprests_k73_no_parts" 526) none (Value.ref 279) (Value.none)), #[]⟩) ::
(nat_lit 281, { cls := Value.type "tuple", data := Data.seq #[] }) ::
(nat_lit 283, { cls := Value.type "tuple", data := Data.seq #[Value.str "p" 581, Value.str "N" 582, Value.str "f" 583, Value.str "g" 584, Value.str "h" 585, Value.str "kinds" 586, Value.str "e" 587] }) ::
(nat_lit 284, { cls := Value.type "tuple", data := Data.seq #[] }) ::
(nat_lit 286, { cls := Value.type "code", data := Data.fields #[Value.str "_law_kinds" 578, Value.str "_law_kinds" 579, Value.str "/claim/cut.py" 580, Value.int 180 0, Value.int 5 0, Value.int 0 0, Value.int 0 0, Value.int 3 0, Value.ref 281, Value.bool Bool.true, Value.int 181 0, Value.ref 282, Value.none, Value.ref 283, Value.ref 284, Value.ref 285, Value.int 588 0, Value.int 180 0, Value.str "/claim/cut.py" 589] }) ::
(nat_lit 287, ⟨(Value.type "function"), none, .func (PySem.W.fnOf "_law_kinds" "_law_kinds" (defArgs s__law_kinds) (defBody s__law_kinds) (defScope s__law_kinds) (Value.none) (Value.none) (Value.none) (Value.str "law_deeprests_k73_no_parts" 526) none (Value.ref 286) (Value.none)), #[]⟩) ::
(nat_lit 288, { cls := Value.type "tuple", data := Data.seq #[] }) ::
(nat_lit 290, { cls := Value.type "tuple", data := Data.seq #[Value.str "script" 594, Value.str "p" 595, Value.str "k" 596, Value.str "good" 597, Value.str "deep" 598, Value.str "handed" 599, Value.str "N" 600, Value.str "f" 601, Value.str "g" 602, Value.str "h" 603, Value.str "found" 604] }) ::
(nat_lit 291, { cls := Value.type "tuple", data := Data.seq #[] }) ::
(nat_lit 293, { cls := Value.type "code", data := Data.fields #[Value.str "law" 591, Value.str "law" 592, Value.str "/claim/cut.py" 593, Value.int 190 0, Value.int 1 0, Value.int 0 0, Value.int 0 0, Value.int 3 0, Value.ref 288, Value.bool Bool.true, Value.int 181 0, Value.ref 289, Value.none, Value.ref 290, Value.ref 291, Value.ref 292, Value.int 605 0, Value.int 190 0, Value.str "/claim/cut.py" 606] }) ::
(nat_lit 294, ⟨(Value.type "function"), none, .func (PySem.W.fnOf "law" "law" (defArgs s_law) (defBody s_law) (defScope s_law) (Value.none) (Value.none) (Value.none) (Value.str "law_deeprests_k73_no_parts" 526) none (Value.ref 293) (Value.none)), #[]⟩) :: []) k_dec
end
end K73
open PySem PySem.W PyProof.Rows
set_option maxRecDepth 100000 in
set_option maxHeartbeats 0 in
theorem PySem.Challenge.cw_deeprests_k73_no_parts_holds : PySem.Challenge.rw_deeprests_k73_no_parts.Holds := by
  w_on; o_law; o_head (kHook K73.kH [nat_lit 2, nat_lit 3, nat_lit 15, nat_lit 22, nat_lit 23, nat_lit 24, nat_lit 25, nat_lit 28, nat_lit 35, nat_lit 36, nat_lit 37, nat_lit 40, nat_lit 47, nat_lit 48, nat_lit 49, nat_lit 52, nat_lit 59, nat_lit 60, nat_lit 61, nat_lit 64, nat_lit 71, nat_lit 72, nat_lit 73, nat_lit 76, nat_lit 83, nat_lit 84, nat_lit 85, nat_lit 88, nat_lit 95, nat_lit 96, nat_lit 97, nat_lit 100, nat_lit 107, nat_lit 108, nat_lit 109, nat_lit 112, nat_lit 119, nat_lit 120, nat_lit 121, nat_lit 124, nat_lit 131, nat_lit 132, nat_lit 133, nat_lit 136, nat_lit 143, nat_lit 144, nat_lit 145, nat_lit 148, nat_lit 155, nat_lit 156, nat_lit 157, nat_lit 160, nat_lit 167, nat_lit 168, nat_lit 169, nat_lit 172, nat_lit 174, nat_lit 175, nat_lit 177, nat_lit 178, nat_lit 179, nat_lit 182, nat_lit 183, nat_lit 184, nat_lit 186, nat_lit 187, nat_lit 189, nat_lit 190, nat_lit 191, nat_lit 193, nat_lit 194, nat_lit 196, nat_lit 197, nat_lit 198, nat_lit 200, nat_lit 201, nat_lit 203, nat_lit 204, nat_lit 205, nat_lit 208, nat_lit 209, nat_lit 210, nat_lit 212, nat_lit 213, nat_lit 215, nat_lit 216, nat_lit 217, nat_lit 219, nat_lit 220, nat_lit 222, nat_lit 223, nat_lit 224, nat_lit 226, nat_lit 227, nat_lit 229, nat_lit 230, nat_lit 231, nat_lit 233, nat_lit 234, nat_lit 236, nat_lit 237, nat_lit 238, nat_lit 241, nat_lit 242, nat_lit 243, nat_lit 246, nat_lit 247, nat_lit 248, nat_lit 250, nat_lit 251, nat_lit 253, nat_lit 254, nat_lit 255, nat_lit 257, nat_lit 258, nat_lit 260, nat_lit 261, nat_lit 262, nat_lit 264, nat_lit 265, nat_lit 267, nat_lit 268, nat_lit 269, nat_lit 272, nat_lit 273, nat_lit 274, nat_lit 276, nat_lit 277, nat_lit 279, nat_lit 280, nat_lit 281, nat_lit 283, nat_lit 284, nat_lit 286, nat_lit 287, nat_lit 288, nat_lit 290, nat_lit 291, nat_lit 293, nat_lit 294] (fun _ => by kernel_rfl)); (case hw => w_witness2)
  k_fill
  refine L2.walk_law (l := PySem.Challenge.rw_deeprests_k73_no_parts) (k := 7) (CX := fun _ => L2.CX0) rfl rfl ⟨rfl, by decide, by decide⟩ (fun w h Y => PySem.W.kIn_of Y) (fun _ _ _ _ _ z => z) ?F
  case F =>
    intro w mg fa h KX G hmg
    refine' K73.all_mk KX G hmg ?a1 ?l1 ?c1 ?k1 ?a2 ?l2 ?c2 ?k2 ?a3 ?l3 ?c3 ?k3 ?a4 ?l4 ?c4 ?k4 ?a5 ?l5 ?c5 ?k5 ?a6 ?l6 ?c6 ?k6 ?a7 ?l7 ?c7 ?k7 ?a8 ?l8 ?c8 ?k8 ?a9 ?l9 ?c9 ?k9 ?a10 ?l10 ?c10 ?k10 ?a11 ?l11 ?c11 ?k11 ?a12 ?l12 ?c12 ?k12 ?a13 ?l13 ?c13 ?k13 ?a14 ?l14 ?c14 ?k14 ?a15 ?l15 ?c15 ?k15 ?a16 ?l16 ?c16 ?k16 ?a17 ?l17 ?c17 ?k17 ?a18 ?l18 ?c18 ?k18 ?a19 ?l19 ?c19 ?k19 ?z_ValueError ?z_enumerate ?z_isinstance ?z_len ?z_list ?z_max ?z_min ?z_range ?z_zip ?z_NoBall ?z_NoDepth ?z_NoInverse ?z_NoName ?z_NoParts ?z_NoPrime ?z_NoRow ?z_NoSingle ?z_NoSmall ?z_NoText ?z_RestError ?z_TooDeep ?z_TooGreat ?x_NoParts ?m_NoParts_RestError ?f_NoParts ?i_NoParts_NoBall ?i_NoParts_NoDepth ?i_NoParts_NoInverse ?i_NoParts_NoName ?i_NoParts_NoParts ?i_NoParts_NoPrime ?i_NoParts_NoRow ?i_NoParts_NoSingle ?i_NoParts_NoSmall ?i_NoParts_NoText ?i_NoParts_RestError ?i_NoParts_TooDeep ?i_NoParts_TooGreat ?i_NoParts_ValueError
    (case a1 => k_is)
    (case l1 => k_is)
    (case c1 => k_is)
    (case k1 => k_is)
    (case a2 => k_is)
    (case l2 => k_is)
    (case c2 => k_is)
    (case k2 => k_is)
    (case a3 => k_is)
    (case l3 => k_is)
    (case c3 => k_is)
    (case k3 => k_is)
    (case a4 => k_is)
    (case l4 => k_is)
    (case c4 => k_is)
    (case k4 => k_is)
    (case a5 => k_is)
    (case l5 => k_is)
    (case c5 => k_is)
    (case k5 => k_is)
    (case a6 => k_is)
    (case l6 => k_is)
    (case c6 => k_is)
    (case k6 => k_is)
    (case a7 => k_is)
    (case l7 => k_is)
    (case c7 => k_is)
    (case k7 => k_is)
    (case a8 => k_is)
    (case l8 => k_is)
    (case c8 => k_is)
    (case k8 => k_is)
    (case a9 => k_is)
    (case l9 => k_is)
    (case c9 => k_is)
    (case k9 => k_is)
    (case a10 => k_is)
    (case l10 => k_is)
    (case c10 => k_is)
    (case k10 => k_is)
    (case a11 => k_is)
    (case l11 => k_is)
    (case c11 => k_is)
    (case k11 => k_is)
    (case a12 => k_is)
    (case l12 => k_is)
    (case c12 => k_is)
    (case k12 => k_is)
    (case a13 => k_is)
    (case l13 => k_is)
    (case c13 => k_is)
    (case k13 => k_is)
    (case a14 => k_is)
    (case l14 => k_is)
    (case c14 => k_is)
    (case k14 => k_is)
    (case a15 => k_is)
    (case l15 => k_is)
    (case c15 => k_is)
    (case k15 => k_is)
    (case a16 => k_is)
    (case l16 => k_is)
    (case c16 => k_is)
    (case k16 => k_is)
    (case a17 => k_is)
    (case l17 => k_is)
    (case c17 => k_is)
    (case k17 => k_is)
    (case a18 => k_is)
    (case l18 => k_is)
    (case c18 => k_is)
    (case k18 => k_is)
    (case a19 => k_is)
    (case l19 => k_is)
    (case c19 => k_is)
    (case k19 => k_is)
    (case z_ValueError => k_is)
    (case z_enumerate => k_is)
    (case z_isinstance => k_is)
    (case z_len => k_is)
    (case z_list => k_is)
    (case z_max => k_is)
    (case z_min => k_is)
    (case z_range => k_is)
    (case z_zip => k_is)
    (case z_NoBall => k_is)
    (case z_NoDepth => k_is)
    (case z_NoInverse => k_is)
    (case z_NoName => k_is)
    (case z_NoParts => k_is)
    (case z_NoPrime => k_is)
    (case z_NoRow => k_is)
    (case z_NoSingle => k_is)
    (case z_NoSmall => k_is)
    (case z_NoText => k_is)
    (case z_RestError => k_is)
    (case z_TooDeep => k_is)
    (case z_TooGreat => k_is)
    (case x_NoParts => show PySem.W.excIn _ _ _ _ = true; kernel_rfl)
    (case m_NoParts_RestError => kernel_rfl)
    (case f_NoParts => exact ⟨by k_is, by k_is, by k_is, by k_is, by k_is, by k_is, by k_is, by k_is⟩)
    (case i_NoParts_NoBall => kernel_rfl)
    (case i_NoParts_NoDepth => kernel_rfl)
    (case i_NoParts_NoInverse => kernel_rfl)
    (case i_NoParts_NoName => kernel_rfl)
    (case i_NoParts_NoParts => kernel_rfl)
    (case i_NoParts_NoPrime => kernel_rfl)
    (case i_NoParts_NoRow => kernel_rfl)
    (case i_NoParts_NoSingle => kernel_rfl)
    (case i_NoParts_NoSmall => kernel_rfl)
    (case i_NoParts_NoText => kernel_rfl)
    (case i_NoParts_RestError => kernel_rfl)
    (case i_NoParts_TooDeep => kernel_rfl)
    (case i_NoParts_TooGreat => kernel_rfl)
    (case i_NoParts_ValueError => kernel_rfl)