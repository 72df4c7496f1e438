import PyProof.Rows.All
import Wide.All
import OpenK.AllK
import Wide.FinOn
import Lean
import PyProof.EqAt
import PyProof.EqKinds
import PyProof.TupleCall
import PySem.Challenge.RW_deeprests_k46_refused_roots
set_option Elab.async false
set_option linter.all false
set_option maxRecDepth 100000
set_option compiler.extract_closed false
namespace L2
open PySem PySem.Spec PyProof.Rows
noncomputable abbrev Key := Sum Int Str
noncomputable def keyIs : Key → Value → Bool
  | .inl k, v => Value.isInt k v
  | .inr x, v => Value.isStrOf x v
noncomputable def keyH (w : World) : Key → Int
  | .inl k => hashInt k
  | .inr x => hashStr w x
theorem keyIs_shape : ∀ {k : Key} {v : Value}, keyIs k v = true → (∃ i t, k = Sum.inl i ∧ v = Value.int i t) ∨ (∃ x t, k = Sum.inr x ∧ v = Value.str x t)
  | .inl i, v, h => by
    obtain ⟨t, e⟩ := Value.isInt_shape (k := i) (v := v) h
    exact .inl ⟨i, t, rfl, e⟩
  | .inr x, v, h => by
    obtain ⟨t, e⟩ := Value.isStrOf_shape (x := x) (v := v) h
    exact .inr ⟨x, t, rfl, e⟩
theorem key_ll (a b : Int) : decide ((Sum.inl a : Key) = Sum.inl b) = (a == b) := by
  by_cases e : a = b
  · subst e; simp
  · have h : ¬ (Sum.inl a : Key) = Sum.inl b := fun q => e (Sum.inl.inj q)
    rw [decide_eq_false h]
    exact (beq_eq_false_iff_ne.mpr e).symm
theorem key_rr (a b : Str) : decide ((Sum.inr a : Key) = Sum.inr b) = decide (a = b) := by
  by_cases e : a = b
  · subst e; simp
  · have h : ¬ (Sum.inr a : Key) = Sum.inr b := fun q => e (Sum.inr.inj q)
    rw [decide_eq_false h, decide_eq_false e]
theorem key_lr (a : Int) (b : Str) : decide ((Sum.inl a : Key) = Sum.inr b) = false := decide_eq_false (fun q => nomatch q)
theorem key_rl (a : Str) (b : Int) : decide ((Sum.inr a : Key) = Sum.inl b) = false := decide_eq_false (fun q => nomatch q)
noncomputable def mixKind (prog : Program) (w : World) : PySem.KeyKind prog w Key where
  is := keyIs
  hash := keyH w
  inj := fun v a b ha hb => by
    rcases keyIs_shape ha with ⟨i, t, rfl, rfl⟩ | ⟨x, t, rfl, rfl⟩
    · rcases keyIs_shape hb with ⟨j, u, rfl, e⟩ | ⟨y, u, rfl, e⟩
      · injection e with e1 _; rw [e1]
      · exact nomatch e
    · rcases keyIs_shape hb with ⟨j, u, rfl, e⟩ | ⟨y, u, rfl, e⟩
      · exact nomatch e
      · injection e with e1 _; rw [e1]
  byValue := fun k v h => by
    rcases keyIs_shape h with ⟨i, t, rfl, rfl⟩ | ⟨x, t, rfl, rfl⟩ <;> rfl
  pyHash := fun hv h => by
    rcases keyIs_shape hv with ⟨i, t, rfl, rfl⟩ | ⟨x, t, rfl, rfl⟩
    · exact wpAny_pyHash_int h
    · exact wpAny_pyHash_str h
  eqBool := fun hu hv h => by
    rcases keyIs_shape hu with ⟨i, t, rfl, rfl⟩ | ⟨x, t, rfl, rfl⟩
    · rcases keyIs_shape hv with ⟨j, u, rfl, rfl⟩ | ⟨y, u, rfl, rfl⟩
      · rw [key_ll] at h; exact wpAny_eqBool_int h
      · rw [key_lr] at h; exact SeqAt.EqAt.int_str i t y u _ _ _ _ h
    · rcases keyIs_shape hv with ⟨j, u, rfl, rfl⟩ | ⟨y, u, rfl, rfl⟩
      · rw [key_rl] at h; exact SeqAt.EqAt.str_int x t j u _ _ _ _ h
      · rw [key_rr] at h; exact wpAny_eqBool_str h
  «strs» := fun k x t v h => by
    rcases keyIs_shape h with ⟨i, u, rfl, e⟩ | ⟨y, u, rfl, e⟩
    · exact nomatch e
    · injection e with e1 _
      subst e1
      cases v <;> rfl
end L2
namespace L2
open PySem PySem.Spec PyProof.Rows
inductive V where
  | non | bl (b : Bool) | int (i : Int) | str (x : Str) | byt (b : Array UInt8) | flt (b : UInt64) | ref (a : Addr) | ty (n : String)
  deriving DecidableEq
noncomputable def RelV : V → Value → Prop
  | .non, u => u = Value.none
  | .bl b, u => u = Value.bool b
  | .int i, u => ∃ t, u = Value.int i t
  | .str x, u => ∃ t, u = Value.str x t
  | .byt b, u => ∃ t, u = Value.bytes b t
  | .flt b, u => ∃ t, u = Value.float b t
  | .ref a, u => u = Value.ref a
  | .ty n, u => u = Value.type n
noncomputable abbrev Vals : List V → List Value → Prop := Paired RelV
theorem Vals.length {xs : List V} {us : List Value} (r : Vals xs us) : xs.length = us.length := Paired.length r
theorem Vals.get : ∀ {xs : List V} {us : List Value} {i : Nat} {x : V}, Vals xs us → xs[i]? = some x → ∃ u, us[i]? = some u ∧ RelV x u
  | _, _, _, _, .nil, e => by simp at e
  | _, _, 0, _, .cons r _, e => by simp at e; subst e; exact ⟨_, rfl, r⟩
  | _, _, i + 1, x, .cons _ t, e => by
    obtain ⟨u, h1, h2⟩ := Vals.get (i := i) (x := x) t (by simpa using e)
    exact ⟨u, by simpa using h1, h2⟩
theorem Vals.set {x : V} {u : Value} (r : RelV x u) : ∀ {xs : List V} {us : List Value} (i : Nat), Vals xs us → Vals (xs.set i x) (us.set i u)
  | _, _, _, .nil => .nil
  | _, _, 0, .cons _ t => .cons r t
  | _, _, i + 1, .cons q t => .cons q (Vals.set r i t)
theorem Vals.append : ∀ {xs ys : List V} {us ws : List Value}, Vals xs us → Vals ys ws → Vals (xs ++ ys) (us ++ ws)
  | _, _, _, _, .nil, s => s
  | _, _, _, _, .cons r t, s => .cons r (Vals.append t s)
theorem Vals.take : ∀ {xs : List V} {us : List Value} (n : Nat), Vals xs us → Vals (xs.take n) (us.take n)
  | _, _, 0, _ => .nil
  | _, _, _ + 1, .nil => .nil
  | _, _, n + 1, .cons r t => .cons r (Vals.take n t)
theorem Vals.drop : ∀ {xs : List V} {us : List Value} (n : Nat), Vals xs us → Vals (xs.drop n) (us.drop n)
  | _, _, 0, r => r
  | _, _, _ + 1, .nil => .nil
  | _, _, n + 1, .cons _ t => Vals.drop n t
noncomputable def RelO : Option V → Option Value → Prop
  | some v, some u => RelV v u
  | none, none => True
  | _, _ => False
noncomputable def KV {κ : Type} : List (κ × V) → List (κ × Value) → Prop := Paired fun (p : κ × V) (q : κ × Value) => p.1 = q.1 ∧ RelV p.2 q.2
noncomputable def kV : Key → V
  | .inl i => .int i
  | .inr x => .str x
inductive HO where
  | lst (xs : List V)
  | tup (xs : List V)
  | dK (kvs : List (Key × V)) | dT (kvs : List (List Key × V))
  | set (S : Int → Bool) (n : Nat)
  | ins (C dx : Addr) (fs : List (Str × V))
  | own (x : Addr)
  | xd (fs : List (Str × V))
  | met (f x : Addr)
  | rng (lo hi : Int)
  | frz (o : Obj) (u : HO)
  | tbl (ps : Array Value)
  | ext (φ : Heap → Prop)
noncomputable abbrev Hp := Addr → Option HO
noncomputable def upd (H : Hp) (a : Addr) (o : HO) : Hp := fun b => if b = a then some o else H b
theorem upd_same {H : Hp} {a : Addr} {o : HO} : upd H a o a = some o := by unfold upd; rw [if_pos rfl]
theorem upd_ne {H : Hp} {a b : Addr} {o : HO} (h : b ≠ a) : upd H a o b = H b := by unfold upd; rw [if_neg h]
theorem ne_of_none {H : Hp} {a b : Addr} {o : HO} (h : H a = some o) (h' : H b = none) : a ≠ b := by
  intro e; subst e; rw [h] at h'; cases h'
section
variable (P : Program) (w : World)
noncomputable def ObjOk (H : Hp) (h : Heap) (a : Addr) : HO → Prop
  | .lst xs => xs.length ≤ sizeLine ∧ ∃ (its : List Value) (n : Nat), Vals xs its ∧ h.get? a = some { cls := .type "list", data := .seq its.toArray n }
  | .tup xs => xs.length ≤ sizeLine ∧ ∃ its : List Value, Vals xs its ∧ IsTup h a its.toArray
  | .dK kvs => kvs.length ≤ sizeLine ∧ (a == sysModules) = false ∧ ∃ vs, KV kvs vs ∧ h.DictOf (mixKind P w) a vs
  | .dT kvs => kvs.length ≤ sizeLine ∧ (a == sysModules) = false ∧ ∃ xs : List (List Key × Addr × Value),
      Paired (fun (p : List Key × V) (q : List Key × Addr × Value) => p.1 = q.1 ∧ H q.2.1 = some (.tup (p.1.map kV)) ∧ RelV p.2 q.2.2) kvs xs ∧
      ∃ o es ep, h.get? a = some o ∧ o.ExactDict ∧ o.data = .dict es ep ∧ es.toList = xs.map (entryOfKey (tupleKind (mixKind P w))) ∧ (xs.map (·.1)).Nodup
  | .set S n => h.SetOf (intKind P w) a S n
  | .ins C dx fs => H dx = some (.own a) ∧ fs.length ≤ 1000 ∧ dx ≠ a ∧ h.get? a = some (PySem.W.instObj C dx) ∧
      ∃ mA, h.Ns1 dx mA ∧ (∀ f, RelO (fs.lookup f) (mA f)) ∧ PySem.Within mA (fs.map (·.1))
  | .own _ => ∃ o, h.get? a = some o
  | .xd fs => ∃ mA, h.Ns1 a mA ∧ ∀ f, RelO (fs.lookup f) (mA f)
  | .rng lo hi => ∃ t u v, h.get? a = some { cls := .type "range", data := .fields #[.int lo t, .int hi u, .int 1 v] }
  | .frz o u => h.get? a = some o ∧ ObjOk H h a u
  | .tbl ps => h.get? a = some { cls := .none, data := .fields ps }
  | .met f x => h.get? a = some (PySem.W.methodObj (.ref f) (.ref x))
  | .ext φ => φ h ∧ (∃ o, h.get? a = some o) ∧ ∀ h1 h2 : Heap, φ h1 → (∀ o, h1.get? a = some o → h2.get? a = some o) → φ h2
noncomputable def HOk (H : Hp) (h : Heap) : Prop := ∀ a o, H a = some o → ObjOk P w H h a o
end
section
variable {P : Program} {w : World} {H H' : Hp} {h h' : Heap} {a : Addr} {o : HO}
theorem ObjOk.lt (x : ObjOk P w H h a o) : a < h.objs.size := by
  cases o with
  | lst xs => obtain ⟨_, _, _, _, e⟩ := x; exact Heap.lt_size e
  | tup xs => obtain ⟨_, _, _, p⟩ := x; exact p.lt
  | dK kvs => obtain ⟨_, _, _, _, o, _, _, e, _⟩ := x; exact Heap.lt_size e
  | dT kvs => obtain ⟨_, _, _, _, o, _, _, e, _⟩ := x; exact Heap.lt_size e
  | set S n => obtain ⟨o, _, _, _, e, _⟩ := x; exact Heap.lt_size e
  | ins C dx fs => obtain ⟨_, _, _, e, _⟩ := x; exact Heap.lt_size e
  | own y => obtain ⟨_, e⟩ := x; exact Heap.lt_size e
  | xd fs => obtain ⟨_, ⟨_, _, _, e, _⟩, _⟩ := x; exact Heap.lt_size e
  | rng lo hi => obtain ⟨_, _, _, e⟩ := x; exact Heap.lt_size e
  | frz ob u => obtain ⟨e, _⟩ := x; exact Heap.lt_size e
  | tbl ps => exact Heap.lt_size (show h.get? a = some _ from x)
  | met f y => exact Heap.lt_size (show h.get? a = some _ from x)
  | ext φ => obtain ⟨_, ⟨_, e⟩, _⟩ := x; exact Heap.lt_size e
theorem Paired.mapP {α β : Type} {F G : α → β → Prop} : ∀ {l₁ : List α} {l₂ : List β}, Paired F l₁ l₂ → (∀ a b, F a b → G a b) → Paired G l₁ l₂
  | _, _, .nil, _ => .nil
  | _, _, .cons r t, f => .cons (f _ _ r) (Paired.mapP t f)
theorem ObjOk.stay (x : ObjOk P w H h a o) (k : ∀ b u, (b = a ∨ H b = some (.own a)) → h.get? b = some u → h'.get? b = some u)
    (ho : ∀ b, H b = some (.own a) → H' b = some (.own a)) (ht : ∀ b xs, H b = some (.tup xs) → H' b = some (.tup xs)) : ObjOk P w H' h' a o := by
  induction o with
  | lst xs => obtain ⟨z, its, n, r, e⟩ := x; exact ⟨z, its, n, r, k _ _ (.inl rfl) e⟩
  | tup xs => obtain ⟨z, its, r, ob, e, c⟩ := x; exact ⟨z, its, r, ob, k _ _ (.inl rfl) e, c⟩
  | dK kvs => obtain ⟨z, y, vs, r, ob, es, ep, e, c⟩ := x; exact ⟨z, y, vs, r, ob, es, ep, k _ _ (.inl rfl) e, c⟩
  | dT kvs =>
    obtain ⟨z, y, xs, r, ob, es, ep, e, c⟩ := x
    exact ⟨z, y, xs, Paired.mapP r fun p q z => ⟨z.1, ht _ _ z.2.1, z.2.2⟩, ob, es, ep, k _ _ (.inl rfl) e, c⟩
  | set S n => obtain ⟨ob, es, ep, t, e, c⟩ := x; exact ⟨ob, es, ep, t, k _ _ (.inl rfl) e, c⟩
  | ins C dx fs =>
    obtain ⟨d, z, ne, e, mA, ⟨od, es, ep, e2, c⟩, r⟩ := x
    exact ⟨ho _ d, z, ne, k _ _ (.inl rfl) e, mA, ⟨od, es, ep, k _ _ (.inr d) e2, c⟩, r⟩
  | own y => obtain ⟨ob, e⟩ := x; exact ⟨ob, k _ _ (.inl rfl) e⟩
  | xd fs => obtain ⟨mA, ⟨od, es, ep, e, c⟩, r⟩ := x; exact ⟨mA, ⟨od, es, ep, k _ _ (.inl rfl) e, c⟩, r⟩
  | rng lo hi => obtain ⟨t, u, v, e⟩ := x; exact ⟨t, u, v, k _ _ (.inl rfl) e⟩
  | frz ob u ih => obtain ⟨e, q⟩ := x; exact ⟨k _ _ (.inl rfl) e, ih q⟩
  | tbl ps =>
    have e : h.get? a = some { cls := .none, data := .fields ps } := x
    show h'.get? a = some { cls := .none, data := .fields ps }
    exact k a _ (.inl rfl) e
  | met f y =>
    have e : h.get? a = some (PySem.W.methodObj (.ref f) (.ref y)) := x
    show h'.get? a = some (PySem.W.methodObj (.ref f) (.ref y))
    exact k a _ (.inl rfl) e
  | ext φ => obtain ⟨p, ⟨o, e⟩, st⟩ := x; exact ⟨st _ _ p fun o q => k _ _ (.inl rfl) q, ⟨o, k _ _ (.inl rfl) e⟩, st⟩
theorem HOk.lt (x : HOk P w H h) (e : H a = some o) : a < h.objs.size := (x a o e).lt
theorem HOk.fresh (x : HOk P w H h) (e : h.objs.size ≤ a) : H a = none := by
  cases q : H a with
  | none => rfl
  | some u => exact absurd (Nat.lt_of_lt_of_le (x.lt q) e) (Nat.lt_irrefl _)
theorem HOk.kept (x : HOk P w H h) (k : ∀ b u, h.get? b = some u → h'.get? b = some u) : HOk P w H h' := fun a o e =>
  (x a o e).stay (fun b u _ q => k b u q) (fun _ q => q) fun _ _ q => q
theorem HOk.laid (x : HOk P w H h) (k : ∀ b u, h.get? b = some u → h'.get? b = some u) (hp : h.objs.size ≤ a) (new : ObjOk P w (upd H a o) h' a o) : HOk P w (upd H a o) h' := fun b u e => by
  have hn := x.fresh hp
  by_cases hb : b = a
  · subst hb; rw [upd_same] at e; cases e; exact new
  · rw [upd_ne hb] at e
    exact (x b u e).stay (fun c v _ q => k c v q) (fun c q => by rw [upd_ne (ne_of_none q hn)]; exact q) fun c xs q => by rw [upd_ne (ne_of_none q hn)]; exact q
end
noncomputable def Rd (H : Hp) (a : Addr) (u : HO) : Prop := H a = some u ∨ ∃ o, H a = some (.frz o u)
theorem Rd.ok {P : Program} {w : World} {H : Hp} {h : Heap} {a : Addr} {u : HO} (r : Rd H a u) (x : HOk P w H h) : ObjOk P w H h a u := by
  rcases r with r | ⟨o, r⟩
  · exact x a u r
  · obtain ⟨_, q⟩ := x a _ r
    exact q
noncomputable def Mut : Option HO → Prop
  | some (.lst _) => True
  | some (.dK _) => True
  | some (.dT _) => True
  | some (.set _ _) => True
  | some (.ins _ _ _) => True
  | some (.ext _) => True
  | _ => False
section
variable {P : Program} {w : World} {H : Hp} {h h' : Heap} {x e : Addr} {o' : HO}
theorem HOk.write (ok : HOk P w H h) (mu : Mut (H x)) (he : e = x ∨ H e = some (.own x)) (k : ∀ b u, b ≠ e → h.get? b = some u → h'.get? b = some u) (heo : ∃ u, h'.get? e = some u)
    (new : ObjOk P w (upd H x o') h' x o') : HOk P w (upd H x o') h' := fun b u q => by
  have nown : ∀ c y, H c = some (.own y) → c ≠ x := fun c y r z => by subst z; rw [r] at mu; exact mu
  have ntup : ∀ c xs, H c = some (.tup xs) → c ≠ x := fun c xs r z => by subst z; rw [r] at mu; exact mu
  by_cases hb : b = x
  · subst hb; rw [upd_same] at q; cases q; exact new
  · rw [upd_ne hb] at q
    by_cases hbe : b = e
    · have q' : H b = some (.own x) := by
        rcases he with z | z
        · exact absurd (hbe.trans z) hb
        · rw [hbe]; exact z
      rw [q] at q'; cases q'
      obtain ⟨v, hv⟩ := heo
      exact ⟨v, by rw [hbe]; exact hv⟩
    · refine (ok b u q).stay (fun c v hc r => k c v ?_ r) (fun c r => by rw [upd_ne (nown c b r)]; exact r) fun c xs r => by rw [upd_ne (ntup c xs r)]; exact r
      rcases hc with rfl | hc
      · exact hbe
      · rintro rfl
        rcases he with z | z
        · exact nown c b hc z
        · rw [hc] at z; cases z; exact hb rfl
end
structure Un (fs ex : List Addr) (H H' : Hp) (h h' : Heap) : Prop where
  keep : ∀ b o, h.get? b = some o → H b = none → b ∉ fs → b ∉ ex → h'.get? b = some o
  slot : ∀ b o, h.get? b = some o → H b = none → b ∈ fs → b ∉ ex → ∃ sl, h'.get? b = some { o with slots := sl }
  free : ∀ b o, h.get? b = some o → H b = none → b ∉ ex → H' b = none
  there : ∀ b o, h.get? b = some o → b ∉ ex → ∃ o', h'.get? b = some o'
  tups : ∀ b xs, H b = some (.tup xs) → H' b = some (.tup xs)
  frzs : ∀ b o u, H b = some (.frz o u) → H' b = some (.frz o u)
  tbls : ∀ b ps, H b = some (.tbl ps) → ∃ more, H' b = some (.tbl (ps ++ more))
section
variable {fs fs' ex ex' : List Addr} {H H1 H2 : Hp} {h h1 h2 h' : Heap} {a x e : Addr} {o : HO}
theorem Un.any (u : Un fs ex H H1 h h1) {b : Addr} {ob : Obj} (q : h.get? b = some ob) (n : H b = none) (hx : b ∉ ex) : ∃ sl, h1.get? b = some { ob with slots := sl } := by
  by_cases hb : b ∈ fs
  · exact u.slot b ob q n hb hx
  · exact ⟨ob.slots, u.keep b ob q n hb hx⟩
theorem Un.kept (k : ∀ b u, h.get? b = some u → h'.get? b = some u) : Un fs ex H H h h' :=
  ⟨fun b ob q _ _ _ => k b ob q, fun b ob q _ _ _ => ⟨ob.slots, k b ob q⟩, fun _ _ _ n _ => n, fun b ob q _ => ⟨ob, k b ob q⟩, fun _ _ q => q, fun _ _ _ q => q, fun _ ps q => ⟨#[], by rw [q]; simp⟩⟩
theorem Un.refl : Un fs ex H H h h := Un.kept fun _ _ q => q
theorem Un.laid (k : ∀ b u, h.get? b = some u → h'.get? b = some u) (hp : h.objs.size ≤ a) (hn : H a = none) : Un fs ex H (upd H a o) h h' where
  keep := fun b u q _ _ _ => k b u q
  slot := fun b u q _ _ _ => ⟨u.slots, k b u q⟩
  free := fun b u q n _ => by rw [upd_ne (Nat.ne_of_lt (Nat.lt_of_lt_of_le (Heap.lt_size q) hp))]; exact n
  there := fun b u q _ => ⟨u, k b u q⟩
  tups := fun b xs q => by rw [upd_ne (ne_of_none q hn)]; exact q
  frzs := fun b u xs q => by rw [upd_ne (ne_of_none q hn)]; exact q
  tbls := fun b ps q => ⟨#[], by rw [upd_ne (ne_of_none q hn), q]; simp⟩
theorem Un.write (mu : Mut (H x)) (he : e = x ∨ H e = some (.own x)) (k : ∀ b u, b ≠ e → h.get? b = some u → h'.get? b = some u) (heo : ∃ u, h'.get? e = some u) : Un fs ex H (upd H x o) h h' := by
  have hx : ∀ b, H b = none → b ≠ x := fun b n z => by subst z; rw [n] at mu; exact mu
  have hb : ∀ b, H b = none → b ≠ e := fun b n z => by
    subst z
    rcases he with r | r
    · exact hx b n r
    · rw [n] at r; cases r
  have hm : ∀ b u, H b = some u → ¬ Mut (some u) → b ≠ x := fun b u q nm z => by subst z; rw [q] at mu; exact nm mu
  refine ⟨fun b u q n _ _ => k b u (hb b n) q, fun b u q n _ _ => ⟨u.slots, k b u (hb b n) q⟩, fun b u q n _ => by rw [upd_ne (hx b n)]; exact n, fun b u q _ => ?_,
    fun b xs q => by rw [upd_ne (hm b _ q fun z => z)]; exact q, fun b u xs q => by rw [upd_ne (hm b _ q fun z => z)]; exact q, fun b ps q => ⟨#[], by rw [upd_ne (hm b _ q fun z => z), q]; simp⟩⟩
  by_cases hbe : b = e
  · subst hbe; exact heo
  · exact ⟨u, k b u hbe q⟩
end
noncomputable def trk (h : Heap) (H : Hp) : List Addr := (List.range h.objs.size).filter fun a => (H a).isSome
noncomputable def hidT (h : Heap) (H : Hp) : Heap := PySem.W.hideAll h (trk h H)
theorem hidT_size (h : Heap) (H : Hp) : (hidT h H).objs.size = h.objs.size := PySem.W.hideAll_size _ _
theorem hidT_get {h : Heap} {H : Hp} {b : Addr} {o : Obj} (e : h.get? b = some o) (n : H b = none) : (hidT h H).get? b = some o :=
  PySem.W.hideAll_get _ e fun hm => by
    have q : (H b).isSome = true := (List.mem_filter.mp hm).2
    rw [n] at q; simp at q
theorem of_hidT {h : Heap} {H : Hp} {b : Addr} {o : Obj} (e : (hidT h H).get? b = some o) : h.get? b = some o ∧ H b = none := by
  have e' : h.get? b = some o := PySem.W.of_hideAll (trk h H) e
  refine ⟨e', ?_⟩
  cases q : H b with
  | none => rfl
  | some x =>
    have hm : b ∈ trk h H := List.mem_filter.mpr ⟨List.mem_range.mpr (Heap.lt_size e'), by simp [q]⟩
    have z : (hidT h H).get? b = none := PySem.W.hideAll_none (trk h H) hm
    rw [z] at e; cases e
noncomputable def allNews (g h : Heap) (L : Addr) : List (Addr × Obj) := (List.range h.objs.size).filterMap fun a => if a = L ∨ (g.get? a).isSome = true then none else (h.get? a).map fun o => (a, o)
noncomputable def rest (g h : Heap) (L d : Addr) : List (Addr × Obj) := (allNews g h L).filter fun p => decide (p.1 ≠ d)
end L2
namespace L2
open PySem PySem.Spec PyProof.Rows
structure Mod (K : PySem.W.Frag) (mg : Str → Option Value) (base : Heap) : Prop where
  kin : K.In base
  glob : base.Ns mainGlobals mg
  blt : ∃ mb, base.Ns builtinsNs mb ∧ ∀ x : Str, x ≠ "__name__" → mb x = bootBuiltins x
  nolimit : base.NoLimit
/-- the context: a def's body (or a comprehension's block) running. base: fixed through the whole law; s₀, H₀: the entry; outer: the frames whose slots others may change (a def's callers); stack: all frames that run;
   ex: iterators that were made ahead of the entry and are walked here (a comprehension's); fn: the names whose cells were made at the entry (a def: all; a comprehension's block: its own); calm: not within an except suite; pn: pins that every state bears; xe: what is wanted of an exception that leaves the code -/
structure Cx where
  prog : Program
  w : World
  K : PySem.W.Frag
  mg : Str → Option Value
  base : Heap
  A : Around
  N : List Str
  s₀ : Shared
  H₀ : Hp
  env : Env
  outer : List Env
  stack : List Env
  ex : List Addr
  fn : Str → Bool
  calm : Bool
  pn : List (Addr × Obj)
  xe : Value → Shared → Prop
noncomputable def frs (l : List Env) : List Addr := l.filterMap (·.frame)
noncomputable abbrev Cx.fs (X : Cx) : List Addr := frs X.outer
noncomputable def Vis (sc : Scope) (x : Str) : Prop := sc.names.lookup x = some .local ∨ sc.names.lookup x = some .cell ∨ sc.names.lookup x = some .free
noncomputable def Loc (sc : Scope) (x : Str) : Prop := sc.names.lookup x = some .local ∨ sc.names.lookup x = some .cell
noncomputable def Look (env : Env) (h : Heap) (m : Str → Option Value) (x : Str) (u : Value) : Prop :=
  (env.kindOf x = some .local ∧ m x = some u) ∨ ((env.kindOf x = some .cell ∨ env.kindOf x = some .free) ∧ ∃ c, env.cells.lookup x = some c ∧ h.IsCell c (some u))
structure Cx.Ok (X : Cx) : Prop where
  mod : Mod X.K X.mg X.base
  kind : X.env.scope.kind = .function
  glob : X.env.globals = mainGlobals
  blt : X.env.builtins = builtinsNs
  above : X.s₀.heap.objs.size ≤ X.env.locals
  inj : ∀ x y c, X.env.cells.lookup x = some c → X.env.cells.lookup y = some c → x = y
  has : ∀ x, (X.env.kindOf x = some .cell ∨ X.env.kindOf x = some .free) → ∃ c, X.env.cells.lookup x = some c
  cab : ∀ x c, X.fn x = true → X.env.cells.lookup x = some c → X.s₀.heap.objs.size ≤ c
  hd : X.calm = true → X.A.handled = none
  frames : X.A.frames = some X.stack
  stk : X.stack = X.outer ∨ (X.stack = X.env :: X.outer ∧ X.env.frame = some X.env.locals)
  exf : ∀ b ∈ X.ex, b ≠ X.env.locals ∧ ∀ x c, X.env.cells.lookup x = some c → c ≠ b
  bs : ∀ b o, X.base.get? b = some o → X.s₀.heap.get? b = some o ∧ X.H₀ b = none
  bsz : X.base.objs.size ≤ X.s₀.heap.objs.size
  noex : ∀ b o, X.base.get? b = some o → b ∉ X.ex
  exfs : ∀ b ∈ X.ex, b ∉ X.fs
  funs : X.s₀.heap.FunFrames X.base X.outer
  frf : ∀ b ∈ X.fs, X.H₀ b = none
structure Inv (X : Cx) (pins : List (Addr × Obj)) (σ : List (Option V)) (H : Hp) (s : Shared) : Prop where
  ok : X.Ok
  os : s.os = X.s₀.os
  bare : AllBare s.gens
  base : Un X.fs X.ex X.H₀ H X.s₀.heap s.heap
  loc : ∃ m, s.heap.Ns X.env.locals m ∧ ∀ (i : Nat) (x : Str) (v : V), X.N[i]? = some x → σ[i]? = some (some v) → Vis X.env.scope x → ∃ u, RelV v u ∧ Look X.env s.heap m x u
  cell : ∀ x c, X.env.cells.lookup x = some c → ∃ v, s.heap.IsCell c v
  free : H X.env.locals = none
  freeC : ∀ x c, X.env.cells.lookup x = some c → H c = none
  pin : ∀ p ∈ X.pn ++ pins, s.heap.get? p.1 = some p.2 ∧ H p.1 = none ∧ p.1 ≠ X.env.locals ∧ p.1 ∉ X.fs ∧ ∀ v, p.2.data ≠ .cell v
  hok : HOk X.prog X.w H s.heap
  len : σ.length = X.N.length
section
variable {X : Cx} {pins : List (Addr × Obj)} {σ : List (Option V)} {H H' : Hp} {s : Shared} {h' : Heap}
theorem Cx.Ok.nofr (ok : X.Ok) {b : Addr} {o : Obj} (e : X.base.get? b = some o) : b ∉ X.fs := fun hb => by
  have := (ok.funs.mem hb).1
  rw [e] at this; cases this
theorem Inv.bs (I : Inv X pins σ H s) : ∀ b o, X.base.get? b = some o → s.heap.get? b = some o ∧ H b = none := fun b o e =>
  ⟨I.base.keep b o (I.ok.bs b o e).1 (I.ok.bs b o e).2 (I.ok.nofr e) (I.ok.noex b o e), I.base.free b o (I.ok.bs b o e).1 (I.ok.bs b o e).2 (I.ok.noex b o e)⟩
theorem Inv.bk (I : Inv X pins σ H s) : ∀ b o, X.base.get? b = some o → s.heap.get? b = some o := fun b o e => (I.bs b o e).1
theorem Inv.mod (I : Inv X pins σ H s) : Mod X.K X.mg X.base := I.ok.mod
theorem Inv.kIn (I : Inv X pins σ H s) : X.K.In s.heap := I.ok.mod.kin.keeps I.bk
theorem Inv.lt (I : Inv X pins σ H s) : X.env.locals < s.heap.objs.size := let ⟨_, hn, _⟩ := I.loc; hn.lt
theorem Inv.sz (I : Inv X pins σ H s) : X.s₀.heap.objs.size ≤ s.heap.objs.size := Nat.le_trans I.ok.above (Nat.le_of_lt I.lt)
theorem Inv.nofs (I : Inv X pins σ H s) {a : Addr} (h : s.heap.objs.size ≤ a) : a ∉ X.fs := fun hb => by
  obtain ⟨_, o, ho, _⟩ := I.ok.funs.mem hb
  exact absurd (Nat.lt_of_lt_of_le (Heap.lt_size ho) (Nat.le_trans I.sz h)) (Nat.lt_irrefl _)
theorem Inv.cne (I : Inv X pins σ H s) : ∀ x c, X.env.cells.lookup x = some c → c ≠ X.env.locals := fun x c e z => by
  obtain ⟨v, o, ho, hd⟩ := I.cell x c e
  obtain ⟨m, ⟨o', es, ep, ho', hd', _⟩, _⟩ := I.loc
  rw [z, ho'] at ho; cases ho; rw [hd'] at hd; cases hd
theorem Inv.funs (I : Inv X pins σ H s) : s.heap.FunFrames X.base X.outer := by
  have all : ∀ (l : List Env), (∀ b ∈ frs l, b ∈ X.fs) → X.s₀.heap.FunFrames X.base l → s.heap.FunFrames X.base l := by
    intro l
    induction l with
    | nil => intro _ _; trivial
    | cons env r ih =>
      intro hs hl
      obtain ⟨hk, ⟨L, o, hf, hn, ho, hd⟩, hr⟩ := hl
      have hL : L ∈ X.fs := hs L (by unfold frs; rw [List.filterMap_cons, hf]; exact List.mem_cons_self)
      obtain ⟨sl, e⟩ := I.base.slot L o ho (I.ok.frf L hL) hL fun z => I.ok.exfs L z hL
      exact ⟨hk, ⟨L, _, hf, hn, e, hd⟩, ih (fun b hb => hs b (by unfold frs; rw [List.filterMap_cons, hf]; exact List.mem_cons_of_mem _ hb)) hr⟩
  exact all X.outer (fun _ hb => hb) I.ok.funs
theorem Inv.stack (I : Inv X pins σ H s) : s.heap.FunFrames X.base X.stack := by
  rcases I.ok.stk with e | ⟨e, hf⟩
  · rw [e]; exact I.funs
  · rw [e]
    obtain ⟨m, hn, _⟩ := I.loc
    refine .cons (by rw [I.ok.kind]; decide) hf hn ?_ I.funs
    exact Heap.get?_none_of_le (Nat.le_trans I.ok.bsz I.ok.above)
theorem Inv.stkSub (I : Inv X pins σ H s) : ∀ b ∈ frs X.stack, b ∈ X.env.locals :: X.fs := fun b hb => by
  rcases I.ok.stk with e | ⟨e, hf⟩
  · rw [e] at hb; exact List.mem_cons_of_mem _ hb
  · rw [e] at hb
    unfold frs at hb
    rw [List.filterMap_cons, hf] at hb
    exact hb
theorem Inv.stkFree (I : Inv X pins σ H s) : ∀ b ∈ frs X.stack, H b = none := fun b hb => by
  rcases List.mem_cons.mp (I.stkSub b hb) with e | hb
  · rw [e]; exact I.free
  · obtain ⟨_, o, ho, _⟩ := I.ok.funs.mem hb
    exact I.base.free b o ho (I.ok.frf b hb) fun z => I.ok.exfs b z hb
theorem Inv.step {g' : Array GenState} {t' : Nat} {d' : Drawn} {ch : List Addr} (I : Inv X pins σ H s)
    (hch : ∀ b ∈ ch, (b ∈ X.ex ∨ X.s₀.heap.objs.size ≤ b) ∧ b ≠ X.env.locals ∧ (∀ x c, X.env.cells.lookup x = some c → c ≠ b) ∧ ∀ p ∈ X.pn ++ pins, p.1 ≠ b)
    (keep : ∀ b o, b ≠ X.env.locals → b ∉ X.fs → b ∉ ch → s.heap.get? b = some o → H b = none → h'.get? b = some o)
    (slot : ∀ b o, b ≠ X.env.locals → b ∈ X.fs → b ∉ ch → s.heap.get? b = some o → H b = none → ∃ sl, h'.get? b = some { o with slots := sl }) (free : ∀ b o, b ∉ ch → s.heap.get? b = some o → H b = none → H' b = none)
    (there : ∀ b o, b ∉ ch → s.heap.get? b = some o → ∃ o', h'.get? b = some o')
    (tups : ∀ b xs, H b = some (.tup xs) → H' b = some (.tup xs)) (frzs : ∀ b o u, H b = some (.frz o u) → H' b = some (.frz o u)) (tbls : ∀ b ps, H b = some (.tbl ps) → ∃ more, H' b = some (.tbl (ps ++ more)))
    (ns : ∀ m, s.heap.Ns X.env.locals m → h'.Ns X.env.locals m) (hok : HOk X.prog X.w H' h') (hg : AllBare g') :
    Inv X pins σ H' { s with heap := h', gens := g', drawn := d', toks := t' } := by
  have neL : ∀ b o, X.s₀.heap.get? b = some o → b ≠ X.env.locals := fun b o e => Nat.ne_of_lt (Nat.lt_of_lt_of_le (Heap.lt_size e) I.ok.above)
  have neC : ∀ b o, X.s₀.heap.get? b = some o → b ∉ X.ex → b ∉ ch := fun b o e hx hb => by
    rcases (hch b hb).1 with z | z
    · exact hx z
    · exact absurd (Nat.lt_of_lt_of_le (Heap.lt_size e) z) (Nat.lt_irrefl _)
  have cellK : ∀ x c, X.env.cells.lookup x = some c → ∀ v, s.heap.IsCell c v → h'.IsCell c v := fun x c e v ⟨o, ho, hd⟩ => by
    have nch : c ∉ ch := fun z => (hch c z).2.2.1 x c e rfl
    by_cases hc : c ∈ X.fs
    · obtain ⟨sl, q⟩ := slot c o (I.cne x c e) hc nch ho (I.freeC x c e)
      exact ⟨_, q, hd⟩
    · exact ⟨o, keep c o (I.cne x c e) hc nch ho (I.freeC x c e), hd⟩
  refine ⟨I.ok, I.os, hg, ⟨fun b o e n hb hx => ?_, fun b o e n hb hx => ?_, fun b o e n hx => ?_, fun b o e hx => ?_, fun b xs e => tups b xs (I.base.tups b xs e), fun b o xs e => frzs b o xs (I.base.frzs b o xs e), fun b ps e => ?_⟩, ?_, fun x c e => ?_, ?_, fun x c e => ?_, fun p hp => ?_, hok, I.len⟩
  · exact keep b o (neL b o e) hb (neC b o e hx) (I.base.keep b o e n hb hx) (I.base.free b o e n hx)
  · obtain ⟨sl, e1⟩ := I.base.slot b o e n hb hx
    obtain ⟨sl', e2⟩ := slot b _ (neL b o e) hb (neC b o e hx) e1 (I.base.free b o e n hx)
    exact ⟨sl', e2⟩
  · obtain ⟨o', e1⟩ := I.base.there b o e hx
    exact free b o' (neC b o e hx) e1 (I.base.free b o e n hx)
  · obtain ⟨o', e1⟩ := I.base.there b o e hx
    exact there b o' (neC b o e hx) e1
  · obtain ⟨m1, e1⟩ := I.base.tbls b ps e
    obtain ⟨m2, e2⟩ := tbls b _ e1
    exact ⟨m1 ++ m2, by rw [e2, Array.append_assoc]⟩
  · obtain ⟨m, hn, hl⟩ := I.loc
    refine ⟨m, ns m hn, fun i x v e1 e2 e3 => ?_⟩
    obtain ⟨u, r, l⟩ := hl i x v e1 e2 e3
    refine ⟨u, r, ?_⟩
    rcases l with l | ⟨k, c, e, z⟩
    · exact .inl l
    · exact .inr ⟨k, c, e, cellK x c e _ z⟩
  · obtain ⟨v, z⟩ := I.cell x c e
    exact ⟨v, cellK x c e v z⟩
  · obtain ⟨m, ⟨o, _, _, ho, _⟩, _⟩ := I.loc
    exact free _ o (fun z => (hch _ z).2.1 rfl) ho I.free
  · obtain ⟨v, o, ho, hd⟩ := I.cell x c e
    exact free c o (fun z => (hch c z).2.2.1 x c e rfl) ho (I.freeC x c e)
  · obtain ⟨e, n, ne, nf, d⟩ := I.pin p hp
    have nch : p.1 ∉ ch := fun z => (hch p.1 z).2.2.2 p hp rfl
    exact ⟨keep p.1 p.2 ne nf nch e n, free p.1 p.2 nch e n, ne, nf, d⟩
theorem Inv.un {t' : Nat} (I : Inv X pins σ H s) (u : Un X.fs [] H H' s.heap h') (hok : HOk X.prog X.w H' h') : Inv X pins σ H' { s with heap := h', toks := t' } := by
  obtain ⟨m, ⟨o, es, ep, ho, r⟩, _⟩ := id I.loc
  obtain ⟨sl, hL⟩ := u.any ho I.free (by simp)
  exact I.step (g' := s.gens) (d' := s.drawn) (ch := []) (fun _ z => nomatch z) (fun b o _ hb _ e n => u.keep b o e n hb (by simp)) (fun b o _ hb _ e n => u.slot b o e n hb (by simp)) (fun b o _ e n => u.free b o e n (by simp)) (fun b o _ e => u.there b o e (by simp)) u.tups u.frzs u.tbls (fun m' hm => by
    obtain ⟨o', es', ep', ho', r'⟩ := hm
    rw [ho] at ho'; cases ho'
    exact ⟨_, es', ep', hL, r'⟩) hok I.bare
theorem Inv.call {g' : Array GenState} {t' : Nat} {d' : Drawn} {ch : List Addr} (I : Inv X pins σ H s) (u : Un (frs X.stack) ch H H' s.heap h') (hok : HOk X.prog X.w H' h') (hg : AllBare g')
    (hch : ∀ b ∈ ch, (b ∈ X.ex ∨ X.s₀.heap.objs.size ≤ b) ∧ b ≠ X.env.locals ∧ (∀ x c, X.env.cells.lookup x = some c → c ≠ b) ∧ ∀ p ∈ X.pn ++ pins, p.1 ≠ b) :
    Inv X pins σ H' { s with heap := h', gens := g', drawn := d', toks := t' } := by
  obtain ⟨m, ⟨o, es, ep, ho, r⟩, _⟩ := id I.loc
  obtain ⟨sl, hL⟩ := u.any ho I.free fun z => (hch _ z).2.1 rfl
  exact I.step (ch := ch) hch (fun b o hL hb hc e n => u.keep b o e n (fun z => (List.mem_cons.mp (I.stkSub b z)).elim hL hb) hc) (fun b o _ _ hc e n => u.any e n hc) (fun b o hc e n => u.free b o e n hc) (fun b o hc e => u.there b o e hc) u.tups u.frzs u.tbls (fun m' hm => by
    obtain ⟨o', es', ep', ho', r'⟩ := hm
    rw [ho] at ho'; cases ho'
    exact ⟨_, es', ep', hL, r'⟩) hok hg
theorem Inv.turned {t' : Nat} {it : Addr} (I : Inv X pins σ H s) (k : ∀ b o, b ≠ it → s.heap.get? b = some o → h'.get? b = some o) (hn : H it = none) (hL : it ≠ X.env.locals)
    (h1 : it ∈ X.ex ∨ X.s₀.heap.objs.size ≤ it) (h2 : ∀ x c, X.env.cells.lookup x = some c → c ≠ it) (h3 : ∀ p ∈ X.pn ++ pins, p.1 ≠ it) : Inv X pins σ H { s with heap := h', toks := t' } := by
  have nit : ∀ b u, H b = some u → b ≠ it := fun b u e z => by rw [z, hn] at e; cases e
  refine I.step (g' := s.gens) (d' := s.drawn) (ch := [it]) (fun b hb => ?_) (fun b o _ _ hc e _ => k b o (fun z => hc (by simp [z])) e) (fun b o _ _ hc e _ => ⟨o.slots, k b o (fun z => hc (by simp [z])) e⟩) (fun _ _ _ _ n => n)
    (fun b o hc e => ⟨o, k b o (fun z => hc (by simp [z])) e⟩) (fun _ _ e => e) (fun _ _ _ e => e) (fun b ps e => ⟨#[], by rw [e]; simp⟩) (fun m hm => ?_) (fun b u e => ?_) I.bare
  · have e : b = it := by simpa using hb
    subst e
    exact ⟨h1, hL, h2, h3⟩
  · obtain ⟨o, es, ep, ho, r⟩ := hm
    exact ⟨o, es, ep, k _ o (Ne.symm hL) ho, r⟩
  · refine (I.hok b u e).stay (fun c v hc q => k c v ?_ q) (fun _ q => q) fun _ _ q => q
    rcases hc with z | z
    · rw [z]; exact nit b u e
    · exact nit c _ z
theorem Inv.tok (I : Inv X pins σ H s) (t : Nat) : Inv X pins σ H { s with toks := t } := I.un (h' := s.heap) (t' := t) Un.refl I.hok
theorem Inv.kept {t' : Nat} (I : Inv X pins σ H s) (k : ∀ b u, s.heap.get? b = some u → h'.get? b = some u) : Inv X pins σ H { s with heap := h', toks := t' } := I.un (Un.kept k) (I.hok.kept k)
theorem Inv.laid {a : Addr} {o : HO} {t' : Nat} (I : Inv X pins σ H s) (k : ∀ b u, s.heap.get? b = some u → h'.get? b = some u) (hp : s.heap.objs.size ≤ a) (new : ObjOk X.prog X.w (upd H a o) h' a o) :
    Inv X pins σ (upd H a o) { s with heap := h', toks := t' } := I.un (Un.laid k hp (I.hok.fresh hp)) (I.hok.laid k hp new)
theorem Inv.write {x e : Addr} {o : HO} {t' : Nat} (I : Inv X pins σ H s) (mu : Mut (H x)) (he : e = x ∨ H e = some (.own x)) (k : ∀ b u, b ≠ e → s.heap.get? b = some u → h'.get? b = some u) (heo : ∃ u, h'.get? e = some u)
    (new : ObjOk X.prog X.w (upd H x o) h' x o) : Inv X pins σ (upd H x o) { s with heap := h', toks := t' } := I.un (Un.write mu he k heo) (I.hok.write mu he k heo new)
theorem Inv.pins_of {pins' : List (Addr × Obj)} (I : Inv X pins σ H s) (h : ∀ p ∈ pins', s.heap.get? p.1 = some p.2 ∧ H p.1 = none ∧ p.1 ≠ X.env.locals ∧ p.1 ∉ X.fs ∧ ∀ v, p.2.data ≠ .cell v) : Inv X pins' σ H s :=
  ⟨I.ok, I.os, I.bare, I.base, I.loc, I.cell, I.free, I.freeC, fun p hp => (List.mem_append.mp hp).elim (fun z => I.pin p (List.mem_append_left _ z)) (h p), I.hok, I.len⟩
theorem nodup_ix {N : List Str} (hN : N.Nodup) {i j : Nat} {x : Str} (a : N[i]? = some x) (b : N[j]? = some x) : i = j := by
  obtain ⟨h1, e1⟩ := List.getElem?_eq_some_iff.mp a
  obtain ⟨h2, e2⟩ := List.getElem?_eq_some_iff.mp b
  exact (List.getElem_inj hN).mp (e1.trans e2.symm)
theorem store_ok2 {M : Model} {A : Around} {E : Value → Shared → Prop} {i : Nat} {x : Str} {v : V} {u : Value} {Q : Unit → Shared → Prop} (I : Inv X pins σ H s) (hN : X.N.Nodup) (hi : X.N[i]? = some x) (hx : Loc X.env.scope x) (r : RelV v u)
    (h : ∀ s', Inv X pins (σ.set i (some v)) H s' → (∃ a, Heap.SameBut a s.heap s'.heap ∧ (a = X.env.locals ∨ X.env.cells.lookup x = some a)) → Q () s') (hf : X.fn x = true ∨ X.env.scope.names.lookup x = some .local := by first | exact .inl rfl | exact .inr rfl | assumption) : wpAny M A (storeName X.env x u) Q E s := by
  obtain ⟨m, hn, hl⟩ := id I.loc
  have hcls : (X.env.scope.kind == .class || (X.env.scope.kind == .module && X.env.locals != X.env.globals)) = false := by rw [I.ok.kind]; rfl
  have hiσ : i < σ.length := by rw [I.len]; exact (List.getElem?_eq_some_iff.mp hi).1
  have cne := I.cne
  have tracked : ∀ {a : Addr} {h' : Heap}, (∃ o, s.heap.get? a = some o ∧ H a = none) → Heap.SameBut a s.heap h' → HOk X.prog X.w H h' := fun {a h'} ha hs b ob e => by
    obtain ⟨_, _, hfree⟩ := ha
    refine (I.hok b ob e).stay (fun c w' hc q => (hs.2 c ?_).trans q) (fun _ q => q) fun _ _ q => q
    rintro rfl
    rcases hc with rfl | hc
    · rw [hfree] at e; cases e
    · rw [hfree] at hc; cases hc
  rcases hx with hk | hk
  · refine wpAny_storeName_local hk hn (fun h' hn' hs => ?_) hcls
    obtain ⟨oL, _, _, hoL, _⟩ := id hn
    refine h _ ⟨I.ok, I.os, I.bare, ⟨fun b o e n hb hx => ?_, fun b o e n hb hx => ?_, I.base.free, fun b o e hx => ?_, I.base.tups, I.base.frzs, I.base.tbls⟩, ⟨_, hn', fun j y v' e1 e2 e3 => ?_⟩, fun y c e => ?_, I.free, I.freeC, fun p hp => ?_, tracked ⟨oL, hoL, I.free⟩ hs, by simpa using I.len⟩ ⟨_, hs, .inl rfl⟩
    · exact (hs.2 b (Nat.ne_of_lt (Nat.lt_of_lt_of_le (Heap.lt_size e) I.ok.above))).trans (I.base.keep b o e n hb hx)
    · obtain ⟨sl, e1⟩ := I.base.slot b o e n hb hx
      exact ⟨sl, (hs.2 b (Nat.ne_of_lt (Nat.lt_of_lt_of_le (Heap.lt_size e) I.ok.above))).trans e1⟩
    · obtain ⟨o', e1⟩ := I.base.there b o e hx
      exact ⟨o', (hs.2 b (Nat.ne_of_lt (Nat.lt_of_lt_of_le (Heap.lt_size e) I.ok.above))).trans e1⟩
    · by_cases hj : j = i
      · subst hj
        rw [hi] at e1; cases e1
        rw [List.getElem?_set_self hiσ] at e2
        cases e2
        exact ⟨u, r, .inl ⟨hk, by simp⟩⟩
      · rw [List.getElem?_set_ne (Ne.symm hj)] at e2
        obtain ⟨u', r', q⟩ := hl j y v' e1 e2 e3
        refine ⟨u', r', ?_⟩
        rcases q with ⟨k, e⟩ | ⟨k, c, e, z⟩
        · refine .inl ⟨k, ?_⟩
          have : y ≠ x := fun e => hj (nodup_ix hN e1 (e ▸ hi))
          simp [this, e]
        · exact .inr ⟨k, c, e, z.sameBut hs (cne y c e)⟩
    · obtain ⟨w', z⟩ := I.cell y c e
      exact ⟨w', z.sameBut hs (cne y c e)⟩
    · obtain ⟨e, n, ne, nf, d⟩ := I.pin p hp
      exact ⟨(hs.2 p.1 ne).trans e, n, ne, nf, d⟩
  · have hfn : X.fn x = true := by
      rcases hf with z | z
      · exact z
      · rw [z] at hk; cases hk
    obtain ⟨c, hc⟩ := I.ok.has x (.inl hk)
    obtain ⟨w', z⟩ := I.cell x c hc
    refine wpAny_storeName_cell I.ok.kind hk hc z (fun h' hc' hs => ?_)
    obtain ⟨oc, hoc, hocd⟩ := id z
    refine h { s with heap := h' } ⟨I.ok, I.os, I.bare, ⟨fun b o e n hb hx => ?_, fun b o e n hb hx => ?_, I.base.free, fun b o e hx => ?_, I.base.tups, I.base.frzs, I.base.tbls⟩, ⟨m, hn.sameBut hs (Ne.symm (cne x c hc)), fun j y v' e1 e2 e3 => ?_⟩, fun y c' e => ?_, I.free, I.freeC, fun p hp => ?_, tracked ⟨oc, hoc, I.freeC x c hc⟩ hs, by simpa using I.len⟩ ⟨c, hs, .inr hc⟩
    · exact (hs.2 b (Nat.ne_of_lt (Nat.lt_of_lt_of_le (Heap.lt_size e) (I.ok.cab x c hfn hc)))).trans (I.base.keep b o e n hb hx)
    · obtain ⟨sl, e1⟩ := I.base.slot b o e n hb hx
      exact ⟨sl, (hs.2 b (Nat.ne_of_lt (Nat.lt_of_lt_of_le (Heap.lt_size e) (I.ok.cab x c hfn hc)))).trans e1⟩
    · obtain ⟨o', e1⟩ := I.base.there b o e hx
      exact ⟨o', (hs.2 b (Nat.ne_of_lt (Nat.lt_of_lt_of_le (Heap.lt_size e) (I.ok.cab x c hfn hc)))).trans e1⟩
    · by_cases hj : j = i
      · subst hj
        rw [hi] at e1; cases e1
        rw [List.getElem?_set_self hiσ] at e2
        cases e2
        exact ⟨u, r, .inr ⟨.inl hk, c, hc, hc'⟩⟩
      · rw [List.getElem?_set_ne (Ne.symm hj)] at e2
        obtain ⟨u', r', q⟩ := hl j y v' e1 e2 e3
        refine ⟨u', r', ?_⟩
        rcases q with q | ⟨k, c', e, z'⟩
        · exact .inl q
        · refine .inr ⟨k, c', e, z'.sameBut hs ?_⟩
          rintro rfl
          exact hj (nodup_ix hN e1 (I.ok.inj _ _ _ e hc ▸ hi))
    · by_cases hcc : c' = c
      · subst hcc; exact ⟨_, hc'⟩
      · obtain ⟨w2, z2⟩ := I.cell y c' e
        exact ⟨w2, z2.sameBut hs hcc⟩
    · obtain ⟨e, n, ne, nf, d⟩ := I.pin p hp
      refine ⟨(hs.2 p.1 ?_).trans e, n, ne, nf, d⟩
      intro q
      rw [q, hoc] at e
      have q' : oc = p.2 := Option.some.inj e
      exact d w' (by rw [← q']; exact hocd)
theorem store_ok {M : Model} {A : Around} {E : Value → Shared → Prop} {i : Nat} {x : Str} {v : V} {u : Value} {Q : Unit → Shared → Prop} (I : Inv X pins σ H s) (hN : X.N.Nodup) (hi : X.N[i]? = some x) (hx : Loc X.env.scope x) (r : RelV v u)
    (h : ∀ s', Inv X pins (σ.set i (some v)) H s' → Q () s') (hf : X.fn x = true ∨ X.env.scope.names.lookup x = some .local := by first | exact .inl rfl | exact .inr rfl | assumption) : wpAny M A (storeName X.env x u) Q E s :=
  store_ok2 I hN hi hx r (fun s' I' _ => h s' I') hf
theorem Inv.call' {s' : Shared} {ch : List Addr} (I : Inv X pins σ H s) (ho : s'.os = s.os) (u : Un (frs X.stack) ch H H' s.heap s'.heap) (hok : HOk X.prog X.w H' s'.heap) (hg : AllBare s'.gens)
    (hch : ∀ b ∈ ch, (b ∈ X.ex ∨ X.s₀.heap.objs.size ≤ b) ∧ b ≠ X.env.locals ∧ (∀ x c, X.env.cells.lookup x = some c → c ≠ b) ∧ ∀ p ∈ X.pn ++ pins, p.1 ≠ b) : Inv X pins σ H' s' := by
  obtain ⟨h', g', d', t', o'⟩ := s'
  have e : o' = s.os := ho
  subst e
  exact I.call (g' := g') (t' := t') (d' := d') u hok hg hch
end
noncomputable abbrev XK := Value → Option Addr → Hp → Prop
noncomputable abbrev St := List (Option V)
noncomputable abbrev VK := V → Hp → Prop
noncomputable abbrev TE := St → Hp → VK → Prop
noncomputable abbrev TT := St → Hp → (Bool → Hp → Prop) → Prop
noncomputable abbrev TA := St → Hp → (List V → Hp → Prop) → Prop
structure Ends where
  nx : St → Hp → Prop
  rt : VK
  bk : St → Hp → Prop := fun _ _ => False
  ct : St → Hp → Prop := fun _ _ => False
noncomputable abbrev TS := Ends → St → Hp → Prop
noncomputable def EP (X : Cx) (pins : List (Addr × Obj)) (σ : St) (Q : VK) (u : Value) (s' : Shared) : Prop := ∃ v H', Inv X pins σ H' s' ∧ RelV v u ∧ Q v H'
noncomputable def TP (X : Cx) (pins : List (Addr × Obj)) (σ : St) (Q : Bool → Hp → Prop) (b : Bool) (s' : Shared) : Prop := ∃ H', Inv X pins σ H' s' ∧ Q b H'
noncomputable def AP (X : Cx) (pins : List (Addr × Obj)) (σ : St) (Q : List V → Hp → Prop) (us : List Value) (s' : Shared) : Prop := ∃ vs H', Inv X pins σ H' s' ∧ Vals vs us ∧ Q vs H'
noncomputable def SP (X : Cx) (pins : List (Addr × Obj)) (D : Ends) (f : Flow) (s' : Shared) : Prop :=
  match f with
  | .next => ∃ σ' H', Inv X pins σ' H' s' ∧ D.nx σ' H'
  | .brk => ∃ σ' H', Inv X pins σ' H' s' ∧ D.bk σ' H'
  | .cont => ∃ σ' H', Inv X pins σ' H' s' ∧ D.ct σ' H'
  | .ret u => ∃ v σ' H', Inv X pins σ' H' s' ∧ RelV v u ∧ D.rt v H'
noncomputable def PE (X : Cx) (e : Expr) (t : TE) : Prop :=
  ∀ (pins : List (Addr × Obj)) (s : Shared) (σ : St) (H : Hp) (Q : VK), Inv X pins σ H s → t σ H Q → wpAny (model X.prog X.w) X.A (eval e X.env) (EP X pins σ Q) X.xe s
noncomputable def PT (X : Cx) (e : Expr) (t : TT) : Prop :=
  ∀ (pins : List (Addr × Obj)) (s : Shared) (σ : St) (H : Hp) (Q : Bool → Hp → Prop), Inv X pins σ H s → t σ H Q → wpAny (model X.prog X.w) X.A (isTrue e X.env (eval e X.env)) (TP X pins σ Q) X.xe s
noncomputable def PW (X : Cx) (e : Expr) (t : TT) : Prop :=
  ∀ (whole : Sem Value) (pins : List (Addr × Obj)) (s : Shared) (σ : St) (H : Hp) (Q : Bool → Hp → Prop), Inv X pins σ H s → t σ H Q → wpAny (model X.prog X.w) X.A (isTrue e X.env whole) (TP X pins σ Q) X.xe s
theorem PW.pt {X : Cx} {e : Expr} {t : TT} (h : PW X e t) : PT X e t := h _
noncomputable def PA (X : Cx) (es : List Expr) (t : TA) : Prop :=
  ∀ (pos : Pos) (pins : List (Addr × Obj)) (s : Shared) (σ : St) (H : Hp) (Q : List V → Hp → Prop), Inv X pins σ H s → t σ H Q → wpAny (model X.prog X.w) X.A (spliced (backTo pos (starEach es X.env))) (AP X pins σ Q) X.xe s
noncomputable def PS (X : Cx) (st : Stmt) (t : TS) : Prop :=
  ∀ (pins : List (Addr × Obj)) (s : Shared) (σ : St) (H : Hp) (D : Ends), Inv X pins σ H s → t D σ H → wpAny (model X.prog X.w) X.A (exec st X.env) (SP X pins D) X.xe s
noncomputable def PSs (X : Cx) (st : List Stmt) (t : TS) : Prop :=
  ∀ (pins : List (Addr × Obj)) (s : Shared) (σ : St) (H : Hp) (D : Ends), Inv X pins σ H s → t D σ H → wpAny (model X.prog X.w) X.A (execs st X.env) (SP X pins D) X.xe s
theorem thn {α : Type} {t : Sem α} {Q Q' : α → Shared → Prop} {M : Model} {A : Around} {E : Value → Shared → Prop} {s : Shared} (h : wpAny M A t Q E s) (hQ : ∀ a s, Q a s → Q' a s) : wpAny M A t Q' E s := wpAny_mono h hQ fun _ _ x => x
end L2
namespace L2
open PySem PySem.Spec PyProof.Rows
section
variable {X : Cx}
noncomputable def tVar (i : Nat) : TE := fun σ H Q => ∃ v, σ[i]? = some (some v) ∧ Q v H
noncomputable def tC (v : V) : TE := fun _ H Q => Q v H
theorem pe_var {i : Nat} {x : Str} {pos : Pos} (hN : X.N[i]? = some x) (hv : Vis X.env.scope x) (hd : (x == ("__debug__" : Str)) = false := by decide) (hcd : (x == ("__classdict__" : Str)) = false := by decide) : PE X (.Name x pos) (tVar i) := by
  intro pins s σ H Q I h
  obtain ⟨v, e, h⟩ := h
  obtain ⟨m, hn, hl⟩ := I.loc
  obtain ⟨u, r, l⟩ := hl i x v hN e hv
  have fin : EP X pins σ Q u s := ⟨v, H, I, r, h⟩
  rcases l with ⟨hk, hm⟩ | ⟨hk, c, hc, hcell⟩
  · exact wpAny_Name (wpAny_loadName_local I.ok.kind hk hn hm fin) hd
  · rcases hk with hk | hk
    · exact wpAny_Name (wpAny_loadName_cell I.ok.kind hk hc hcell fin) hd
    · exact wpAny_Name (wpAny_loadName_free I.ok.kind hk hc hcell fin hcd) hd
theorem pe_int {i j pos} : PE X (.Constant (.int i) j pos) (tC (.int i)) := fun _ _ _ H _ I h => wpAny_Constant_int ⟨.int i, H, I.tok _, ⟨_, rfl⟩, h⟩
theorem pe_bl {b j pos} : PE X (.Constant (.bool b) j pos) (tC (.bl b)) := fun _ _ _ H _ I h => Constant_bool ⟨.bl b, H, I, rfl, h⟩
theorem pe_non {j pos} : PE X (.Constant .none j pos) (tC .non) := fun _ _ _ H _ I h => Constant_none ⟨.non, H, I, rfl, h⟩
theorem pe_str {x j pos} : PE X (.Constant (.str x) j pos) (tC (.str x)) := fun _ _ _ H _ I h => Calls.Constant_str ⟨.str x, H, I.tok _, ⟨_, rfl⟩, h⟩
noncomputable def Gl (X : Cx) (x : Str) : Prop := X.env.kindOf x = some .globalImplicit
theorem ld_glob {E : Value → Shared → Prop} {pins : List (Addr × Obj)} {s : Shared} {σ : St} {H : Hp} {x : Str} {u : Value} {pos : Pos} {Q : Value → Shared → Prop} (I : Inv X pins σ H s) (hg : Gl X x) (hm : X.mg x = some u) (h : Q u s)
    (hd : (x == ("__debug__" : Str)) = false := by decide) : wpAny (model X.prog X.w) X.A (eval (.Name x pos) X.env) Q E s :=
  Calls.Name_function_global I.ok.kind hg (Calls.loadGlobal_global (by rw [I.ok.glob]; exact I.mod.glob.keeps I.bk) hm h) hd
theorem ld_blt {E : Value → Shared → Prop} {pins : List (Addr × Obj)} {s : Shared} {σ : St} {H : Hp} {x : Str} {u : Value} {pos : Pos} {Q : Value → Shared → Prop} (I : Inv X pins σ H s) (hg : Gl X x) (hm : X.mg x = none) (hv : bootBuiltins x = some u) (h : Q u s)
    (hn : x ≠ "__name__" := by decide) (hd : (x == ("__debug__" : Str)) = false := by decide) : wpAny (model X.prog X.w) X.A (eval (.Name x pos) X.env) Q E s := by
  obtain ⟨mb, h1, h2⟩ := I.mod.blt
  exact Calls.Name_function_global I.ok.kind hg (Calls.loadGlobal_builtin (by rw [I.ok.glob]; exact I.mod.glob.keeps I.bk) hm (by rw [I.ok.blt]; exact h1.keeps I.bk) ((h2 x hn).trans hv) h) hd
theorem pe_glob {x : Str} {v : V} {u : Value} {pos : Pos} (hg : Gl X x) (hm : X.mg x = some u) (r : RelV v u) (hd : (x == ("__debug__" : Str)) = false := by decide) : PE X (.Name x pos) (tC v) :=
  fun _ _ _ H _ I h => ld_glob I hg hm ⟨v, H, I, r, h⟩ hd
theorem pe_bltn {x : Str} {v : V} {u : Value} {pos : Pos} (hg : Gl X x) (hm : X.mg x = none) (hv : bootBuiltins x = some u) (r : RelV v u) (hn : x ≠ "__name__" := by decide) (hd : (x == ("__debug__" : Str)) = false := by decide) : PE X (.Name x pos) (tC v) :=
  fun _ _ _ H _ I h => ld_blt I hg hm hv ⟨v, H, I, r, h⟩ hn hd
noncomputable def t2I (ta tb : TE) (k : Int → Int → Hp → Prop) : St → Hp → Prop := fun σ H => ta σ H fun x H1 => tb σ H1 fun y H2 => ∃ i j, x = .int i ∧ y = .int j ∧ k i j H2
noncomputable def tAdd (ta tb : TE) : TE := fun σ H Q => t2I ta tb (fun i j H2 => Q (.int (i + j)) H2) σ H
noncomputable def tSub (ta tb : TE) : TE := fun σ H Q => t2I ta tb (fun i j H2 => Q (.int (i - j)) H2) σ H
noncomputable def tMul (ta tb : TE) : TE := fun σ H Q => t2I ta tb (fun i j H2 => (-(2 ^ 64) < i ∧ i < 2 ^ 64) ∧ Q (.int (i * j)) H2) σ H
variable {a b : Expr} {ta tb : TE} {pos : Pos}
noncomputable def PC (X : Cx) (op : CmpOp) (a b : Expr) (t : TE) : Prop :=
  ∀ (pins : List (Addr × Obj)) (s : Shared) (σ : St) (H : Hp) (Q : VK), Inv X pins σ H s → t σ H Q →
    wpAny (model X.prog X.w) X.A (eval a X.env) (fun v s₁ => wpAny (model X.prog X.w) X.A (eval b X.env) (fun u s₂ => wpAny (model X.prog X.w) X.A (compareOp op v u) (EP X pins σ Q) X.xe s₂) X.xe s₁) X.xe s
noncomputable def tCmp (p : Int → Int → Bool) (ta tb : TE) : TE := fun σ H Q => t2I ta tb (fun i j H2 => Q (.bl (p i j)) H2) σ H
noncomputable abbrev tLt : TE → TE → TE := tCmp fun i j => decide (i < j)
noncomputable abbrev tLe : TE → TE → TE := tCmp fun i j => decide (i ≤ j)
noncomputable abbrev tGt : TE → TE → TE := tCmp fun i j => decide (j < i)
noncomputable abbrev tGe : TE → TE → TE := tCmp fun i j => decide (j ≤ i)
noncomputable abbrev tEqI : TE → TE → TE := tCmp fun i j => decide (i = j)
noncomputable abbrev tNeI : TE → TE → TE := tCmp fun i j => !decide (i = j)
noncomputable def tIsN (ta : TE) : TE := fun σ H Q => ta σ H fun x H1 => Q (.bl (decide (x = .non))) H1
noncomputable def tNotN (ta : TE) : TE := fun σ H Q => ta σ H fun x H1 => Q (.bl (!decide (x = .non))) H1
noncomputable def tB (t : TE) : TT := fun σ H Q => t σ H fun x H1 => ∃ c, x = .bl c ∧ Q c H1
theorem pt_val {e : Expr} {t : TE} (h : PE X e t) (he : ∀ whole, isTrue e X.env whole = (do let v ← whole; standAt e.pos; holding [v] (truthy v)) := by intro _; rfl) : PT X e (tB t) := by
  intro pins s σ H Q I hw
  refine isTrue_plain (thn (h pins s σ H _ I hw) fun v s1 ⟨x, H1, I1, r1, q1⟩ => ?_) (he _)
  obtain ⟨d, rfl, q⟩ := q1
  cases r1
  exact wpAny_truthy_bool ⟨H1, I1, q⟩
variable {tA tB' : TT} {rest : List Expr}
noncomputable def tAnd (t u : TT) : TT := fun σ H Q => t σ H fun c H1 => if c = true then u σ H1 Q else Q false H1
noncomputable def tOr (t u : TT) : TT := fun σ H Q => t σ H fun c H1 => if c = true then Q true H1 else u σ H1 Q
noncomputable def tNot (t : TT) : TT := fun σ H Q => t σ H fun c H1 => Q (!c) H1
theorem pw_and1 (ha : PT X a tA) : PW X (.BoolOp .And [a] pos) tA := by
  intro wh pins s σ H Q I h
  refine isTrue_and (thn (ha pins s σ H Q I h) fun c s1 e => ?_)
  cases c with
  | true => exact isTrue_and_nil e
  | false => exact e
theorem pw_or1 (ha : PT X a tA) : PW X (.BoolOp .Or [a] pos) tA := by
  intro wh pins s σ H Q I h
  refine isTrue_or (thn (ha pins s σ H Q I h) fun c s1 e => ?_)
  cases c with
  | false => exact isTrue_or_nil e
  | true => exact e
theorem pw_and (ha : PT X a tA) (hb : PW X (.BoolOp .And (b :: rest) pos) tB') : PW X (.BoolOp .And (a :: b :: rest) pos) (tAnd tA tB') := by
  intro wh pins s σ H Q I h
  refine isTrue_and (thn (ha pins s σ H _ I h) fun c s1 ⟨H1, I1, q1⟩ => ?_)
  cases c with
  | true => exact hb wh pins s1 σ H1 Q I1 q1
  | false => exact ⟨H1, I1, q1⟩
theorem pw_or (ha : PT X a tA) (hb : PW X (.BoolOp .Or (b :: rest) pos) tB') : PW X (.BoolOp .Or (a :: b :: rest) pos) (tOr tA tB') := by
  intro wh pins s σ H Q I h
  refine isTrue_or (thn (ha pins s σ H _ I h) fun c s1 ⟨H1, I1, q1⟩ => ?_)
  cases c with
  | true => exact ⟨H1, I1, q1⟩
  | false => exact hb wh pins s1 σ H1 Q I1 q1
noncomputable def tAndV (ta tb : TE) : TE := fun σ H Q => ta σ H fun x H1 => ∃ c, x = .bl c ∧ if c = true then tb σ H1 Q else Q (.bl false) H1
noncomputable def tOrV (ta tb : TE) : TE := fun σ H Q => ta σ H fun x H1 => ∃ c, x = .bl c ∧ if c = true then Q (.bl true) H1 else tb σ H1 Q
noncomputable def tNotV (ta : TE) : TE := fun σ H Q => ta σ H fun x H1 => ∃ c, x = .bl c ∧ Q (.bl (!c)) H1
noncomputable def tIf (t : TT) (ta tb : TE) : TE := fun σ H Q => t σ H fun c H1 => if c = true then ta σ H1 Q else tb σ H1 Q
end
end L2
namespace L2
open PySem PySem.Spec PyProof.Rows
noncomputable def SqL (K : PySem.W.Frag) (H : Hp) (a : Addr) (xs : List V) : Prop :=
  Rd H a (.lst xs) ∨
    ∃ (o : Obj) (its : Array Value) (n : Nat), K.lookup a = some o ∧ o.cls = .type "list" ∧ o.dict = none ∧ o.data = .seq its n ∧ its.size ≤ sizeLine ∧ Vals xs its.toList
noncomputable def SqT (K : PySem.W.Frag) (H : Hp) (a : Addr) (xs : List V) : Prop :=
  Rd H a (.tup xs) ∨
    ∃ (o : Obj) (its : Array Value) (n : Nat), K.lookup a = some o ∧ o.cls = .type "tuple" ∧ o.data = .seq its n ∧ its.size ≤ sizeLine ∧ Vals xs its.toList
noncomputable def absV : Value → Option V
  | .none => some .non
  | .bool b => some (.bl b)
  | .int i _ => some (.int i)
  | .str x _ => some (.str x)
  | .bytes b _ => some (.byt b)
  | .float b _ => some (.flt b)
  | .ref a => some (.ref a)
  | .type n => some (.ty n)
  | _ => none
theorem RelV.abs {x : V} {u : Value} (r : RelV x u) : absV u = some x := by
  cases x with
  | non => cases r; rfl
  | bl _ => cases r; rfl
  | int _ => obtain ⟨t, rfl⟩ := r; rfl
  | str _ => obtain ⟨t, rfl⟩ := r; rfl
  | byt _ => obtain ⟨t, rfl⟩ := r; rfl
  | flt _ => obtain ⟨t, rfl⟩ := r; rfl
  | ref _ => cases r; rfl
  | ty _ => cases r; rfl
theorem RelV.inj {x y : V} {u : Value} (r : RelV x u) (q : RelV y u) : x = y := Option.some.inj (r.abs.symm.trans q.abs)
theorem Vals.inj : ∀ {xs ys : List V} {us : List Value}, Vals xs us → Vals ys us → xs = ys
  | _, _, _, .nil, .nil => rfl
  | _, _, _, .cons r t, .cons r' t' => by rw [r.inj r', Vals.inj t t']
section
variable {X : Cx} {pins : List (Addr × Obj)} {σ : St} {H : Hp} {s : Shared} {a : Addr} {xs ys : List V}
theorem SqL.of {K : PySem.W.Frag} (h : H a = some (.lst xs)) : SqL K H a xs := .inl (.inl h)
theorem SqT.of {K : PySem.W.Frag} (h : H a = some (.tup xs)) : SqT K H a xs := .inl (.inl h)
theorem Inv.list (I : Inv X pins σ H s) (h : SqL X.K H a xs) : ∃ its : List Value, Vals xs its ∧ PlainL s.heap a its.toArray ∧ xs.length ≤ sizeLine := by
  rcases h with h | ⟨o, its, n, hk, hc, hd, hs, hz, r⟩
  · obtain ⟨z, its, n, r, e⟩ := h.ok I.hok
    exact ⟨its, r, ⟨_, n, e, rfl, rfl, rfl⟩, z⟩
  · refine ⟨its.toList, r, ⟨o, n, I.kIn a o hk, hc, hd, by simpa using hs⟩, ?_⟩
    have e := r.length
    simp only [Array.length_toList] at e
    ((try clear hc hd hk hs); omega)
theorem Inv.tuple (I : Inv X pins σ H s) (h : SqT X.K H a xs) : ∃ its : List Value, Vals xs its ∧ IsTup s.heap a its.toArray ∧ xs.length ≤ sizeLine := by
  rcases h with h | ⟨o, its, n, hk, hc, hs, hz, r⟩
  · obtain ⟨z, its, r, p⟩ := h.ok I.hok
    exact ⟨its, r, p, z⟩
  · refine ⟨its.toList, r, ⟨o, I.kIn a o hk, hc, n, by simpa using hs⟩, ?_⟩
    have e := r.length
    simp only [Array.length_toList] at e
    ((try clear hc hk hs); omega)
theorem Inv.list_inj (I : Inv X pins σ H s) (h : SqL X.K H a xs) (h' : SqL X.K H a ys) : xs = ys := by
  obtain ⟨its, r, ⟨o, n, e, _, _, d⟩, _⟩ := I.list h
  obtain ⟨its', r', ⟨o', n', e', _, _, d'⟩, _⟩ := I.list h'
  rw [e] at e'; cases e'
  rw [d] at d'
  injection d' with d1 _
  have : its = its' := by simpa using congrArg Array.toList d1
  subst this
  exact r.inj r'
end
noncomputable abbrev Cx.wish (X : Cx) (E : Value → Shared → Prop) : Cx := { X with xe := E }
noncomputable abbrev Cx.nox (X : Cx) : Cx := X.wish fun _ _ => False
theorem Cx.Ok.wish {X : Cx} (ok : X.Ok) (E : Value → Shared → Prop) : (X.wish E).Ok :=
  ⟨ok.mod, ok.kind, ok.glob, ok.blt, ok.above, ok.inj, ok.has, ok.cab, ok.hd, ok.frames, ok.stk, ok.exf, ok.bs, ok.bsz, ok.noex, ok.exfs, ok.funs, ok.frf⟩
theorem Cx.Ok.unwish {X : Cx} {E : Value → Shared → Prop} (ok : (X.wish E).Ok) : X.Ok :=
  ⟨ok.mod, ok.kind, ok.glob, ok.blt, ok.above, ok.inj, ok.has, ok.cab, ok.hd, ok.frames, ok.stk, ok.exf, ok.bs, ok.bsz, ok.noex, ok.exfs, ok.funs, ok.frf⟩
section
variable {X : Cx} {pins : List (Addr × Obj)} {σ : St} {H : Hp} {s : Shared} {E : Value → Shared → Prop}
theorem Inv.wish (I : Inv X pins σ H s) (E : Value → Shared → Prop) : Inv (X.wish E) pins σ H s := ⟨I.ok.wish E, I.os, I.bare, I.base, I.loc, I.cell, I.free, I.freeC, I.pin, I.hok, I.len⟩
theorem Inv.unwish (I : Inv (X.wish E) pins σ H s) : Inv X pins σ H s := ⟨I.ok.unwish, I.os, I.bare, I.base, I.loc, I.cell, I.free, I.freeC, I.pin, I.hok, I.len⟩
theorem SP.unwish {D : Ends} {f : Flow} {s' : Shared} (h : SP (X.wish E) pins D f s') : SP X pins D f s' := by
  cases f with
  | next => obtain ⟨σ', H', I, q⟩ := h; exact ⟨σ', H', I.unwish, q⟩
  | brk => obtain ⟨σ', H', I, q⟩ := h; exact ⟨σ', H', I.unwish, q⟩
  | cont => obtain ⟨σ', H', I, q⟩ := h; exact ⟨σ', H', I.unwish, q⟩
  | ret u => obtain ⟨v, σ', H', I, r, q⟩ := h; exact ⟨v, σ', H', I.unwish, r, q⟩
theorem PSs.nox {st : List Stmt} {t : TS} (h : PSs X.nox st t) : PSs X st t := fun pins s σ H D I hw =>
  wpAny_mono (h pins s σ H D (I.wish _) hw) (fun _ _ q => q.unwish) fun _ _ z => False.elim z
end
section
variable {X : Cx} {st : Stmt} {rest : List Stmt} {t u : TS} {e : Expr} {te : TE} {pos : Pos}
noncomputable def tNext : TS := fun D σ H => D.nx σ H
noncomputable def tSeq (t u : TS) : TS := fun D σ H => t { D with nx := u D } σ H
theorem pss_nil : PSs X [] tNext := fun _ _ σ H _ I h => wpAny_execs_nil ⟨σ, H, I, h⟩
theorem pss_cons (h1 : PS X st t) (h2 : PSs X rest u) : PSs X (st :: rest) (tSeq t u) := by
  intro pins s σ H D I h
  refine wpAny_execs_cons (thn (h1 pins s σ H { D with nx := u D } I h) fun f s1 q => ?_)
  cases f with
  | next =>
    obtain ⟨σ', H', I', q⟩ := q
    exact h2 pins s1 σ' H' D I' q
  | ret v => exact q
  | brk => exact q
  | cont => exact q
theorem pss_one (h1 : PS X st t) : PSs X [st] t := by
  intro pins s σ H D I h
  refine wpAny_execs_cons (thn (h1 pins s σ H D I h) fun f s1 q => ?_)
  cases f with
  | next => exact wpAny_execs_nil q
  | ret v => exact q
  | brk => exact q
  | cont => exact q
noncomputable def tBreak : TS := fun D σ H => D.bk σ H
noncomputable def tCont : TS := fun D σ H => D.ct σ H
theorem Inv.quiet {pins : List (Addr × Obj)} {σ : St} {H : Hp} {s : Shared} (I : Inv X pins σ H s) : interactive X.env = false := by simp [interactive, I.ok.kind]
noncomputable def tDrop (te : TE) : TS := fun D σ H => te σ H fun _ H1 => D.nx σ H1
theorem ps_expr (he : PE X e te) (hs : swapsWith e none pos.line X.env = pure false := by rfl) : PS X (.Expr e pos) (tDrop te) := by
  intro pins s σ H D I h
  exact wpAny_Expr_any (thn (he pins s σ H _ I h) fun v s1 ⟨x, H1, I1, r1, q1⟩ => ⟨σ, H1, I1, q1⟩) I.quiet hs
noncomputable def tRet (te : TE) : TS := fun D σ H => te σ H D.rt
theorem ps_ret (he : PE X e te) : PS X (.Return (some e) pos) (tRet te) := by
  intro pins s σ H D I h
  exact wpAny_Return_some (thn (he pins s σ H _ I h) fun v s1 ⟨x, H1, I1, r1, q1⟩ => ⟨x, σ, H1, I1, r1, q1⟩)
noncomputable def tRetN : TS := fun D _ H => D.rt .non H
noncomputable def tIfS (c : TT) (t u : TS) : TS := fun D σ H => c σ H fun b H1 => if b = true then t D σ H1 else u D σ H1
theorem ps_if {c : Expr} {a b : List Stmt} {tc : TT} (hc : PT X c tc) (ha : PSs X a t) (hb : PSs X b u) : PS X (.If c a b pos) (tIfS tc t u) := by
  intro pins s σ H D I h
  refine wpAny_If (thn (hc pins s σ H _ I h) fun d s1 ⟨H1, I1, q1⟩ => ?_)
  cases d with
  | true => exact ha pins s1 σ H1 D I1 q1
  | false => exact hb pins s1 σ H1 D I1 q1
noncomputable def tNever : TS := fun _ _ _ => False
theorem ps_never : PS X st tNever := fun _ _ _ _ _ _ h => h.elim
end
noncomputable abbrev TG := V → St → Hp → (St → Hp → Prop) → Prop
noncomputable abbrev TGs := List V → St → Hp → (St → Hp → Prop) → Prop
noncomputable def PG (X : Cx) (target : Expr) (t : TG) : Prop :=
  ∀ (pins : List (Addr × Obj)) (s : Shared) (σ : St) (H : Hp) (v : V) (u : Value) (Q : St → Hp → Prop), Inv X pins σ H s → RelV v u → t v σ H Q →
    wpAny (model X.prog X.w) X.A (assign target X.env u) (fun _ s' => ∃ σ' H', Inv X pins σ' H' s' ∧ Q σ' H') X.xe s
noncomputable def PGs (X : Cx) (ts : List Expr) (t : TGs) : Prop :=
  ∀ (pins : List (Addr × Obj)) (s : Shared) (σ : St) (H : Hp) (vs : List V) (us : List Value) (Q : St → Hp → Prop), Inv X pins σ H s → Vals vs us → t vs σ H Q →
    wpAny (model X.prog X.w) X.A (assignInOrder ((assignEach ts X.env).map (·.2)) us) (fun _ s' => ∃ σ' H', Inv X pins σ' H' s' ∧ Q σ' H') X.xe s
noncomputable abbrev TSet := V → V → V → Hp → (Hp → Prop) → Prop
noncomputable def PSet (X : Cx) (t : TSet) : Prop :=
  ∀ (pins : List (Addr × Obj)) (s : Shared) (σ : St) (H : Hp) (o i v : V) (ov iv u : Value) (Q : Hp → Prop), Inv X pins σ H s → RelV o ov → RelV i iv → RelV v u → t o i v H Q →
    wpAny (model X.prog X.w) X.A (setItem ov iv u) (fun _ s' => ∃ H', Inv X pins σ H' s' ∧ Q H') X.xe s
noncomputable abbrev TIp := V → V → Hp → VK → Prop
noncomputable def PIp (X : Cx) (op : Operator) (t : TIp) : Prop :=
  ∀ (pins : List (Addr × Obj)) (s : Shared) (σ : St) (H : Hp) (x y : V) (v u : Value) (Q : VK), Inv X pins σ H s → RelV x v → RelV y u → t x y H Q →
    wpAny (model X.prog X.w) X.A (inplaceOp op v u) (EP X pins σ Q) X.xe s
section
variable {X : Cx} {pos : Pos}
noncomputable def gName (i : Nat) : TG := fun v σ H Q => Q (σ.set i (some v)) H
theorem pg_name {i : Nat} {x : Str} (hN : X.N.Nodup) (hi : X.N[i]? = some x) (hx : Loc X.env.scope x) (hf : X.fn x = true ∨ X.env.scope.names.lookup x = some .local := by first | exact .inl rfl | exact .inr rfl | assumption) : PG X (.Name x pos) (gName i) := by
  intro pins s σ H v u Q I r h
  exact wpAny_assign_Name (store_ok I hN hi hx r (fun s' I' => ⟨_, H, I', h⟩) hf)
noncomputable def gNil : TGs := fun vs σ H Q => vs = [] ∧ Q σ H
noncomputable def gCons (t : TG) (u : TGs) : TGs := fun vs σ H Q => ∃ v r, vs = v :: r ∧ t v σ H fun σ' H' => u r σ' H' Q
theorem pgs_nil : PGs X [] gNil := by
  intro pins s σ H vs us Q I r h
  obtain ⟨e, h⟩ := h
  subst e
  cases r
  exact assignInOrder_nil ⟨σ, H, I, h⟩
theorem pgs_cons {e : Expr} {es : List Expr} {t : TG} {u : TGs} (h1 : PG X e t) (h2 : PGs X es u)
    (hs : (assignEach (e :: es) X.env).map (·.2) = assign e X.env :: (assignEach es X.env).map (·.2) := by rfl) : PGs X (e :: es) (gCons t u) := by
  intro pins s σ H vs us Q I r h
  obtain ⟨v, vr, e1, h⟩ := h
  subst e1
  cases r with
  | cons r rr =>
    rw [hs]
    refine assignInOrder_cons (thn (h1 pins s σ H _ _ _ I r h) fun _ s1 ⟨σ1, H1, I1, q1⟩ => ?_)
    exact h2 pins s1 σ1 H1 _ _ Q I1 rr q1
noncomputable def gTup (K : PySem.W.Frag) (n : Nat) (t : TGs) : TG := fun v σ H Q => ∃ a xs, v = .ref a ∧ SqT K H a xs ∧ xs.length = n ∧ t xs σ H Q
theorem pg_tup {es : List Expr} {k : Nat} {t : TGs} {n : Nat} (hc : X.calm = true) (h : PGs X es t)
    (hn : (assignEach es X.env).length = n := by rfl) (hst : (assignEach es X.env).findIdx? (·.1) = none := by rfl) : PG X (.Tuple es k pos) (gTup X.K n t) := by
  intro pins s σ H v u Q I r hw
  obtain ⟨a, xs, e1, hq, hl, hw⟩ := hw
  subst e1
  cases r
  obtain ⟨its, rv, ht, hz⟩ := I.tuple hq
  refine assign_Tuple_tuple (I.ok.hd hc) ht (by simp [hn, ← hl, rv.length]) hst fun h' hx => ?_
  have I1 : Inv X pins σ H { s with heap := h' } := I.kept (t' := s.toks) fun b o e => hx b o (Nat.ne_of_lt (Heap.lt_size e)) e
  exact h pins _ σ H xs _ Q I1 (by simpa using rv) hw
noncomputable def gSub (to ti : TE) (t : TSet) : TG := fun v σ H Q => to σ H fun o H1 => ti σ H1 fun i H2 => t o i v H2 fun H3 => Q σ H3
theorem pg_sub {o i : Expr} {to ti : TE} {t : TSet} (ho : PE X o to) (hi : PE X i ti) (hs : PSet X t)
    (ha : ∀ v, assign (.Subscript o i pos) X.env v = (do
      let ov ← holding [v] (eval o X.env)
      let iv ← holding [v, ov] (eval i X.env)
      standAt pos
      holding [v, ov, iv] (setItem ov iv v)
      release [v, ov, iv] []) := by intro _; rfl) : PG X (.Subscript o i pos) (gSub to ti t) := by
  intro pins s σ H v u Q I r h
  rw [ha]
  refine wpAny_bind (wpAny_holding (thn (ho pins s σ H _ I h) fun ov s1 ⟨x, H1, I1, r1, q1⟩ => ?_))
  refine wpAny_bind (wpAny_holding (thn (hi pins s1 σ H1 _ I1 q1) fun iv s2 ⟨y, H2, I2, r2, q2⟩ => ?_))
  refine wpAny_bind (wpAny_standAt (wpAny_bind (wpAny_holding (thn (hs pins s2 σ H2 x y v ov iv u _ I2 r1 r2 r q2) fun _ s3 ⟨H3, I3, q3⟩ => ?_))))
  exact wpAny_release ⟨σ, H3, I3, q3⟩
noncomputable def tAsg (te : TE) (g : TG) : TS := fun D σ H => te σ H fun x H1 => g x σ H1 D.nx
theorem ps_asg {tg e : Expr} {te : TE} {g : TG} (he : PE X e te) (hg : PG X tg g) (hs : swapsWithSole [tg] e pos.line X.env = pure false := by rfl) (hw : swappedStores [tg] e X.env = pure none := by rfl)
    (h1 : (assignEach [tg] X.env).map (·.2) = [assign tg X.env] := by rfl) : PS X (.Assign [tg] e pos) (tAsg te g) := by
  intro pins s σ H D I h
  refine wpAny_Assign_stores (thn (he pins s σ H _ I h) fun v s1 ⟨x, H1, I1, r1, q1⟩ => ?_) hs hw
  rw [h1]
  exact thn (hg pins s1 σ H1 x v _ I1 r1 q1) fun _ s2 q => q
theorem ps_set {i : Nat} {x : Str} {e : Expr} {te : TE} {pos' : Pos} (hN : X.N.Nodup) (hi : X.N[i]? = some x) (hx : Loc X.env.scope x) (he : PE X e te) (hs : swapsWith e (some (.Name x pos')) pos.line X.env = pure false := by rfl) (hf : X.fn x = true ∨ X.env.scope.names.lookup x = some .local := by first | exact .inl rfl | exact .inr rfl | assumption) :
    PS X (.Assign [.Name x pos'] e pos) (tAsg te (gName i)) := by
  intro pins s σ H D I h
  refine wpAny_Assign_Name (thn (he pins s σ H _ I h) fun v s1 ⟨y, H1, I1, r1, q1⟩ => ?_) hs
  exact store_ok I1 hN hi hx r1 (fun s2 I2 => ⟨_, H1, I2, q1⟩) hf
noncomputable def tPar (i j : Nat) (ta : TA) : TS := fun D σ H => ta σ H fun vs H1 => ∃ v w, vs = [v, w] ∧ D.nx ((σ.set i (some v)).set j (some w)) H1
noncomputable def tAug (i : Nat) (te : TE) (ti : TIp) : TS := fun D σ H => ∃ x, σ[i]? = some (some x) ∧ te σ H fun y H1 => ti x y H1 fun z H2 => D.nx (σ.set i (some z)) H2
theorem ps_aug {i : Nat} {x : Str} {e : Expr} {te : TE} {op : Operator} {ti : TIp} {pos' : Pos} (hN : X.N.Nodup) (hi : X.N[i]? = some x) (hx : Loc X.env.scope x) (he : PE X e te) (ho : PIp X op ti) (hf : X.fn x = true ∨ X.env.scope.names.lookup x = some .local := by first | exact .inl rfl | exact .inr rfl | assumption) :
    PS X (.AugAssign (.Name x pos') op e pos) (tAug i te ti) := by
  intro pins s σ H D I h
  obtain ⟨v, e1, h⟩ := h
  obtain ⟨m, hn, hl⟩ := I.loc
  have vis : Vis X.env.scope x := by rcases hx with k | k; exact .inl k; exact .inr (.inl k)
  obtain ⟨u, r, l⟩ := hl i x v hi e1 vis
  refine wpAny_AugAssign_Name ?_
  have go : wpAny (model X.prog X.w) X.A (eval e X.env) (fun w s₂ => wpAny (model X.prog X.w) X.A (inplaceOp op u w) (fun r s₃ => wpAny (model X.prog X.w) X.A (storeName X.env x r) (fun _ => SP X pins D .next) X.xe s₃) X.xe s₂) X.xe s := by
    refine thn (he pins s σ H _ I h) fun w s1 ⟨y, H1, I1, r1, q1⟩ => ?_
    refine thn (ho pins s1 σ H1 v y u w _ I1 r r1 q1) fun z s2 ⟨zv, H2, I2, r2, q2⟩ => ?_
    exact store_ok I2 hN hi hx r2 (fun s3 I3 => ⟨_, H2, I3, q2⟩) hf
  rcases l with ⟨hk, hm⟩ | ⟨hk, c, hc, hcell⟩
  · exact wpAny_loadName_local I.ok.kind hk hn hm go
  · rcases hk with hk | hk
    · exact wpAny_loadName_cell I.ok.kind hk hc hcell go
    · rcases hx with k | k
      · have : X.env.scope.names.lookup x = some .free := hk
        rw [k] at this; cases this
      · have : X.env.scope.names.lookup x = some .free := hk
        rw [k] at this; cases this
noncomputable def tAugS (to ti te : TE) (tget : V → V → Hp → VK → Prop) (tip : TIp) (tset : TSet) : TS := fun D σ H => to σ H fun o H1 => ti σ H1 fun i H2 => tget o i H2 fun x H3 => te σ H3 fun y H4 => tip x y H4 fun z H5 => tset o i z H5 fun H6 => D.nx σ H6
noncomputable def PGet (X : Cx) (t : V → V → Hp → VK → Prop) : Prop :=
  ∀ (pins : List (Addr × Obj)) (s : Shared) (σ : St) (H : Hp) (o i : V) (ov iv : Value) (Q : VK), Inv X pins σ H s → RelV o ov → RelV i iv → t o i H Q →
    wpAny (model X.prog X.w) X.A (getItem ov iv) (EP X pins σ Q) X.xe s
theorem ps_augS {o i e : Expr} {to ti te : TE} {tget : V → V → Hp → VK → Prop} {tip : TIp} {tset : TSet} {op : Operator} {tpos : Pos} (ho : PE X o to) (hi : PE X i ti) (hg : PGet X tget) (he : PE X e te) (hp : PIp X op tip) (hs : PSet X tset)
    (ha : ∀ ov iv new, augStore i ov iv new = (do holding [new, ov, iv] (setItem ov iv new); release [new, ov, iv] []; pure .next) := by intros; rfl) : PS X (.AugAssign (.Subscript o i tpos) op e pos) (tAugS to ti te tget tip tset) := by
  intro pins s σ H D I h
  refine wpAny_AugAssign_SubscriptAny (thn (ho pins s σ H _ I h) fun ov s1 ⟨x1, H1, I1, r1, q1⟩ => ?_) ha
  refine thn (hi pins s1 σ H1 _ I1 q1) fun iv s2 ⟨x2, H2, I2, r2, q2⟩ => ?_
  refine thn (hg pins s2 σ H2 x1 x2 ov iv _ I2 r1 r2 q2) fun old s3 ⟨x3, H3, I3, r3, q3⟩ => ?_
  refine thn (he pins s3 σ H3 _ I3 q3) fun v s4 ⟨x4, H4, I4, r4, q4⟩ => ?_
  refine thn (hp pins s4 σ H4 x3 x4 old v _ I4 r3 r4 q4) fun new s5 ⟨x5, H5, I5, r5, q5⟩ => ?_
  exact thn (hs pins s5 σ H5 x1 x2 x5 ov iv new _ I5 r1 r2 r5 q5) fun _ s6 ⟨H6, I6, q6⟩ => ⟨σ, H6, I6, q6⟩
noncomputable def ipI (f : Int → Int → Int) : TIp := fun x y H Q => ∃ i j, x = .int i ∧ y = .int j ∧ Q (.int (f i j)) H
theorem ip_add : PIp X .Add (ipI fun i j => i + j) := by
  intro pins s σ H x y v u Q I r1 r2 h
  obtain ⟨i, j, e1, e2, q⟩ := h
  subst e1; subst e2
  obtain ⟨t, rfl⟩ := r1
  obtain ⟨t', rfl⟩ := r2
  exact iadd_int ⟨.int _, H, I.tok _, ⟨_, rfl⟩, q⟩
end
section
variable {X : Cx} {pos : Pos}
noncomputable def tWhile (c : TT) (tb : TS) : TS := fun D σ H => ∃ W : Nat → St → Hp → Prop, (∃ m, W m σ H) ∧ ∀ m σ H, W m σ H →
  c σ H fun b H1 => if b = true then ∃ N : St → Hp → Prop, (∀ σ' H', N σ' H' → ∃ m', m' < m ∧ W m' σ' H') ∧ tb { D with nx := N, ct := N, bk := D.nx } σ H1 else D.nx σ H1
theorem ps_while {c : Expr} {body : List Stmt} {tc : TT} {tb : TS} (hp : PassesOwn (model X.prog X.w) X.A X.env X.xe) (hc : PT X c tc) (hb : PSs X body tb) : PS X (.While c body [] pos) (tWhile tc tb) := by
  intro pins s σ H D I h
  obtain ⟨W, ⟨m0, w0⟩, turn⟩ := h
  refine wpAny_While (codeAny_whileLoop (fun n s' => ∃ σ' H', Inv X pins σ' H' s' ∧ W n σ' H') ?_ m0 ⟨σ, H, I, w0⟩)
  rintro n s1 ⟨σ1, H1, I1, w1⟩
  refine wpAny_passesOwn hp (thn (hc pins s1 σ1 H1 _ I1 (turn n σ1 H1 w1)) fun b s2 ⟨H2, I2, q2⟩ => ?_)
  cases b with
  | true =>
    obtain ⟨N, hN, q2⟩ := q2
    rw [if_pos rfl]
    refine wpAny_passesOwn hp (thn (hb pins s2 σ1 H2 _ I2 q2) fun f s3 q3 => ?_)
    cases f with
    | next =>
      obtain ⟨σ3, H3, I3, n3⟩ := q3
      obtain ⟨m', hm, w3⟩ := hN σ3 H3 n3
      exact ⟨m', hm, σ3, H3, I3, w3⟩
    | cont =>
      obtain ⟨σ3, H3, I3, n3⟩ := q3
      obtain ⟨m', hm, w3⟩ := hN σ3 H3 n3
      exact ⟨m', hm, σ3, H3, I3, w3⟩
    | brk => exact q3
    | ret v => exact q3
  | false =>
    rw [if_neg Bool.false_ne_true]
    exact wpAny_execs_nil ⟨σ1, H2, I2, q2⟩
end
structure It where
  go : Nat → Hp → Prop
  yld : Nat → Hp → V → Hp → Prop
  stop : Nat → Hp → Prop
noncomputable def FpOk (X : Cx) (pins : List (Addr × Obj)) (H : Hp) (b : Addr) : Prop :=
  H b = none ∧ b ≠ X.env.locals ∧ b ∉ X.fs ∧ (b ∈ X.ex ∨ X.s₀.heap.objs.size ≤ b) ∧ (∀ x c, X.env.cells.lookup x = some c → c ≠ b) ∧ ∀ p ∈ X.pn ++ pins, p.1 ≠ b
theorem Inv.fpOk {X : Cx} {pins : List (Addr × Obj)} {σ : St} {H H' : Hp} {s : Shared} {b : Addr} (I : Inv X pins σ H s) (hb : s.heap.objs.size ≤ b) (hn : H' b = none) : FpOk X pins H' b := by
  refine ⟨hn, Nat.ne_of_gt (Nat.lt_of_lt_of_le I.lt hb), I.nofs hb, .inr (Nat.le_trans I.sz hb), fun x c e z => ?_, fun p hp z => ?_⟩
  · obtain ⟨v, q⟩ := I.cell x c e
    exact absurd (Nat.lt_of_lt_of_le q.lt (by rw [z]; exact hb)) (Nat.lt_irrefl _)
  · exact absurd (Nat.lt_of_lt_of_le (Heap.lt_size (I.pin p hp).1) (by rw [z]; exact hb)) (Nat.lt_irrefl _)
structure Turn (P : Program) (w : World) (K : PySem.W.Frag) (tg : Expr) (J : It) (fp : List Addr) (it : Addr) (tn : Nat → Heap → Prop) : Prop where
  mem : it ∈ fp
  obj : ∀ i h, tn i h → ∀ b ∈ fp, ∃ o, h.get? b = some o ∧ ∀ v, o.data ≠ .cell v
  keep : ∀ i h h', tn i h → (∀ b ∈ fp, ∀ o, h.get? b = some o → h'.get? b = some o) → tn i h'
  item : ∀ (X : Cx), X.prog = P → X.w = w → X.K = K → X.calm = true → ∀ (i : Nat) (pins : List (Addr × Obj)) (s : Shared) (σ : St) (H : Hp) (E : Value → Shared → Prop), Inv X pins σ H s → (∀ b ∈ fp, FpOk X pins H b) → tn i s.heap → J.go i H →
    wpAny (model P w) X.A (pyNext (.ref it)) (fun r s1 => ∃ u, r = some u ∧
      wpAny (model P w) X.A (letOwnedTupleGo tg (.ref it) u) (fun _ s2 => ∃ x H', Inv X pins σ H' s2 ∧ RelV x u ∧ J.yld i H x H' ∧ tn (i + 1) s2.heap ∧ ∀ b ∈ fp, H' b = none) E s1) E s
  done : ∀ (X : Cx), X.prog = P → X.w = w → X.K = K → X.calm = true → ∀ (i : Nat) (pins : List (Addr × Obj)) (s : Shared) (σ : St) (H : Hp) (E : Value → Shared → Prop), Inv X pins σ H s → (∀ b ∈ fp, FpOk X pins H b) → tn i s.heap → J.stop i H →
    wpAny (model P w) X.A (pyNext (.ref it)) (fun r s1 => r = none ∧ Inv X pins σ H s1) E s
  self : ∀ (A : Around) (i : Nat) (s : Shared) (Q : Value → Shared → Prop) (E : Value → Shared → Prop), tn i s.heap → Q (.ref it) s → wpAny (model P w) A (pyIter (.ref it)) Q E s
noncomputable abbrev TI := St → Hp → (It → Hp → Prop) → Prop
noncomputable def PIE (X : Cx) (pins : List (Addr × Obj)) (σ : St) (tg : Expr) (R : It → Hp → Prop) (itv : Value) (s2 : Shared) : Prop :=
  ∃ (it : Addr) (fp : List Addr) (tn : Nat → Heap → Prop) (J : It) (H' : Hp), itv = .ref it ∧ Inv X pins σ H' s2 ∧ Turn X.prog X.w X.K tg J fp it tn ∧ tn 0 s2.heap ∧ (∀ b ∈ fp, FpOk X pins H' b) ∧ R J H'
noncomputable def PI (X : Cx) (tg iter : Expr) (wi : TI) : Prop :=
  ∀ (pins : List (Addr × Obj)) (s : Shared) (σ : St) (H : Hp) (R : It → Hp → Prop), Inv X pins σ H s → wi σ H R →
    wpAny (model X.prog X.w) X.A (eval iter X.env) (fun v s1 => wpAny (model X.prog X.w) X.A (pyIter v) (PIE X pins σ tg R) X.xe s1) X.xe s
theorem go_of {M : Model} {A : Around} {E : Value → Shared → Prop} {s : Shared} {tg : Expr} {it : Addr} {u : Value} {o : Obj} {n : String} {vs : Array Value} {Q : Unit → Shared → Prop} (ho : s.heap.get? it = some o) (hc : o.cls = .type n) (hd : o.data = .fields vs)
    (hn : ["enumerate", "zip", "dict_itemiterator", "dict_reverseitemiterator", "odict_iterator", "itertools.zip_longest", "itertools.pairwise"].contains n = false) (hQ : Q () s) : wpAny M A (letOwnedTupleGo tg (.ref it) u) Q E s := by
  unfold letOwnedTupleGo
  cases tg <;> first
    | exact wpAny_pure hQ
    | (cases u <;> first
        | exact wpAny_pure hQ
        | (refine wpAny_bind (wpAny_load ho ?_)
           rw [hc, hd]
           show wpAny M A (if (["enumerate", "zip", "dict_itemiterator", "dict_reverseitemiterator", "odict_iterator", "itertools.zip_longest", "itertools.pairwise"].contains n && vs[0]? == some (rawInt _)) = true then _ else _) Q E s
           rw [if_neg (by intro h; rw [hn, Bool.false_and] at h; cases h)]
           exact wpAny_pure hQ))
noncomputable def Itl (K : PySem.W.Frag) (a : Addr) : It :=
  ⟨fun i H => ∃ xs x, SqL K H a xs ∧ xs[i]? = some x, fun i H x H' => H' = H ∧ ∀ xs, SqL K H a xs → xs[i]? = some x, fun i H => ∃ xs, SqL K H a xs ∧ xs.length ≤ i⟩
noncomputable def Itt (K : PySem.W.Frag) (a : Addr) : It :=
  ⟨fun i H => ∃ xs x, SqT K H a xs ∧ xs[i]? = some x, fun i H x H' => H' = H ∧ ∀ xs, SqT K H a xs → xs[i]? = some x, fun i H => ∃ xs, SqT K H a xs ∧ xs.length ≤ i⟩
noncomputable def Itr (lo : Int) (n : Nat) : It := ⟨fun i _ => i < n, fun i H x H' => H' = H ∧ x = .int (lo + i), fun i _ => n ≤ i⟩
theorem turn_list {P : Program} {w : World} {K : PySem.W.Frag} {tg : Expr} (a it : Addr) : Turn P w K tg (Itl K a) [it] it (fun i h => h.IsListIter it a i) where
  mem := by simp
  obj := fun i h st b hb => by
    have e : b = it := by simpa using hb
    subst e
    obtain ⟨o, e, c, d⟩ := st
    exact ⟨o, e, fun v z => by rw [d] at z; cases z⟩
  keep := fun i h h' st k => st.at fun o e => k it (by simp) o e
  item := by
    intro X hP hw hK hc i pins s σ H E I hf st hg
    subst hP hw hK
    obtain ⟨xs, x, hq, hx⟩ := hg
    obtain ⟨its, rv, p, hz⟩ := I.list hq
    obtain ⟨u, hu, ru⟩ := rv.get hx
    obtain ⟨f0, f1, f2, f3, f4, f5⟩ := hf it (by simp)
    refine wpAny_pyNext_list_item st p.isList (x := u) (by simpa using hu) fun h' st' sb => ?_
    have I1 : Inv X pins σ H { s with heap := h' } := I.turned (t' := s.toks) (fun b o hb e => (sb.2 b hb).trans e) f0 f1 f3 f4 f5
    obtain ⟨o, e, c, d⟩ := id st'
    exact ⟨u, rfl, go_of (s := { s with heap := h' }) e c d (by decide) ⟨x, H, I1, ru, ⟨rfl, fun ys hy => by rw [I.list_inj hy hq]; exact hx⟩, st', fun b hb => (hf b hb).1⟩⟩
  done := by
    intro X hP hw hK hc i pins s σ H E I hf st hg
    subst hP hw hK
    obtain ⟨xs, hq, hx⟩ := hg
    obtain ⟨its, rv, p, hz⟩ := I.list hq
    obtain ⟨f0, f1, f2, f3, f4, f5⟩ := hf it (by simp)
    have hl := rv.length
    exact wpAny_pyNext_list_end (I.ok.hd hc) st p.isList (by simp; ((try clear f0 f1 f2 f3 hc hz); omega)) fun h' eb => ⟨rfl, I.turned (t' := s.toks) (fun b o hb e => eb b o hb e) f0 f1 f3 f4 f5⟩
  self := fun _ _ _ _ _ st h => wpAny_pyIter_listiter st h
theorem turn_range {P : Program} {w : World} {K : PySem.W.Frag} {tg : Expr} (it : Addr) (lo : Int) (n : Nat) : Turn P w K tg (Itr lo n) [it] it (fun i h => IsRangeIter h it (lo + (i : Nat) * 1) ((n : Int) - (i : Nat)) 1) where
  mem := by simp
  obj := fun i h st b hb => by
    have e : b = it := by simpa using hb
    subst e
    exact ⟨_, st, fun v z => by
      have z' : Data.fields _ = Data.cell v := z
      cases z'⟩
  keep := fun i h h' st k => k it (by simp) _ st
  item := by
    intro X hP hw hK hc i pins s σ H E I hf st hg
    subst hP hw hK
    obtain ⟨f0, f1, f2, f3, f4, f5⟩ := hf it (by simp)
    have W := Walks.range (prog := X.prog) (w := X.w) (I.ok.hd hc) it lo 1 n
    refine W.item i s _ _ hg st fun v h' tk hv st' kk => ?_
    obtain ⟨t, rfl⟩ := hv
    have I1 : Inv X pins σ H { s with heap := h', toks := tk } := I.turned (fun b o hb e => kk b o (by simpa using hb) e) f0 f1 f3 f4 f5
    refine ⟨_, rfl, go_of (s := { s with heap := h', toks := tk }) (n := "range_iterator") st' rfl rfl (by decide) ⟨.int (lo + i), H, I1, ⟨t, ?_⟩, ⟨rfl, rfl⟩, st', fun b hb => (hf b hb).1⟩⟩
    rw [Int.mul_one]
  done := by
    intro X hP hw hK hc i pins s σ H E I hf st hg
    subst hP hw hK
    obtain ⟨f0, f1, f2, f3, f4, f5⟩ := hf it (by simp)
    exact wpAny_pyNext_range_end (I.ok.hd hc) st (by have : n ≤ i := hg; ((try clear f0 f1 f2 f3 hc); omega)) fun h' eb => ⟨rfl, I.turned (t' := s.toks) (fun b o hb e => eb b o hb e) f0 f1 f3 f4 f5⟩
  self := fun _ _ _ _ _ st h => wpAny_pyIter_rangeiter st h
end L2
namespace L2
open PySem PySem.Spec PyProof.Rows
section
variable {X : Cx} {tg : Expr}
noncomputable def iList (K : PySem.W.Frag) (tl : TE) : TI := fun σ H R => tl σ H fun x H1 => ∃ a, x = .ref a ∧ (∃ xs, SqL K H1 a xs) ∧ R (Itl K a) H1
noncomputable def iTup (K : PySem.W.Frag) (tl : TE) : TI := fun σ H R => tl σ H fun x H1 => ∃ a, x = .ref a ∧ (∃ xs, SqT K H1 a xs) ∧ R (Itt K a) H1
theorem pi_list {l : Expr} {tl : TE} (hl : PE X l tl) : PI X tg l (iList X.K tl) := by
  intro pins s σ H R I h
  refine thn (hl pins s σ H _ I h) fun v s1 ⟨x, H1, I1, r1, q1⟩ => ?_
  obtain ⟨a, e, ⟨xs, hq⟩, q⟩ := q1
  subst e
  cases r1
  obtain ⟨its, rv, p, hz⟩ := I1.list hq
  refine wpAny_pyIter_list p.isList ?_
  refine ⟨s1.heap.objs.size, [s1.heap.objs.size], _, _, H1, rfl, I1.kept (t' := s1.toks) fun b o e => Heap.get?_push_of_some _ e, turn_list a _, ⟨_, Heap.get?_push_size _ rfl, rfl, rfl⟩, fun b hb => ?_, q⟩
  have e : b = s1.heap.objs.size := by simpa using hb
  subst e
  exact I1.fpOk (Nat.le_refl _) (I1.hok.fresh (Nat.le_refl _))
theorem range_it {pins : List (Addr × Obj)} {σ : St} {H : Hp} {s : Shared} {R : It → Hp → Prop} {E : Value → Shared → Prop} {lo hi : Int} {t u v : Tok} {tk : Nat} (I : Inv X pins σ H s) (h1 : -(2 ^ 62) ≤ lo) (h2 : lo < 2 ^ 62) (h3 : -(2 ^ 62) ≤ hi) (h4 : hi < 2 ^ 62)
    (q : R (Itr lo (hi - lo).toNat) H) : wpAny (model X.prog X.w) X.A (pyIter (.ref s.heap.objs.size)) (PIE X pins σ tg R) E { s with heap := s.heap.push { cls := .type "range", data := .fields #[.int lo t, .int hi u, .int 1 v] }, toks := tk } := by
  refine wpAny_pyIter_range (IsRange.new ..) (small_one h1 h2 h3 h4) ?_
  have I1 : Inv X pins σ H { s with heap := s.heap.push { cls := .type "range", data := .fields #[.int lo t, .int hi u, .int 1 v] }, toks := tk } := I.kept fun b o e => Heap.get?_push_of_some _ e
  refine ⟨(s.heap.push { cls := .type "range", data := .fields #[.int lo t, .int hi u, .int 1 v] }).objs.size, [(s.heap.push { cls := .type "range", data := .fields #[.int lo t, .int hi u, .int 1 v] }).objs.size], _, _, H, rfl,
    I1.kept (t' := tk) fun b o e => Heap.get?_push_of_some _ e, turn_range _ lo (hi - lo).toNat, ?_, fun b hb => ?_, q⟩
  · have e1 : lo + ((0 : Nat) : Int) * 1 = lo := by simp
    have e2 : (((hi - lo).toNat : Nat) : Int) - ((0 : Nat) : Int) = Builtin.Range.rangeSize lo hi 1 := by rw [rangeSize_one]; split <;> ((try clear e1 h1 h2 h3 h4); omega)
    show IsRangeIter _ _ (lo + ((0 : Nat) : Int) * 1) ((((hi - lo).toNat : Nat) : Int) - ((0 : Nat) : Int)) 1
    rw [e1, e2]
    exact Heap.get?_push_size _ rfl
  · have e : b = (s.heap.push { cls := .type "range", data := .fields #[.int lo t, .int hi u, .int 1 v] }).objs.size := by simpa using hb
    subst e
    exact I1.fpOk (Nat.le_refl _) (I1.hok.fresh (Nat.le_refl _))
noncomputable def iRng1 (ta : TA) : TI := fun σ H R => ta σ H fun vs H1 => ∃ j : Int, vs = [.int j] ∧ -(2 ^ 62) ≤ j ∧ j < 2 ^ 62 ∧ R (Itr 0 j.toNat) H1
noncomputable def iRng2 (ta : TA) : TI := fun σ H R => ta σ H fun vs H1 => ∃ i j : Int, vs = [.int i, .int j] ∧ (-(2 ^ 62) ≤ i ∧ i < 2 ^ 62 ∧ -(2 ^ 62) ≤ j ∧ j < 2 ^ 62) ∧ R (Itr i (j - i).toNat) H1
theorem pi_range1 {a : Expr} {ta : TA} {p pos : Pos} (hg : Gl X "range") (hm : X.mg "range" = none) (ha : PA X [a] ta) (hs : starEach [a] X.env = [(false, eval a X.env)] := by rfl) : PI X tg (.Call (.Name "range" p) [a] [] pos) (iRng1 ta) := by
  intro pins s σ H R I h
  refine Call_ (ld_blt I hg hm boot_range (PyProof.Rows.callWith_type1 (thn (ha pos pins s σ H _ I h) fun us s1 ⟨vs, H1, I1, r1, q1⟩ => ?_) hs rfl))
  obtain ⟨j, e, q1, q2, q⟩ := q1
  subst e
  cases r1 with
  | cons r rr =>
    cases rr
    obtain ⟨t, rfl⟩ := r
    exact call_range_1 (range_it I1 (by ((try clear hm hs q1 q2); omega)) (by ((try clear hm hs q1 q2); omega)) q1 q2 (by simpa using q))
theorem pi_range2 {a b : Expr} {ta : TA} {p pos : Pos} (hg : Gl X "range") (hm : X.mg "range" = none) (ha : PA X [a, b] ta) (hs : starEach [a, b] X.env = [(false, eval a X.env), (false, eval b X.env)] := by rfl) (hs2 : starEach [b] X.env = [(false, eval b X.env)] := by rfl) :
    PI X tg (.Call (.Name "range" p) [a, b] [] pos) (iRng2 ta) := by
  intro pins s σ H R I h
  refine Call_ (ld_blt I hg hm boot_range (PyProof.Rows.callWith_type1 (thn (ha pos pins s σ H _ I h) fun us s1 ⟨vs, H1, I1, r1, q1⟩ => ?_) (by rw [hs, hs2]) (by rw [hs2]; rfl)))
  obtain ⟨i, j, e, ⟨q1, q2, q3, q4⟩, q⟩ := q1
  subst e
  cases r1 with
  | cons r rr =>
    cases rr with
    | cons r' rr =>
      cases rr
      obtain ⟨t, rfl⟩ := r
      obtain ⟨t', rfl⟩ := r'
      exact call_range_2 (range_it I1 q1 q2 q3 q4 q)
noncomputable def tFor (wi : TI) (g : TG) (tb : TS) : TS := fun D σ H => wi σ H fun J H1 => ∃ W : Nat → Nat → St → Hp → Prop, (∃ m, W 0 m σ H1) ∧ ∀ i m σ H, W i m σ H →
  (J.stop i H ∧ D.nx σ H) ∨ (J.go i H ∧ ∃ N : St → Hp → Prop, (∀ σ' H', N σ' H' → ∃ m', m' < m ∧ W (i + 1) m' σ' H') ∧ ∀ x H', J.yld i H x H' → g x σ H' fun σ2 H2 => tb { D with nx := N, ct := N, bk := D.nx } σ2 H2)
noncomputable def pinsAt (fp : List Addr) (h : Heap) : List (Addr × Obj) := fp.filterMap fun b => (h.get? b).map fun o => (b, o)
theorem mem_pinsAt {fp : List Addr} {h : Heap} {b : Addr} {o : Obj} (hb : b ∈ fp) (e : h.get? b = some o) : (b, o) ∈ pinsAt fp h := List.mem_filterMap.mpr ⟨b, hb, by rw [e]; rfl⟩
theorem of_pinsAt {fp : List Addr} {h : Heap} {p : Addr × Obj} (hp : p ∈ pinsAt fp h) : p.1 ∈ fp ∧ h.get? p.1 = some p.2 := by
  obtain ⟨b, hb, e⟩ := List.mem_filterMap.mp hp
  cases q : h.get? b with
  | none => rw [q] at e; cases e
  | some o =>
    rw [q] at e
    have e' : (b, o) = p := Option.some.inj e
    subst e'
    exact ⟨hb, q⟩
theorem Inv.pinned {pins : List (Addr × Obj)} {σ : St} {H : Hp} {s : Shared} {fp : List Addr} (I : Inv X pins σ H s) (hf : ∀ b ∈ fp, FpOk X pins H b) (ho : ∀ b ∈ fp, ∃ o, s.heap.get? b = some o ∧ ∀ v, o.data ≠ .cell v) : Inv X (pins ++ pinsAt fp s.heap) σ H s :=
  I.pins_of fun p hp => (List.mem_append.mp hp).elim (fun z => I.pin p (List.mem_append_right _ z)) fun z => by
    obtain ⟨hb, e⟩ := of_pinsAt z
    obtain ⟨f0, f1, f2, _⟩ := hf p.1 hb
    obtain ⟨o, e', d⟩ := ho p.1 hb
    rw [e] at e'; cases e'
    exact ⟨e, f0, f1, f2, d⟩
theorem Inv.unpinned {pins pl : List (Addr × Obj)} {σ : St} {H : Hp} {s : Shared} (I : Inv X (pins ++ pl) σ H s) : Inv X pins σ H s := I.pins_of fun p hp => I.pin p (List.mem_append_right _ (List.mem_append_left _ hp))
theorem ps_for {iter : Expr} {body : List Stmt} {wi : TI} {g : TG} {tb : TS} {pos : Pos} (hp : PassesOwn (model X.prog X.w) X.A X.env X.xe) (hc : X.calm = true) (hi : PI X tg iter wi) (hg : PG X tg g) (hb : PSs X body tb)
    (hs : ∀ x, foldedSetIterable iter X.env x = pure x := by intro _; rfl) : PS X (.For tg iter body [] pos) (tFor wi g tb) := by
  intro pins s σ H D I h
  refine wpAny_For (thn (hi pins s σ H _ I h) fun v s1 h1 => thn h1 fun itv s2 h2 => ?_) hs
  obtain ⟨it, fp, tn, J, H2, e, I2, T, st2, f2, W, ⟨m0, w0⟩, turn⟩ := h2
  subst e
  have stat : ∀ {H' : Hp}, (∀ b ∈ fp, H' b = none) → ∀ b ∈ fp, FpOk X pins H' b := fun hn b hb => ⟨hn b hb, (f2 b hb).2⟩
  refine codeAny_forLoop_any (fun n s' => ∃ i σ' H', Inv X pins σ' H' s' ∧ tn i s'.heap ∧ (∀ b ∈ fp, H' b = none) ∧ W i n σ' H') ?_ m0 ⟨0, σ, H2, I2, st2, fun b hb => (f2 b hb).1, w0⟩
  rintro n s3 ⟨i, σ3, H3, I3, st3, fr3, w3⟩
  rcases turn i n σ3 H3 w3 with ⟨stop, qn⟩ | ⟨go, N, hN, step⟩
  · refine wpAny_passesOwn hp (thn (T.done X rfl rfl rfl hc i pins s3 σ3 H3 X.xe I3 (stat fr3) st3 stop) fun r s4 ⟨hr, I4⟩ => ?_)
    subst hr
    exact wpAny_execs_nil ⟨σ3, H3, I4, qn⟩
  · refine wpAny_passesOwn hp (thn (T.item X rfl rfl rfl hc i pins s3 σ3 H3 X.xe I3 (stat fr3) st3 go) fun r s4 ⟨u, hr, h4⟩ => ?_)
    subst hr
    refine wpAny_passesOwn hp (thn h4 fun _ s5 ⟨x, H5, I5, r5, y5, st5, fr5⟩ => ?_)
    have I5' := I5.pinned (stat fr5) (T.obj _ _ st5)
    refine wpAny_passesOwn hp (thn (hg _ s5 σ3 H5 x u _ I5' r5 (step x H5 y5)) fun _ s6 ⟨σ6, H6, I6, q6⟩ => ?_)
    refine wpAny_passesOwn hp (thn (hb _ s6 σ6 H6 _ I6 q6) fun f s7 q7 => ?_)
    have again : ∀ {σ7 : St} {H7 : Hp}, Inv X (pins ++ pinsAt fp s5.heap) σ7 H7 s7 → N σ7 H7 → ∃ m, m < n ∧ ∃ i σ' H', Inv X pins σ' H' s7 ∧ tn i s7.heap ∧ (∀ b ∈ fp, H' b = none) ∧ W i m σ' H' := fun {σ7 H7} I7 n7 => by
      obtain ⟨m', hm, w7⟩ := hN σ7 H7 n7
      refine ⟨m', hm, i + 1, σ7, H7, I7.unpinned, T.keep _ _ _ st5 fun b hb o e => (I7.pin (b, o) (List.mem_append_right _ (List.mem_append_right _ (mem_pinsAt hb e)))).1, fun b hb => ?_, w7⟩
      obtain ⟨o, e, d⟩ := T.obj _ _ st5 b hb
      exact (I7.pin (b, o) (List.mem_append_right _ (List.mem_append_right _ (mem_pinsAt hb e)))).2.1
    cases f with
    | next => obtain ⟨σ7, H7, I7, n7⟩ := q7; exact again I7 n7
    | cont => obtain ⟨σ7, H7, I7, n7⟩ := q7; exact again I7 n7
    | brk => obtain ⟨σ7, H7, I7, q7⟩ := q7; exact ⟨σ7, H7, I7.unpinned, q7⟩
    | ret v => obtain ⟨x7, σ7, H7, I7, r7, q7⟩ := q7; exact ⟨x7, σ7, H7, I7.unpinned, r7, q7⟩
end
theorem for_list {K : PySem.W.Frag} {a : Addr} {xs : List V} {g : TG} {tb : TS} {D : Ends} {σ : St} {H : Hp} (Pv : Nat → St → Hp → Prop) (h0 : Pv 0 σ H) (hl : ∀ i σ H, i ≤ xs.length → Pv i σ H → SqL K H a xs)
    (hs : ∀ i x σ H, xs[i]? = some x → Pv i σ H → g x σ H fun σ2 H2 => tb { D with nx := Pv (i + 1), ct := Pv (i + 1), bk := D.nx } σ2 H2) (hd : ∀ σ H, Pv xs.length σ H → D.nx σ H) :
    ∃ W : Nat → Nat → St → Hp → Prop, (∃ m, W 0 m σ H) ∧ ∀ i m σ H, W i m σ H →
      ((Itl K a).stop i H ∧ D.nx σ H) ∨ ((Itl K a).go i H ∧ ∃ N : St → Hp → Prop, (∀ σ' H', N σ' H' → ∃ m', m' < m ∧ W (i + 1) m' σ' H') ∧ ∀ x H', (Itl K a).yld i H x H' → g x σ H' fun σ2 H2 => tb { D with nx := N, ct := N, bk := D.nx } σ2 H2) := by
  refine ⟨fun i m σ H => m = xs.length - i ∧ i ≤ xs.length ∧ Pv i σ H, ⟨xs.length, by simp, Nat.zero_le _, h0⟩, ?_⟩
  rintro i m σ H ⟨rfl, hi, p⟩
  have q := hl i σ H hi p
  by_cases hlt : i < xs.length
  · refine .inr ⟨⟨xs, xs[i], q, by simp [hlt]⟩, Pv (i + 1), fun σ' H' p' => ⟨xs.length - (i + 1), by ((try clear hi); omega), rfl, hlt, p'⟩, fun x H' y => ?_⟩
    obtain ⟨e, y⟩ := y
    subst e
    exact hs i x σ _ (y xs q) p
  · have e : i = xs.length := by omega
    subst e
    exact .inl ⟨⟨xs, q, Nat.le_refl _⟩, hd σ H p⟩
theorem for_range {lo : Int} {n : Nat} {g : TG} {tb : TS} {D : Ends} {σ : St} {H : Hp} (Pv : Nat → St → Hp → Prop) (h0 : Pv 0 σ H)
    (hs : ∀ i σ H, i < n → Pv i σ H → g (.int (lo + i)) σ H fun σ2 H2 => tb { D with nx := Pv (i + 1), ct := Pv (i + 1), bk := D.nx } σ2 H2) (hd : ∀ σ H, Pv n σ H → D.nx σ H) :
    ∃ W : Nat → Nat → St → Hp → Prop, (∃ m, W 0 m σ H) ∧ ∀ i m σ H, W i m σ H →
      ((Itr lo n).stop i H ∧ D.nx σ H) ∨ ((Itr lo n).go i H ∧ ∃ N : St → Hp → Prop, (∀ σ' H', N σ' H' → ∃ m', m' < m ∧ W (i + 1) m' σ' H') ∧ ∀ x H', (Itr lo n).yld i H x H' → g x σ H' fun σ2 H2 => tb { D with nx := N, ct := N, bk := D.nx } σ2 H2) := by
  refine ⟨fun i m σ H => m = n - i ∧ i ≤ n ∧ Pv i σ H, ⟨n, by simp, Nat.zero_le _, h0⟩, ?_⟩
  rintro i m σ H ⟨rfl, hi, p⟩
  by_cases hlt : i < n
  · refine .inr ⟨hlt, Pv (i + 1), fun σ' H' p' => ⟨n - (i + 1), by ((try clear hi); omega), rfl, hlt, p'⟩, fun x H' y => ?_⟩
    obtain ⟨e, y⟩ := y
    subst e y
    exact hs i σ _ hlt p
  · have e : i = n := by omega
    subst e
    exact .inl ⟨Nat.le_refl _, hd σ H p⟩
end L2
namespace L2
open PySem PySem.Spec PyProof.Rows
noncomputable abbrev R2 := V → V → Hp → VK → Prop
noncomputable def OpR (X : Cx) (f : Value → Value → Sem Value) (r : R2) : Prop :=
  ∀ (pins : List (Addr × Obj)) (s : Shared) (σ : St) (H : Hp) (x y : V) (v u : Value) (Q : VK), Inv X pins σ H s → RelV x v → RelV y u → r x y H Q →
    wpAny (model X.prog X.w) X.A (f v u) (EP X pins σ Q) X.xe s
noncomputable def UnR (X : Cx) (f : Value → Sem Value) (r : V → Hp → VK → Prop) : Prop :=
  ∀ (pins : List (Addr × Obj)) (s : Shared) (σ : St) (H : Hp) (x : V) (v : Value) (Q : VK), Inv X pins σ H s → RelV x v → r x H Q →
    wpAny (model X.prog X.w) X.A (f v) (EP X pins σ Q) X.xe s
noncomputable def CallR (X : Cx) (f : Value) (r : List V → Hp → VK → Prop) : Prop :=
  ∀ (pins : List (Addr × Obj)) (s : Shared) (σ : St) (H : Hp) (xs : List V) (us : List Value) (Q : VK), Inv X pins σ H s → Vals xs us → r xs H Q →
    wpAny (model X.prog X.w) X.A (call f us) (EP X pins σ Q) X.xe s
noncomputable def TruR (X : Cx) (r : V → Hp → (Bool → Hp → Prop) → Prop) : Prop :=
  ∀ (pins : List (Addr × Obj)) (s : Shared) (σ : St) (H : Hp) (x : V) (v : Value) (Q : Bool → Hp → Prop), Inv X pins σ H s → RelV x v → r x H Q →
    wpAny (model X.prog X.w) X.A (truthy v) (TP X pins σ Q) X.xe s
noncomputable def tOp (r : R2) (ta tb : TE) : TE := fun σ H Q => ta σ H fun x H1 => tb σ H1 fun y H2 => r x y H2 Q
noncomputable def tUn (r : V → Hp → VK → Prop) (ta : TE) : TE := fun σ H Q => ta σ H fun x H1 => r x H1 Q
noncomputable def rI (C : Int → Int → Prop) (g : Int → Int → V) : R2 := fun x y H Q => ∃ i j, x = .int i ∧ y = .int j ∧ C i j ∧ Q (g i j) H
noncomputable def rI0 (g : Int → Int → V) : R2 := fun x y H Q => ∃ i j, x = .int i ∧ y = .int j ∧ Q (g i j) H
noncomputable def rU (g : Int → V) : V → Hp → VK → Prop := fun x H Q => ∃ i, x = .int i ∧ Q (g i) H
section
variable {X : Cx} {a b c : Expr} {ta tb tc : TE} {pos : Pos}
theorem binT (ha : PE X a ta) (hb : PE X b tb) {pins : List (Addr × Obj)} {s : Shared} {σ : St} {H : Hp} {R : V → V → Hp → Prop} (I : Inv X pins σ H s)
    (h : ta σ H fun x H1 => tb σ H1 fun y H2 => R x y H2) {Q : Value → Shared → Prop} {f : Value → Value → Sem Value}
    (hf : ∀ v u s2 x y H2, Inv X pins σ H2 s2 → RelV x v → RelV y u → R x y H2 → wpAny (model X.prog X.w) X.A (f v u) Q X.xe s2) :
    wpAny (model X.prog X.w) X.A (eval a X.env) (fun v s₁ => wpAny (model X.prog X.w) X.A (eval b X.env) (fun u s₂ => wpAny (model X.prog X.w) X.A (f v u) Q X.xe s₂) X.xe s₁) X.xe s := by
  refine thn (ha pins s σ H _ I h) fun v s1 ⟨x, H1, I1, r1, q1⟩ => ?_
  refine thn (hb pins s1 σ H1 _ I1 q1) fun u s2 ⟨y, H2, I2, r2, q2⟩ => ?_
  exact hf v u s2 x y H2 I2 r1 r2 q2
theorem pe_op {op : Operator} {r : R2} (ho : OpR X (binaryOp op) r) (ha : PE X a ta) (hb : PE X b tb) : PE X (.BinOp a op b pos) (tOp r ta tb) := by
  intro pins s σ H Q I h
  exact wpAny_BinOp (binT ha hb I h fun v u s2 x y H2 I2 rx ry q => ho pins s2 σ H2 x y v u Q I2 rx ry q)
theorem pe_un {op : UnaryOp} {r : V → Hp → VK → Prop} (ho : UnR X (unaryOp op) r) (ha : PE X a ta) : PE X (.UnaryOp op a pos) (tUn r ta) := by
  intro pins s σ H Q I h
  exact UnaryOp_ (thn (ha pins s σ H _ I h) fun v s1 ⟨x, H1, I1, r1, q1⟩ => ho pins s1 σ H1 x v Q I1 r1 q1)
theorem opI {f : Value → Value → Sem Value} {C : Int → Int → Prop} {g : Int → Int → Int}
    (rule : ∀ (i j : Int) (t u : Tok) (s : Shared) (Q : Value → Shared → Prop) (E : Value → Shared → Prop), C i j → Q (.int (g i j) s.toks) { s with toks := s.toks + 1 } → wpAny (model X.prog X.w) X.A (f (.int i t) (.int j u)) Q E s) :
    OpR X f (rI C fun i j => .int (g i j)) := by
  intro pins s σ H x y v u Q I rx ry h
  obtain ⟨i, j, rfl, rfl, hc, q⟩ := h
  obtain ⟨t, rfl⟩ := rx
  obtain ⟨t', rfl⟩ := ry
  exact rule i j t t' s _ _ hc ⟨.int (g i j), H, I.tok _, ⟨_, rfl⟩, q⟩
theorem opI0 {f : Value → Value → Sem Value} {g : Int → Int → Int}
    (rule : ∀ (i j : Int) (t u : Tok) (s : Shared) (Q : Value → Shared → Prop) (E : Value → Shared → Prop), Q (.int (g i j) s.toks) { s with toks := s.toks + 1 } → wpAny (model X.prog X.w) X.A (f (.int i t) (.int j u)) Q E s) :
    OpR X f (rI0 fun i j => .int (g i j)) := by
  intro pins s σ H x y v u Q I rx ry h
  obtain ⟨i, j, rfl, rfl, q⟩ := h
  obtain ⟨t, rfl⟩ := rx
  obtain ⟨t', rfl⟩ := ry
  exact rule i j t t' s _ _ ⟨.int (g i j), H, I.tok _, ⟨_, rfl⟩, q⟩
theorem opB0 {f : Value → Value → Sem Value} {g : Int → Int → Bool}
    (rule : ∀ (i j : Int) (t u : Tok) (s : Shared) (Q : Value → Shared → Prop) (E : Value → Shared → Prop), Q (.bool (g i j)) s → wpAny (model X.prog X.w) X.A (f (.int i t) (.int j u)) Q E s) :
    OpR X f (rI0 fun i j => .bl (g i j)) := by
  intro pins s σ H x y v u Q I rx ry h
  obtain ⟨i, j, rfl, rfl, q⟩ := h
  obtain ⟨t, rfl⟩ := rx
  obtain ⟨t', rfl⟩ := ry
  exact rule i j t t' s _ _ ⟨.bl (g i j), H, I, rfl, q⟩
noncomputable def CDiv (i j : Int) : Prop := 0 < j ∧ j < 1073741824
noncomputable def CDivN (i j : Int) : Prop := j ≠ 0 ∧ j.natAbs < 1073741824
noncomputable def CPow (i j : Int) : Prop := 0 ≤ j ∧ j ≤ 1000000 ∧ i.natAbs < 2 ^ 64
noncomputable def CMul (i j : Int) : Prop := (-(2 ^ 64) < i ∧ i < 2 ^ 64) ∨ (-(2 ^ 64) < j ∧ j < 2 ^ 64)
theorem op_add : OpR X (binaryOp .Add) (rI0 fun i j => .int (i + j)) := opI0 fun _ _ _ _ _ _ _ q => add_int q
theorem op_sub : OpR X (binaryOp .Sub) (rI0 fun i j => .int (i - j)) := opI0 fun _ _ _ _ _ _ _ q => sub_int q
theorem op_mod : OpR X (binaryOp .Mod) (rI (fun _ j => 0 < j) fun i j => .int (i % j)) := opI fun i j _ _ _ _ _ hc q => by
  have h1 : (0 : Int) < j := hc
  exact mod_int' (by ((try clear h1); omega)) (by rw [Int.fmod_eq_emod_of_nonneg i (by ((try clear h1); omega))]; exact q)
theorem op_pow : OpR X (binaryOp .Pow) (rI CPow fun i j => .int (i ^ j.toNat)) := opI fun _ _ _ _ _ _ _ hc q => pow_int_small hc.1 hc.2.1 hc.2.2 q
theorem unI {f : Value → Sem Value} {g : Int → Int}
    (rule : ∀ (i : Int) (t : Tok) (s : Shared) (Q : Value → Shared → Prop) (E : Value → Shared → Prop), Q (.int (g i) s.toks) { s with toks := s.toks + 1 } → wpAny (model X.prog X.w) X.A (f (.int i t)) Q E s) :
    UnR X f (rU fun i => .int (g i)) := by
  intro pins s σ H x v Q I rx h
  obtain ⟨i, rfl, q⟩ := h
  obtain ⟨t, rfl⟩ := rx
  exact rule i t s _ _ ⟨.int (g i), H, I.tok _, ⟨_, rfl⟩, q⟩
theorem un_neg : UnR X (unaryOp .USub) (rU fun i => .int (-i)) := unI fun _ _ _ _ _ q => neg_int q
end
noncomputable def scal : V → V → Bool
  | .non, .non => true | .non, .int _ => true | .int _, .non => true | .non, .bl _ => true | .bl _, .non => true | .non, .str _ => true | .str _, .non => true
  | .int _, .int _ => true | .bl _, .bl _ => true | .str _, .str _ => true | .byt _, .byt _ => true
  | .int _, .str _ => true | .str _, .int _ => true | .bl _, .str _ => true | .str _, .bl _ => true
  | _, _ => false
noncomputable def rEq : R2 := fun x y H Q => scal x y = true ∧ Q (.bl (decide (x = y))) H
noncomputable def rNe : R2 := fun x y H Q => scal x y = true ∧ Q (.bl (!decide (x = y))) H
theorem dec_int {i j : Int} : decide (V.int i = V.int j) = (i == j) := by
  rw [Bool.eq_iff_iff]
  simp
theorem dec_bl {i j : Bool} : decide (V.bl i = V.bl j) = (i == j) := by
  rw [Bool.eq_iff_iff]
  simp
theorem dec_str {i j : Str} : decide (V.str i = V.str j) = (i == j) := by
  rw [Bool.eq_iff_iff]
  simp
theorem dec_byt {i j : Array UInt8} : decide (V.byt i = V.byt j) = (i.toList == j.toList) := by
  rw [Bool.eq_iff_iff]
  cases i
  cases j
  simp
section
variable {X : Cx} {a b c : Expr} {ta tb tc : TE} {pos : Pos}
theorem fin_bl {pins : List (Addr × Obj)} {σ : St} {H : Hp} {s : Shared} {Q : VK} {k k' : Bool} (I : Inv X pins σ H s) (q : Q (.bl k) H) (e : k = k') : EP X pins σ Q (.bool k') s := by
  subst e
  exact ⟨.bl k, H, I, rfl, q⟩
theorem op_eq : OpR X (compareOp .Eq) rEq := by
  intro pins s σ H x y v u Q I rx ry h
  obtain ⟨hs, q⟩ := h
  cases x with
  | non =>
    cases rx
    cases y with
    | non => cases ry; exact PySem.EqNone.eq_none_none (fin_bl I q (by simp))
    | bl j => cases ry; exact PySem.EqNone.eq_none_bool (fin_bl I q (by simp))
    | int j => obtain ⟨t', rfl⟩ := ry; exact PySem.EqNone.eq_none_int (fin_bl I q (by simp))
    | str j => obtain ⟨t', rfl⟩ := ry; exact PySem.EqNone.eq_none_str (fin_bl I q (by simp))
    | _ => exact absurd (show false = true from hs) Bool.false_ne_true
  | bl i =>
    cases rx
    cases y with
    | non => cases ry; exact PySem.EqNone.eq_bool_none (fin_bl I q (by simp))
    | bl j => cases ry; exact eq_bool (fin_bl I q dec_bl)
    | str j => obtain ⟨t', rfl⟩ := ry; exact PySem.EqMixed.eq_bool_str (fin_bl I q (by simp))
    | _ => exact absurd (show false = true from hs) Bool.false_ne_true
  | int i =>
    obtain ⟨t, rfl⟩ := rx
    cases y with
    | non => cases ry; exact PySem.EqNone.eq_int_none (fin_bl I q (by simp))
    | int j => obtain ⟨t', rfl⟩ := ry; exact eq_int (fin_bl I q dec_int)
    | str j => obtain ⟨t', rfl⟩ := ry; exact PySem.EqMixed.eq_int_str (fin_bl I q (by simp))
    | _ => exact absurd (show false = true from hs) Bool.false_ne_true
  | str i =>
    obtain ⟨t, rfl⟩ := rx
    cases y with
    | non => cases ry; exact PySem.EqNone.eq_str_none (fin_bl I q (by simp))
    | bl j => cases ry; exact PySem.EqMixed.eq_str_bool (fin_bl I q (by simp))
    | int j => obtain ⟨t', rfl⟩ := ry; exact PySem.EqMixed.eq_str_int (fin_bl I q (by simp))
    | str j => obtain ⟨t', rfl⟩ := ry; exact eq_str (fin_bl I q dec_str)
    | _ => exact absurd (show false = true from hs) Bool.false_ne_true
  | byt i =>
    obtain ⟨t, rfl⟩ := rx
    cases y with
    | byt j => obtain ⟨t', rfl⟩ := ry; exact PySem.W.eq_bytes (fin_bl I q dec_byt)
    | _ => exact absurd (show false = true from hs) Bool.false_ne_true
  | _ => cases y <;> exact absurd (show false = true from hs) Bool.false_ne_true
theorem op_ne : OpR X (compareOp .NotEq) rNe := by
  intro pins s σ H x y v u Q I rx ry h
  obtain ⟨hs, q⟩ := h
  cases x with
  | non =>
    cases rx
    cases y with
    | non => cases ry; exact PySem.EqNone.ne_none_none (fin_bl I q (by simp))
    | bl j => cases ry; exact PySem.EqNone.ne_none_bool (fin_bl I q (by simp))
    | int j => obtain ⟨t', rfl⟩ := ry; exact PySem.EqNone.ne_none_int (fin_bl I q (by simp))
    | str j => obtain ⟨t', rfl⟩ := ry; exact PySem.EqNone.ne_none_str (fin_bl I q (by simp))
    | _ => exact absurd (show false = true from hs) Bool.false_ne_true
  | bl i =>
    cases rx
    cases y with
    | non => cases ry; exact PySem.EqNone.ne_bool_none (fin_bl I q (by simp))
    | bl j => cases ry; exact ne_bool (fin_bl I q (congrArg not dec_bl))
    | str j => obtain ⟨t', rfl⟩ := ry; exact PySem.EqMixed.ne_bool_str (fin_bl I q (by simp))
    | _ => exact absurd (show false = true from hs) Bool.false_ne_true
  | int i =>
    obtain ⟨t, rfl⟩ := rx
    cases y with
    | non => cases ry; exact PySem.EqNone.ne_int_none (fin_bl I q (by simp))
    | int j => obtain ⟨t', rfl⟩ := ry; exact ne_int (fin_bl I q (congrArg not dec_int))
    | str j => obtain ⟨t', rfl⟩ := ry; exact PySem.EqMixed.ne_int_str (fin_bl I q (by simp))
    | _ => exact absurd (show false = true from hs) Bool.false_ne_true
  | str i =>
    obtain ⟨t, rfl⟩ := rx
    cases y with
    | non => cases ry; exact PySem.EqNone.ne_str_none (fin_bl I q (by simp))
    | bl j => cases ry; exact PySem.EqMixed.ne_str_bool (fin_bl I q (by simp))
    | int j => obtain ⟨t', rfl⟩ := ry; exact PySem.EqMixed.ne_str_int (fin_bl I q (by simp))
    | str j => obtain ⟨t', rfl⟩ := ry; exact ne_str (fin_bl I q (congrArg not dec_str))
    | _ => exact absurd (show false = true from hs) Bool.false_ne_true
  | byt i =>
    obtain ⟨t, rfl⟩ := rx
    cases y with
    | byt j => obtain ⟨t', rfl⟩ := ry; exact PySem.W.ne_bytes (fin_bl I q (congrArg not dec_byt))
    | _ => exact absurd (show false = true from hs) Bool.false_ne_true
  | _ => cases y <;> exact absurd (show false = true from hs) Bool.false_ne_true
theorem op_lt : OpR X (compareOp .Lt) (rI0 fun i j => .bl (decide (i < j))) := opB0 fun _ _ _ _ _ _ _ q => lt_int q
theorem op_le : OpR X (compareOp .LtE) (rI0 fun i j => .bl (decide (i ≤ j))) := opB0 fun _ _ _ _ _ _ _ q => le_int q
theorem op_isN : OpR X (compareOp .Is) (fun x y H Q => y = .non ∧ Q (.bl (decide (x = .non))) H) := by
  intro pins s σ H x y v u Q I rx ry h
  obtain ⟨rfl, q⟩ := h
  cases ry
  refine is_none_gen (fin_bl I q ?_)
  cases x <;> first
    | (cases rx; rfl)
    | (obtain ⟨t, rfl⟩ := rx; rfl)
noncomputable def isObj : HO → Bool
  | .lst _ => true
  | .ins _ _ _ => true
  | _ => false
theorem nomark (b : Expr) {op : CmpOp} (h : op ≠ .In := by decide) (h2 : op ≠ .NotIn := by decide) : behindInMarks op b = false := by
  have e1 : (op == CmpOp.In) = false := by cases op <;> first | rfl | exact absurd rfl h
  have e2 : (op == CmpOp.NotIn) = false := by cases op <;> first | rfl | exact absurd rfl h2
  cases b <;> simp [behindInMarks, e1, e2]
theorem pe_cmpR {op : CmpOp} {r : R2} (ho : OpR X (compareOp op) r) (ha : PE X a ta) (hb : PE X b tb) (hm : behindInMarks op b = false) : PE X (.Compare a [op] [b] pos) (tOp r ta tb) := by
  intro pins s σ H Q I h
  exact wpAny_Compare1 (binT ha hb I h fun v u s2 x y H2 I2 rx ry q => ho pins s2 σ H2 x y v u Q I2 rx ry q) hm
noncomputable def tTest (t : TE) : TT := fun σ H Q => t σ H fun x H' => ∃ k, x = .bl k ∧ Q k H'
theorem pt_cmpR {op : CmpOp} {r : R2} (ho : OpR X (compareOp op) r) (ha : PE X a ta) (hb : PE X b tb) (hm : behindInMarks op b = false) : PT X (.Compare a [op] [b] pos) (tTest (tOp r ta tb)) := by
  intro pins s σ H Q I h
  refine wpAny_isTrue_Compare1 (thn (ha pins s σ H _ I h) fun v s1 ⟨x, H1, I1, r1, q1⟩ => thn (hb pins s1 σ H1 _ I1 q1) fun u s2 ⟨y, H2, I2, r2, q2⟩ =>
    thn (ho pins s2 σ H2 x y v u _ I2 r1 r2 q2) fun c s3 ⟨z, H3, I3, r3, k, e, q3⟩ => ?_) hm
  subst e
  cases r3
  exact wpAny_truthy_bool ⟨H3, I3, q3⟩
noncomputable def tChain (r r' : R2) (ta tb tc : TE) : TE := fun σ H Q => ta σ H fun x H1 => tb σ H1 fun y H2 => r x y H2 fun z H3 => ∃ k, z = .bl k ∧
  (if k = true then tc σ H3 fun w' H4 => r' y w' H4 Q else Q (.bl false) H3)
noncomputable def TruV (K : PySem.W.Frag) (x : V) (H : Hp) (k : Bool) : Prop :=
  match x with
  | .non => k = false
  | .bl b => k = b
  | .int i => k = (i != 0)
  | .str y => y.length ≤ sizeLine ∧ k = ((y.length : Int) != 0)
  | .byt y => y.size ≤ sizeLine ∧ k = ((y.size : Int) != 0)
  | .ref p => (∃ xs, SqL K H p xs ∧ k = !xs.isEmpty) ∨ (∃ xs, SqT K H p xs ∧ k = !xs.isEmpty) ∨ ∃ kvs, H p = some (.dK kvs) ∧ k = !kvs.isEmpty
  | _ => False
theorem line63 : (sizeLine : Nat) < 2 ^ 63 := by rw [sizeLine_eq]; decide
noncomputable def PlainIxT (b : Expr) : Prop := ∀ o i, subscripted b false o i = operate [o, i] (getItem o i)
theorem vals1 {x : V} {us : List Value} (r : Vals [x] us) : ∃ u, us = [u] ∧ RelV x u := by
  cases r with
  | cons r1 r2 => cases r2; exact ⟨_, rfl, r1⟩
theorem vals2 {x y : V} {us : List Value} (r : Vals [x, y] us) : ∃ u w', us = [u, w'] ∧ RelV x u ∧ RelV y w' := by
  cases r with
  | cons r1 r2 =>
    cases r2 with
    | cons r3 r4 => cases r4; exact ⟨_, _, rfl, r1, r3⟩
theorem call_max2 (hc : X.calm = true) : CallR X (.builtin "max") (fun xs H Q => ∃ i j, xs = [.int i, .int j] ∧ Q (.int (if j > i then j else i)) H) := by
  intro pins s σ H xs us Q I r h
  obtain ⟨i, j, rfl, q⟩ := h
  obtain ⟨u, w', rfl, ⟨t, rfl⟩, ⟨t', rfl⟩⟩ := vals2 r
  refine max_two_ints (I.ok.hd hc) fun h' tk k => ⟨_, H, I.kept k, ?_, q⟩
  by_cases hj : j > i
  · rw [if_pos hj, if_pos hj]; exact ⟨_, rfl⟩
  · rw [if_neg hj, if_neg hj]; exact ⟨_, rfl⟩
theorem call_min2 (hc : X.calm = true) : CallR X (.builtin "min") (fun xs H Q => ∃ i j, xs = [.int i, .int j] ∧ Q (.int (if j < i then j else i)) H) := by
  intro pins s σ H xs us Q I r h
  obtain ⟨i, j, rfl, q⟩ := h
  obtain ⟨u, w', rfl, ⟨t, rfl⟩, ⟨t', rfl⟩⟩ := vals2 r
  refine min_two_ints (I.ok.hd hc) fun h' tk k => ⟨_, H, I.kept k, ?_, q⟩
  by_cases hj : j < i
  · rw [if_pos hj, if_pos hj]; exact ⟨_, rfl⟩
  · rw [if_neg hj, if_neg hj]; exact ⟨_, rfl⟩
theorem call_int1 : CallR X (.type "int") (fun xs H Q => (∃ i, xs = [.int i] ∧ Q (.int i) H) ∨ ∃ k, xs = [.bl k] ∧ Q (.int (if k then 1 else 0)) H) := by
  intro pins s σ H xs us Q I r h
  rcases h with ⟨i, rfl, q⟩ | ⟨k, rfl, q⟩
  · obtain ⟨u, rfl, t, rfl⟩ := vals1 r
    exact call_int_int ⟨.int i, H, I, ⟨_, rfl⟩, q⟩
  · obtain ⟨u, rfl, r1⟩ := vals1 r
    cases r1
    exact call_int_bool ⟨.int (if k then 1 else 0), H, I.tok _, ⟨_, rfl⟩, q⟩
noncomputable def LenV (K : PySem.W.Frag) (x : V) (H : Hp) (n : Nat) : Prop :=
  match x with
  | .str y => y.length ≤ sizeLine ∧ n = y.length
  | .byt y => y.size ≤ sizeLine ∧ n = y.size
  | .ref p => (∃ xs, SqL K H p xs ∧ n = xs.length) ∨ ∃ xs, SqT K H p xs ∧ n = xs.length
  | _ => False
end
end L2
namespace L2
open PySem PySem.Spec PyProof.Rows
structure ObjM (h : Heap) (x dx C : Addr) (mA : Str → Option Value) : Prop where
  obj : h.get? x = some (PySem.W.instObj C dx)
  ns : h.Ns1 dx mA
  ne : dx ≠ x
section
variable {prog : Program} {w : World} {A : Around} {E : Value → Shared → Prop} {s : Shared} {K : PySem.W.Frag} {x dx C f : Addr} {mA : Str → Option Value} {name : Str} {v : Value}
end
noncomputable def putF (f : Str) (v : V) : List (Str × V) → List (Str × V)
  | [] => [(f, v)]
  | (g, x) :: r => if g = f then (g, v) :: r else (g, x) :: putF f v r
section
variable {P : Program} {w : World} {H H' : Hp} {h h' : Heap} {a C dx : Addr} {fs fs' : List (Str × V)}
end
structure Cls (K : PySem.W.Frag) (C : Addr) : Prop where
  pg : PySem.W.plainGet K C Str.empty = true
  hd : PySem.W.hasDictIn K C = true
  po : PySem.W.plainOver K C = true
  sa : PySem.W.findIn K (.ref C) "__setattr__" = some (some (.builtin "object.__setattr__"))
noncomputable def NoAttr (K : PySem.W.Frag) (C : Addr) (f : Str) : Prop := PySem.W.findIn K (.ref C) f = some none
structure Con (K : PySem.W.Frag) (C : Addr) (f : Str) (v : V) (u : Value) : Prop where
  at_ : PySem.W.findIn K (.ref C) f = some (some u)
  rel : RelV v u
  get : PySem.W.specialIn K u "__get__" = some none
  cp : PySem.W.copiedNames.contains f = false
structure Meth (K : PySem.W.Frag) (C : Addr) (m : Str) (f : Addr) : Prop where
  at_ : PySem.W.findIn K (.ref C) m = some (some (.ref f))
  fn : PySem.W.isFn K (.ref f) = true
  kp : PySem.W.keepIn K (.ref f) = true
section
variable {X : Cx} {pins : List (Addr × Obj)} {σ : St} {H : Hp} {s : Shared} {a C dx : Addr} {fs : List (Str × V)} {f : Str} {v : V} {A : Around} {E : Value → Shared → Prop}
end
noncomputable def tFld (K : PySem.W.Frag) (ta : TE) (f : Str) : TE := fun σ H Q => ta σ H fun x H1 => ∃ a C dx fs v, x = .ref a ∧ H1 a = some (.ins C dx fs) ∧ Cls K C ∧ NoAttr K C f ∧ fs.lookup f = some v ∧ Q v H1
noncomputable def tCon (K : PySem.W.Frag) (ta : TE) (f : Str) : TE := fun σ H Q => ta σ H fun x H1 => ∃ a C dx fs v u, x = .ref a ∧ H1 a = some (.ins C dx fs) ∧ Cls K C ∧ Con K C f v u ∧ fs.lookup f = none ∧ Q v H1
noncomputable def sFld (K : PySem.W.Frag) (ta tv : TE) (f : Str) : TS := fun D σ H => tv σ H fun y H1 => ta σ H1 fun x H2 => ∃ a C dx fs, x = .ref a ∧ H2 a = some (.ins C dx fs) ∧ Cls K C ∧ NoAttr K C f ∧ fs.length < 1000 ∧
  D.nx σ (upd H2 a (.ins C dx (putF f y fs)))
noncomputable def InOp (X : Cx) (op : Operator) (rd : V → V → Hp → VK → Prop) : Prop :=
  ∀ (pins : List (Addr × Obj)) (s : Shared) (σ : St) (H : Hp) (x y : V) (u v : Value) (Q : VK), Inv X pins σ H s → RelV x u → RelV y v → rd x y H Q → wpAny (model X.prog X.w) X.A (inplaceOp op u v) (EP X pins σ Q) X.xe s
noncomputable def sFldAug (K : PySem.W.Frag) (ta tv : TE) (rd : V → V → Hp → VK → Prop) (f : Str) : TS := fun D σ H => ta σ H fun x H1 => ∃ a C dx fs v, x = .ref a ∧ H1 a = some (.ins C dx fs) ∧ Cls K C ∧ NoAttr K C f ∧ fs.lookup f = some v ∧
  tv σ H1 fun y H2 => rd v y H2 fun z H3 => ∃ dx' fs', H3 a = some (.ins C dx' fs') ∧ fs'.length < 1000 ∧ D.nx σ (upd H3 a (.ins C dx' (putF f z fs')))
section
variable {X : Cx} {o e value : Expr} {f : Str} {pos pos' tpos : Pos} {ta tv : TE}
noncomputable def rAdd : V → V → Hp → VK → Prop := fun x y H Q => ∃ i j, x = .int i ∧ y = .int j ∧ Q (.int (i + j)) H
noncomputable def rSub : V → V → Hp → VK → Prop := fun x y H Q => ∃ i j, x = .int i ∧ y = .int j ∧ Q (.int (i - j)) H
end
section
variable {X : Cx} {pins : List (Addr × Obj)} {σ : St} {H : Hp} {s : Shared} {A : Around} {E : Value → Shared → Prop} {Q : Value → Shared → Prop} {c : Value} {b : Bool}
inductive TyOf (K : PySem.W.Frag) (H : Hp) : V → Value → Prop where
  | non : TyOf K H .non (.type "NoneType")
  | bl (x : Bool) : TyOf K H (.bl x) (.type "bool")
  | int (i : Int) : TyOf K H (.int i) (.type "int")
  | str (x : Str) : TyOf K H (.str x) (.type "str")
  | flt (x : UInt64) : TyOf K H (.flt x) (.type "float")
  | lst {a : Addr} {xs : List V} (e : H a = some (.lst xs)) : TyOf K H (.ref a) (.type "list")
  | frz {a : Addr} {o : Obj} {xs : List V} (e : H a = some (.frz o (.lst xs))) : TyOf K H (.ref a) (.type "list")
  | tup {a : Addr} {xs : List V} (e : H a = some (.tup xs)) : TyOf K H (.ref a) (.type "tuple")
  | dK {a : Addr} {kvs : List (Key × V)} (e : H a = some (.dK kvs)) : TyOf K H (.ref a) (.type "dict")
  | dT {a : Addr} {kvs : List (List Key × V)} (e : H a = some (.dT kvs)) : TyOf K H (.ref a) (.type "dict")
  | ins {a C dx : Addr} {fs : List (Str × V)} (e : H a = some (.ins C dx fs)) (cl : Cls K C) (ha : PySem.W.findIn K (.ref C) "__class__" = some (some (.builtin "object.__class__")))
      (hn : PySem.W.specialIn K (.builtin "object.__class__") "__get__" = some (some (.builtin "getset_descriptor.__get__"))) (htk : PySem.W.takesIn K (.builtin "object.__class__") = some true)
      (hm : PySem.W.mroIn K C (.type "object") = some true) : TyOf K H (.ref a) (.ref C)
end
end L2
namespace L2
open PySem PySem.Spec PyProof.Rows
structure Room (k : Nat) (A : Around) : Prop where
  hd : A.handled = none
  dp : A.depth + 3 * k + 5 < recursionLimit
  un : A.units + 16 * k + 200 < cLine
theorem Room.mono {j k : Nat} {A : Around} (r : Room k A) (h : j ≤ k) : Room j A := ⟨r.hd, by have := r.dp; omega, by have := r.un; omega⟩
theorem Room.deeper {k : Nat} {A : Around} (r : Room (k + 1) A) (env : Env) : Room k (A.deeper env) :=
  ⟨r.hd, by have := r.dp; show A.depth + 1 + 3 * k + 5 < _; omega, by have := r.un; show A.units + 3 + 16 * k + 200 < _; omega⟩
theorem Room.depth {k : Nat} {A : Around} (r : Room k A) : A.depth < recursionLimit := by have := r.dp; omega
theorem Room.units {k : Nat} {A : Around} (r : Room k A) : A.units + 64 < cLine := by have := r.un; omega
noncomputable def tNil : TA := fun _ H Q => Q [] H
noncomputable def tCons (ta : TE) (tr : TA) : TA := fun σ H Q => ta σ H fun x H1 => tr σ H1 fun xs H2 => Q (x :: xs) H2
section
variable {X : Cx} {e : Expr} {es : List Expr} {te : TE} {t : TA} {pos : Pos}
theorem pa_nil : PA X [] tNil := fun _ _ _ _ H Q I h => Calls.spliced_nil ⟨[], H, I, .nil, h⟩
theorem pa_cons (ha : PE X e te) (hr : PA X es t) (hs : starEach (e :: es) X.env = (false, eval e X.env) :: starEach es X.env := by rfl) : PA X (e :: es) (tCons te t) := by
  intro pos pins s σ H Q I h
  rw [hs]
  show wpAny _ _ (spliced ((false, eval e X.env) :: backTo pos (starEach es X.env))) _ _ s
  refine Calls.spliced_cons (thn (ha pins s σ H _ I h) fun u s1 ⟨x, H1, I1, r1, q1⟩ => ?_)
  exact thn (hr pos pins s1 σ H1 _ I1 q1) fun us s2 ⟨xs, H2, I2, r2, q2⟩ => ⟨x :: xs, H2, I2, .cons r1 r2, q2⟩
noncomputable def tTup (t : TA) : TE := fun σ H Q => t σ H fun xs H1 => xs.length ≤ sizeLine ∧ ∀ p, H1 p = none → Q (.ref p) (upd H1 p (.tup xs))
noncomputable def tLst (t : TA) : TE := fun σ H Q => t σ H fun xs H1 => xs.length ≤ sizeLine ∧ ∀ p, H1 p = none → Q (.ref p) (upd H1 p (.lst xs))
theorem pe_lst (h : PA X es t) : PE X (.List es pos) (tLst t) := by
  intro pins s σ H Q I hq
  refine wpAny_List_spliced (thn (h pos pins s σ H _ I hq) fun us s1 ⟨xs, H1, I1, r, z, q⟩ => ⟨by rw [← r.length]; exact z, ?_⟩)
  have hf : H1 s1.heap.objs.size = none := I1.hok.fresh (Nat.le_refl _)
  refine ⟨.ref s1.heap.objs.size, upd H1 s1.heap.objs.size (.lst xs), I1.laid (t' := s1.toks) (fun b u e => Heap.get?_push_of_some _ e) (Nat.le_refl _) ?_, rfl, q _ hf⟩
  exact ⟨z, us, 0, r, Heap.get?_push_size _ rfl⟩
end
noncomputable abbrev Sp := List V → Hp → VK → XK → Prop
noncomputable abbrev CXT := List Env → Hp → Shared → XK → Value → Shared → Prop
structure Env0 (P : Program) (w : World) (K : PySem.W.Frag) (mg : Str → Option Value) (base : Heap) (A : Around) (outer : List Env) (s : Shared) (H : Hp) : Prop where
  frames : A.frames = some outer
  mod : Mod K mg base
  bs : ∀ b o, base.get? b = some o → s.heap.get? b = some o ∧ H b = none
  bsz : base.objs.size ≤ s.heap.objs.size
  funs : s.heap.FunFrames base outer
  frf : ∀ b ∈ frs outer, H b = none
  hok : HOk P w H s.heap
  bare : AllBare s.gens
noncomputable def CE (outer : List Env) (P : Program) (w : World) (H : Hp) (s : Shared) (Q : VK) (u : Value) (s' : Shared) : Prop :=
  ∃ v H', s'.os = s.os ∧ AllBare s'.gens ∧ Un (frs outer) [] H H' s.heap s'.heap ∧ HOk P w H' s'.heap ∧ RelV v u ∧ Q v H'
noncomputable def CR (CX : CXT) (outer : List Env) (P : Program) (w : World) (H : Hp) (s : Shared) (Q : VK) (E : XK) (r : Result) (s' : Shared) : Prop :=
  match r with
  | .ok (.ret u) => CE outer P w H s Q u s'
  | .ok _ => False
  | .error e => CX outer H s E e s'
structure FnOk (P : Program) (w : World) (K : PySem.W.Frag) (mg : Str → Option Value) (base : Heap) (CX : CXT) (k : Nat) (f : Addr) (fd : FuncData) (ps : List Str) (sp : Sp) : Prop where
  len : ∀ vs H Q E, sp vs H Q E → vs.length = ps.length
  run : ∀ (A : Around) (outer : List Env) (s : Shared) (H : Hp) (args : Args) (us : List Value) (vs : List V) (Q : VK) (E : XK), Room k A → Env0 P w K mg base A outer s H → BindsTo s fd args (ps.zip us) → Vals vs us → sp vs H Q E →
    codeAny (model P w) A (.call (.ref f) args) (CR CX outer P w H s Q E) s
section
variable {X : Cx} {pins : List (Addr × Obj)} {σ : St} {H : Hp} {s s' : Shared}
theorem Inv.env0 (I : Inv X pins σ H s) : Env0 X.prog X.w X.K X.mg X.base X.A X.stack s H :=
  ⟨I.ok.frames, I.ok.mod, I.bs, Nat.le_trans I.ok.bsz I.sz, I.stack, I.stkFree, I.hok, I.bare⟩
theorem Inv.after {Q : VK} {u : Value} (I : Inv X pins σ H s) (h : CE X.stack X.prog X.w H s Q u s') : EP X pins σ Q u s' := by
  obtain ⟨v, H', os, bare, un, hok, r, q⟩ := h
  obtain ⟨hh, g, d, t, os'⟩ := s'
  obtain rfl : os' = s.os := os
  exact ⟨v, H', I.call (h' := hh) (g' := g) (d' := d) (t' := t) (ch := []) un hok bare (fun b z => absurd z (by simp)), r, q⟩
end
noncomputable def tCall (sp : Sp) (dvs : List V) (E : XK) (t : TA) : TE := fun σ H Q => t σ H fun vs H1 => sp (vs ++ dvs) H1 Q E
noncomputable def tMeth (C : Addr) (m : Str) (sp : Sp) (dvs : List V) (E : XK) (ta : TE) (t : TA) : TE := fun σ H Q => ta σ H fun x H1 => ∃ a dx fs, x = .ref a ∧ H1 a = some (.ins C dx fs) ∧ fs.lookup m = none ∧
  t σ H1 fun vs H2 => sp (x :: (vs ++ dvs)) H2 Q E
noncomputable def tMake (C : Addr) (sp : Sp) (dvs : List V) (E : XK) (t : TA) : TE := fun σ H Q => t σ H fun vs H1 => ∀ x dx, H1 x = none → H1 dx = none → dx ≠ x →
  sp (.ref x :: (vs ++ dvs)) (upd (upd H1 dx (.own x)) x (.ins C dx [])) (fun v H2 => v = .non ∧ Q (.ref x) H2) E
noncomputable def Binds (K : PySem.W.Frag) (fd : FuncData) (ps : List Str) (ds : List Value) : Prop :=
  ∀ (s : Shared) (us : List Value), K.In s.heap → (us ++ ds).length = ps.length → BindsTo s fd ⟨us, []⟩ (ps.zip (us ++ ds))
theorem Binds.all {K : PySem.W.Frag} {fd : FuncData} {ps : List Str} (h : ∀ us : List Value, us.length = ps.length → bindArgs fd ⟨us, []⟩ = pure (ps.zip us)) : Binds K fd ps [] := fun s us _ hl => by
  rw [List.append_nil] at hl ⊢
  exact .of_eq (h us hl)
noncomputable def Passes (CX : CXT) (X : Cx) (E : XK) : Prop := ∀ (pins : List (Addr × Obj)) (σ : St) (H : Hp) (s : Shared) (e : Value) (s' : Shared), Inv X pins σ H s → CX X.stack H s E e s' → X.xe e s'
section
variable {X : Cx} {CX : CXT} {k : Nat} {f C : Addr} {fd : FuncData} {ps : List Str} {sp : Sp} {dvs : List V} {ds : List Value} {E : XK} {x m : Str} {p pos apos : Pos} {e o : Expr} {es : List Expr} {ta : TE} {t : TA}
theorem run_fn {pins : List (Addr × Obj)} {σ : St} {H : Hp} {s : Shared} {Q : VK} {us : List Value} {vs : List V} (F : FnOk X.prog X.w X.K X.mg X.base CX k f fd ps sp) (hr : Room k X.A) (hb : Binds X.K fd ps ds) (hd : Vals dvs ds) (hx : Passes CX X E)
    (I : Inv X pins σ H s) (r : Vals vs us) (h : sp (vs ++ dvs) H Q E) : wpAny (model X.prog X.w) X.A (call (.ref f) us) (EP X pins σ Q) X.xe s := by
  have r2 : Vals (vs ++ dvs) (us ++ ds) := r.append hd
  have hl : (us ++ ds).length = ps.length := by rw [← r2.length]; exact F.len _ _ _ _ h
  refine wpAny_call (codeAny_mono (F.run X.A X.stack s H ⟨us, []⟩ (us ++ ds) (vs ++ dvs) Q E hr I.env0 (hb s us I.kIn hl) r2 h) fun r s' hq => ?_)
  cases r with
  | error e => exact hx pins σ H s e s' I hq
  | ok fl =>
    cases fl with
    | ret u => exact I.after hq
    | next => exact False.elim hq
    | brk => exact False.elim hq
    | cont => exact False.elim hq
theorem pe_call (F : FnOk X.prog X.w X.K X.mg X.base CX k f fd ps sp) (hr : Room k X.A) (hg : Gl X x) (hm : X.mg x = some (.ref f)) (hk : PySem.W.keepIn X.K (.ref f) = true) (hb : Binds X.K fd ps ds) (hd : Vals dvs ds) (hx : Passes CX X E)
    (ha : PA X (e :: es) t) (hdb : (x == ("__debug__" : Str)) = false := by decide) (he : starEach (e :: es) X.env = (false, eval e X.env) :: starEach es X.env := by rfl) (hpl : (backTo pos (starEach es X.env)).any (·.1) = false := by rfl) :
    PE X (.Call (.Name x p) (e :: es) [] pos) (tCall sp dvs E t) := by
  intro pins s σ H Q I h
  refine wpAny_Call_Name_kw (ld_glob I hg hm ?_ hdb)
  refine PySem.W.callWith_K (h₀ := X.base) I.ok.mod.kin hk (thn (ha pos pins s σ H _ I h) fun us s1 ⟨vs, H1, I1, r, q⟩ => ⟨I1.kIn, ?_⟩) he hpl
  exact run_fn F hr hb hd hx I1 r q
structure Mk (K : PySem.W.Frag) (C f : Addr) : Prop where
  makes : PySem.W.makesIn K C = true
  init : PySem.W.findIn K (.ref C) "__init__" = some (some (.ref f))
  fn : PySem.W.isFn K (.ref f) = true
  kp : PySem.W.keepIn K (.ref C) = true
end
noncomputable def PK (X : Cx) (kws : List Keyword) (t : TA) : Prop :=
  ∀ (pos : Pos) (pins : List (Addr × Obj)) (s : Shared) (σ : St) (H : Hp) (Q : List V → Hp → Prop), Inv X pins σ H s → t σ H Q → wpAny (model X.prog X.w) X.A (evalAll ((backToKw pos (keywordEach kws X.env)).map (·.2))) (AP X pins σ Q) X.xe s
section
variable {X : Cx} {CX : CXT} {k : Nat} {f C : Addr} {fd : FuncData} {ps ks : List Str} {sp : Sp} {E : XK} {x m : Str} {p pos apos kpos : Pos} {e o : Expr} {es : List Expr} {kws : List Keyword} {te ta : TE} {t tk : TA} {nm : Option Str}
structure KBinds (K : PySem.W.Frag) (fd : FuncData) (ps ks : List Str) (g : List Value → List Value → List Value) (gV : List V → List V → List V) : Prop where
  to : ∀ (s : Shared) (us ws : List Value), K.In s.heap → (g us ws).length = ps.length → BindsTo s fd ⟨us, ks.zip ws⟩ (ps.zip (g us ws))
  rel : ∀ {vs : List V} {us : List Value} {zs : List V} {ws : List Value}, Vals vs us → Vals zs ws → Vals (gV vs zs) (g us ws)
noncomputable def tCallK (sp : Sp) (gV : List V → List V → List V) (E : XK) (t tk : TA) : TE := fun σ H Q => t σ H fun vs H1 => tk σ H1 fun zs H2 => sp (gV vs zs) H2 Q E
variable {g : List Value → List Value → List Value} {gV : List V → List V → List V}
end
structure FnScope (N P : List Str) (sc : Scope) : Prop where
  kind : sc.kind = .function
  co : sc.isCoroutine = false
  gen : sc.isGenerator = false
  nd : N.Nodup
  pre : N.take P.length = P
  par : ∀ x ∈ P, sc.names.lookup x = some .local ∨ sc.names.lookup x = some .cell
  nofree : ∀ y ∈ sc.names, y.2 ≠ .free
theorem bindL_out {kindOf : Str → Option NameKind} {x : Str} : ∀ {binds : List (Str × Value)} {m : Str → Option Value}, (∀ v, (x, v) ∉ binds) → bindL kindOf binds m x = m x
  | [], _, _ => rfl
  | (n, v) :: r, m, h => by
    unfold bindL
    rw [bindL_out fun w hw => h w (List.mem_cons_of_mem _ hw)]
    split
    · have : x ≠ n := by rintro rfl; exact h v List.mem_cons_self
      simp [this]
    · rfl
theorem bindC_out {kindOf : Str → Option NameKind} {x : Str} : ∀ {binds : List (Str × Value)} {m : Str → Option Value}, (∀ v, (x, v) ∉ binds) → bindC kindOf binds m x = m x
  | [], _, _ => rfl
  | (n, v) :: r, m, h => by
    unfold bindC
    rw [bindC_out fun w hw => h w (List.mem_cons_of_mem _ hw)]
    split
    · rfl
    · have : x ≠ n := by rintro rfl; exact h v List.mem_cons_self
      simp [this]
theorem bindL_get {kindOf : Str → Option NameKind} {x : Str} {v : Value} : ∀ {P : List Str} {vs : List Value} {i : Nat} {m : Str → Option Value}, P.Nodup → P[i]? = some x → vs[i]? = some v → kindOf x = some .local →
    bindL kindOf (P.zip vs) m x = some v
  | [], _, _, _, _, h, _, _ => by simp at h
  | _ :: _, [], _, _, _, _, h, _ => by simp at h
  | p :: P, w :: vs, 0, m, nd, h1, h2, hk => by
    simp at h1 h2; subst h1; subst h2
    show bindL kindOf ((p, w) :: P.zip vs) m p = _
    unfold bindL
    rw [bindL_out fun v hv => (List.nodup_cons.mp nd).1 (List.of_mem_zip hv).1, if_pos hk]
    simp
  | p :: P, w :: vs, i + 1, m, nd, h1, h2, hk => by
    show bindL kindOf ((p, w) :: P.zip vs) m x = _
    unfold bindL
    exact bindL_get (i := i) (List.nodup_cons.mp nd).2 (by simpa using h1) (by simpa using h2) hk
theorem bindC_get {kindOf : Str → Option NameKind} {x : Str} {v : Value} : ∀ {P : List Str} {vs : List Value} {i : Nat} {m : Str → Option Value}, P.Nodup → P[i]? = some x → vs[i]? = some v → kindOf x ≠ some .local →
    bindC kindOf (P.zip vs) m x = some v
  | [], _, _, _, _, h, _, _ => by simp at h
  | _ :: _, [], _, _, _, _, h, _ => by simp at h
  | p :: P, w :: vs, 0, m, nd, h1, h2, hk => by
    simp at h1 h2; subst h1; subst h2
    show bindC kindOf ((p, w) :: P.zip vs) m p = _
    unfold bindC
    rw [bindC_out fun v hv => (List.nodup_cons.mp nd).1 (List.of_mem_zip hv).1, if_neg hk]
    simp
  | p :: P, w :: vs, i + 1, m, nd, h1, h2, hk => by
    show bindC kindOf ((p, w) :: P.zip vs) m x = _
    unfold bindC
    exact bindC_get (i := i) (List.nodup_cons.mp nd).2 (by simpa using h1) (by simpa using h2) hk
noncomputable def start (N : List Str) (vs : List V) : St := vs.map some ++ List.replicate (N.length - vs.length) none
noncomputable def cxOf (CX : CXT) (P : Program) (w : World) (K : PySem.W.Frag) (mg : Str → Option Value) (base : Heap) (N : List Str) (qual : Str) (scope : Scope) (f : Addr) (cd : Value) (A : Around) (outer : List Env) (s : Shared) (H : Hp) (E : XK) : Cx where
  prog := P
  w := w
  K := K
  mg := mg
  base := base
  A := A.deeper (envOfC qual scope s.heap.objs.size f cd)
  N := N
  s₀ := s
  H₀ := H
  env := envOfC qual scope s.heap.objs.size f cd
  outer := outer
  stack := envOfC qual scope s.heap.objs.size f cd :: outer
  ex := []
  calm := true
  fn := fun _ => true
  pn := []
  xe := fun e s' => wpAny (model P w) (A.deeper (envOfC qual scope s.heap.objs.size f cd)) (leaving (envOfC qual scope s.heap.objs.size f cd) e) (fun _ s'' => CX outer H s E e s'') (fun e' s'' => CX outer H s E e' s'') s'
theorem cell_has {sc : Scope} {n : Nat} {x : Str} (h : sc.names.lookup x = some .cell) : ∃ c, (cellsFrom n sc.names []).lookup x = some c := by
  have q := PySem.W.cellsFrom_some sc.names n [] (.inl h)
  exact Option.isSome_iff_exists.mp q
theorem inv_start {CX : CXT} {P : Program} {w : World} {K : PySem.W.Frag} {mg : Str → Option Value} {base : Heap} {N ps : List Str} {qual : Str} {scope : Scope} {f : Addr} {cd : Value} {A : Around} {outer : List Env} {s s1 : Shared} {H : Hp} {E : XK} {us : List Value} {vs : List V}
    (S : FnScope N ps scope) (hd : A.handled = none) (e0 : Env0 P w K mg base A outer s H) (hl : vs.length = ps.length) (r : Vals vs us)
    (x : InCallC s s.heap.objs.size (bindL (envOfC qual scope s.heap.objs.size f cd).kindOf (ps.zip us) fun _ => none) (cellsFrom (s.heap.objs.size + 1) scope.names []) (bindC (envOfC qual scope s.heap.objs.size f cd).kindOf (ps.zip us) fun _ => none) s1) :
    Inv (cxOf CX P w K mg base N qual scope f cd A outer s H E) [] (start N vs) H s1 := by
  have hpl : ps.length ≤ N.length := by have := congrArg List.length S.pre; rw [List.length_take] at this; ((try clear hd hl); omega)
  obtain ⟨h1, tk, rfl, hk⟩ := x.done
  have noA : ∀ b : Addr, b ∉ (cxOf CX P w K mg base N qual scope f cd A outer s H E).ex := fun b z => absurd (show b ∈ ([] : List Addr) from z) (by simp)
  refine ⟨⟨e0.mod, S.kind, rfl, rfl, Nat.le_refl _, fun y z c h1 h2 => ?_, fun y hy => ?_, fun y c _ h => ?_, fun _ => hd, Around.frames_deeper e0.frames, .inr ⟨rfl, rfl⟩, fun b z => absurd z (noA b), e0.bs, e0.bsz, fun b _ _ => noA b, fun b z => absurd z (noA b), e0.funs, e0.frf⟩,
    rfl, e0.bare, Un.kept hk, ⟨_, x.toInCall.ns, fun i y v h1 h2 h3 => ?_⟩, fun y c h => ⟨_, x.cell y c h⟩, e0.hok.fresh (Nat.le_refl _), fun y c h => ?_, fun p hp => absurd (show p ∈ ([] : List (Addr × Obj)) from hp) (by simp), e0.hok.kept hk, ?_⟩
  · exact name_of_addr x.apart (PySem.mem_of_lookup h1) (PySem.mem_of_lookup h2)
  · have hy : scope.names.lookup y = some .cell ∨ scope.names.lookup y = some .free := hy
    rcases hy with hy | hy
    · exact cell_has hy
    · exact absurd rfl (S.nofree _ (PySem.mem_of_lookup hy))
  · exact Nat.le_of_lt (x.above y c (PySem.mem_of_lookup h))
  · have hi : i < vs.length := by
      unfold start at h2
      by_cases hi : i < vs.length
      · exact hi
      · rw [List.getElem?_append_right (by simpa using hi)] at h2
        rw [List.getElem?_replicate] at h2
        split at h2 <;> cases h2
    have ha : vs[i]? = some v := by
      unfold start at h2
      rw [List.getElem?_append_left (by simpa using hi), List.getElem?_map] at h2
      cases e : vs[i]? with
      | none => rw [e] at h2; cases h2
      | some a => rw [e] at h2; cases h2; rfl
    obtain ⟨u, hu, rv⟩ := r.get ha
    have hp : ps[i]? = some y := by
      rw [← S.pre, List.getElem?_take_of_lt (by ((try clear h1 h2 ha hd hpl hu); omega))]; exact h1
    have ndP : ps.Nodup := by rw [← S.pre]; exact S.nd.sublist (List.take_sublist _ _)
    refine ⟨u, rv, ?_⟩
    rcases S.par y (List.mem_of_getElem? hp) with k | k
    · exact .inl ⟨k, bindL_get ndP hp hu k⟩
    · obtain ⟨c, e⟩ := cell_has (n := s.heap.objs.size + 1) k
      refine .inr ⟨.inl k, c, e, ?_⟩
      have q := x.cell y c e
      rw [bindC_get ndP hp hu (by show scope.names.lookup y ≠ _; rw [k]; decide)] at q
      exact q
  · exact e0.hok.fresh (Nat.le_of_lt (x.above y c (PySem.mem_of_lookup h)))
  · unfold start
    show _ = N.length
    rw [List.length_append, List.length_map, List.length_replicate]
    ((try clear hd); omega)
theorem fn_of {CX : CXT} {P : Program} {w : World} {K : PySem.W.Frag} {mg : Str → Option Value} {base : Heap} {k : Nat} {f : Addr} {name qual : Str} {params : Arguments} {body : List Stmt} {scope : Scope} {dV kV doc pm cdv ct oc : Value} {an od : Option Addr}
    {osl : Array (Option Value)} {N ps : List Str} {sp : Sp} (lk : K.lookup f = some ⟨oc, od, .func (PySem.W.fnOf name qual params body scope dV kV doc pm an cdv ct), osl⟩) (hcd : PySem.W.codeIn K cdv qual = true) (S : FnScope N ps scope)
    (len : ∀ vs H Q E, sp vs H Q E → vs.length = ps.length)
    (hbody : ∀ (A : Around) (outer : List Env) (s : Shared) (H : Hp) (vs : List V) (Q : VK) (E : XK), Room k (A.deeper (envOfC qual scope s.heap.objs.size f cdv)) → sp vs H Q E →
      ∃ t, PSs (cxOf CX P w K mg base N qual scope f cdv A outer s H E) body t ∧ t { nx := fun _ H' => Q .non H', rt := Q } (start N vs) H) :
    FnOk P w K mg base CX (k + 1) f (PySem.W.fnOf name qual params body scope dV kV doc pm an cdv ct) ps sp := by
  refine ⟨len, fun A outer s H args us vs Q E hr e0 hb r hsp => ?_⟩
  have hl := len _ _ _ _ hsp
  have KX : K.In s.heap := e0.mod.kin.keeps fun b o e => (e0.bs b o e).1
  have lim : s.heap.NoLimit := e0.mod.nolimit.keeps fun b o e => (e0.bs b o e).1
  have hkind : ∀ y ∈ ps.zip us, scope.names.lookup y.1 = some .local ∨ (scope.names.lookup y.1 = some .cell ∧ ((cellsFrom (s.heap.objs.size + 1) scope.names []).lookup y.1).isSome = true) := fun ⟨n, v⟩ hy => by
    rcases S.par n (List.of_mem_zip hy).1 with q | q
    · exact .inl q
    · exact .inr ⟨q, PySem.W.cellsFrom_some _ _ _ (.inl q)⟩
  refine codeAny_call_function hr.depth (KX _ _ lk) rfl S.co S.gen rfl (PySem.W.codeRec_of KX hcd) (hb _ _ _ _ ?_)
  refine wpAny_newFunctionEnv_cells S.kind hkind fun env he s1 x => ?_
  subst he
  refine ⟨lim.keeps x.toInCall.keep, codeAny_func ?_⟩
  obtain ⟨t, ht, hq⟩ := hbody A outer s H vs Q E (hr.deeper _) hsp
  have I : Inv (cxOf CX P w K mg base N qual scope f cdv A outer s H E) [] (start N vs) H s1 := inv_start S hr.hd e0 hl r x
  refine wpAny_mono (ht [] s1 (start N vs) H _ I hq) (fun fl s' hs => ?_) fun e s' hs => hs
  have fin : ∀ {σ' : St} {H' : Hp} {v : V} {u : Value}, Inv (cxOf CX P w K mg base N qual scope f cdv A outer s H E) [] σ' H' s' → RelV v u → Q v H' → CE outer P w H s Q u s' :=
    fun {σ' H' v u} J rv q => ⟨v, H', J.os, J.bare, J.base, J.hok, rv, q⟩
  cases fl with
  | ret u =>
    obtain ⟨v, σ', H', J, rv, q⟩ := hs
    exact fin J rv q
  | next =>
    obtain ⟨σ', H', J, q⟩ := hs
    exact fin (v := V.non) (u := Value.none) J rfl q
  | brk =>
    obtain ⟨_, _, _, q⟩ := hs
    exact False.elim q
  | cont =>
    obtain ⟨_, _, _, q⟩ := hs
    exact False.elim q
end L2
namespace L2
open PySem PySem.Spec PyProof.Rows
section
variable {X : Cx} {x : Str} {p pos : Pos} {e : Expr} {es : List Expr} {t : TA} {id T : String} {r : List V → Hp → VK → Prop}
noncomputable def tCB (r : List V → Hp → VK → Prop) (t : TA) : TE := fun σ H Q => t σ H fun vs H1 => r vs H1 Q
theorem pe_callB (hc : CallR X (.builtin id) r) (hg : Gl X x) (hm : X.mg x = none) (hv : bootBuiltins x = some (.builtin id)) (ha : PA X (e :: es) t) (hn : x ≠ "__name__" := by decide) (hdb : (x == ("__debug__" : Str)) = false := by decide)
    (he : starEach (e :: es) X.env = (false, eval e X.env) :: starEach es X.env := by rfl) (hpl : (backTo pos (starEach es X.env)).any (·.1) = false := by rfl) : PE X (.Call (.Name x p) (e :: es) [] pos) (tCB r t) := by
  intro pins s σ H Q I h
  refine wpAny_Call_Name_kw (ld_blt I hg hm hv ?_ hn hdb)
  exact PyProof.Rows.callWith_builtin1 (thn (ha pos pins s σ H _ I h) fun us s1 ⟨vs, H1, I1, r1, q1⟩ => hc pins s1 σ H1 vs us Q I1 r1 q1) he hpl
theorem pe_callTy (hc : CallR X (.type T) r) (hg : Gl X x) (hm : X.mg x = none) (hv : bootBuiltins x = some (.type T)) (ha : PA X (e :: es) t) (hn : x ≠ "__name__" := by decide) (hdb : (x == ("__debug__" : Str)) = false := by decide)
    (he : starEach (e :: es) X.env = (false, eval e X.env) :: starEach es X.env := by rfl) (hpl : (backTo pos (starEach es X.env)).any (·.1) = false := by rfl) : PE X (.Call (.Name x p) (e :: es) [] pos) (tCB r t) := by
  intro pins s σ H Q I h
  refine wpAny_Call_Name_kw (ld_blt I hg hm hv ?_ hn hdb)
  exact PyProof.Rows.callWith_type1 (thn (ha pos pins s σ H _ I h) fun us s1 ⟨vs, H1, I1, r1, q1⟩ => hc pins s1 σ H1 vs us Q I1 r1 q1) he hpl
end
end L2
namespace HT
open PySem PyProof.Rows
noncomputable def lexLt : List Int → List Int → Bool
  | [], [] => false
  | [], _ :: _ => true
  | _ :: _, [] => false
  | x :: xs, y :: ys => if x = y then lexLt xs ys else decide (x < y)
section
open PySem.SeqAt
open PySem.AutoSeq1 (wpAny_loadPart')
open PySem.MeetsSeq PySem.MeetsSeq2 PySem.MeetsSeq3
end
section
variable {prog : Program} {w : World} {A : Around} {E : Value → Shared → Prop} {s : Shared}
noncomputable def sIx (n d : Nat) : Option Int → Nat
  | none => d
  | some v => if v < 0 then (v + (n : Int)).toNat else min v.toNat n
theorem sIx_none (n d : Nat) : sIx n d none = d := rfl
end
end HT
namespace L2
open PySem PySem.Spec PyProof.Rows
noncomputable abbrev TO := St → Hp → (Option Int → Hp → Prop) → Prop
noncomputable def PO (X : Cx) (e : Option Expr) (t : TO) : Prop :=
  ∀ (pins : List (Addr × Obj)) (s : Shared) (σ : St) (H : Hp) (Q : Option Int → Hp → Prop), Inv X pins σ H s → t σ H Q →
    wpAny (model X.prog X.w) X.A (evalPart e X.env) (fun u s' => ∃ o H', Inv X pins σ H' s' ∧ IsPart u o ∧ Q o H') X.xe s
noncomputable def tNoPart : TO := fun _ H Q => Q none H
noncomputable def tPart (t : TE) : TO := fun σ H Q => t σ H fun x H1 => ∃ i, x = .int i ∧ Q (some i) H1
theorem intsAre_of {ns : List Int} : ∀ {us : List Value}, Vals (ns.map V.int) us → IntsAre us ns := by
  induction ns with
  | nil => intro us r; rw [List.map_nil] at r; cases r; exact .nil
  | cons n ns ih =>
    intro us r
    rw [List.map_cons] at r
    cases r with
    | cons r1 r2 =>
      obtain ⟨t, e⟩ := r1
      subst e
      exact .cons n t (ih r2)
section
variable {X : Cx} {e : Expr} {te : TE} {lo hi : Option Expr} {tl th : TO} {pos p2 : Pos}
theorem po_none : PO X none tNoPart := by
  intro pins s σ H Q I h
  rw [evalPart_none]
  exact wpAny_pure ⟨none, H, I, .none, h⟩
theorem po_some (h : PE X e te) : PO X (some e) (tPart te) := by
  intro pins s σ H Q I hw
  rw [evalPart_some]
  refine thn (h pins s σ H _ I hw) fun u s1 ⟨x, H1, I1, r1, q1⟩ => ?_
  obtain ⟨i, rfl, q⟩ := q1
  obtain ⟨t, rfl⟩ := r1
  exact ⟨some i, H1, I1, .int i t, q⟩
noncomputable def SlR (X : Cx) (r : V → Option Int → Option Int → Hp → VK → Prop) : Prop :=
  ∀ (pins : List (Addr × Obj)) (s : Shared) (σ : St) (H : Hp) (x : V) (v vl vu : Value) (lo hi : Option Int) (sl : Addr) (Q : VK), Inv X pins σ H s → RelV x v → s.heap.IsSliceOf sl vl vu .none → IsPart vl lo → IsPart vu hi → r x lo hi H Q →
    ∃ T id, typeLookup (.type T) "__getitem__" = pure (some (.builtin id)) ∧ s.TypeIs v T ∧ wpAny (model X.prog X.w) X.A (getItem v (.ref sl)) (EP X pins σ Q) X.xe s
noncomputable def tSl (r : V → Option Int → Option Int → Hp → VK → Prop) (te : TE) (tl th : TO) : TE := fun σ H Q => te σ H fun x H1 => tl σ H1 fun l H2 => th σ H2 fun u H3 => r x l u H3 Q
theorem pe_slice {r : V → Option Int → Option Int → Hp → VK → Prop} (hr : SlR X r) (he : PE X e te) (hl : PO X lo tl) (hu : PO X hi th) : PE X (.Subscript e (.Slice lo hi none p2) pos) (tSl r te tl th) := by
  intro pins s σ H Q I h
  refine Subscript_ (thn (he pins s σ H _ I h) fun v s1 ⟨x, H1, I1, r1, q1⟩ => ?_)
  refine wpAny_Slice (thn (hl pins s1 σ H1 _ I1 q1) fun vl s2 ⟨l, H2, I2, pl, q2⟩ => thn (hu pins s2 σ H2 _ I2 q2) fun vu s3 ⟨u, H3, I3, pu, q3⟩ => ?_)
  rw [evalPart_none]
  refine wpAny_pure ?_
  have I4 : Inv X pins σ H3 { s3 with heap := s3.heap.push { cls := .type "slice", data := .fields #[vl, vu, .none] } } := I3.kept (t' := s3.toks) fun b ob q => Heap.get?_push_of_some _ q
  obtain ⟨T, id, hT, ht, hg⟩ := hr pins { s3 with heap := s3.heap.push { cls := .type "slice", data := .fields #[vl, vu, .none] } } σ H3 x v vl vu l u s3.heap.objs.size Q I4 r1 (Heap.IsSliceOf.new ..) pl pu q3
  show wpAny (model X.prog X.w) X.A (subscriptTail e (.Slice lo hi none p2) v (.ref s3.heap.objs.size)) (EP X pins σ Q) X.xe { s3 with heap := s3.heap.push { cls := .type "slice", data := .fields #[vl, vu, .none] } }
  exact tail_any (ops := [.ref s3.heap.objs.size, v]) ht hT hg (by with_unfolding_all rfl)
noncomputable def cutV (xs : List V) (lo hi : Option Int) : List V := (xs.drop (HT.sIx xs.length 0 lo)).take (HT.sIx xs.length xs.length hi - HT.sIx xs.length 0 lo)
theorem cutV_length (xs : List V) (lo hi : Option Int) : (cutV xs lo hi).length ≤ xs.length := by
  unfold cutV
  rw [List.length_take, List.length_drop]
  omega
noncomputable def rSlT (K : PySem.W.Frag) : V → Option Int → Option Int → Hp → VK → Prop := fun x lo hi H Q => ∃ a xs, x = .ref a ∧ SqT K H a xs ∧
  ¬ (HT.sIx xs.length 0 lo = 0 ∧ HT.sIx xs.length xs.length hi = xs.length) ∧ ∀ p, H p = none → Q (.ref p) (upd H p (.tup (cutV xs lo hi)))
noncomputable def rLtT (K : PySem.W.Frag) : R2 := fun x y H Q => ∃ a b ns ms, x = .ref a ∧ y = .ref b ∧ SqT K H a (ns.map V.int) ∧ SqT K H b (ms.map V.int) ∧ Q (.bl (HT.lexLt ns ms)) H
noncomputable def rCatT (K : PySem.W.Frag) : R2 := fun x y H Q => ∃ a b xs ys, x = .ref a ∧ y = .ref b ∧ SqT K H a xs ∧ SqT K H b ys ∧ xs ≠ [] ∧ xs.length + ys.length ≤ sizeLine ∧
  (ys = [] → Q (.ref a) H) ∧ (ys ≠ [] → ∀ p, H p = none → Q (.ref p) (upd H p (.tup (xs ++ ys))))
end
end L2
namespace L2
open PySem PySem.Spec PyProof.Rows
noncomputable def ixN (n : Nat) (i : Int) : Option Nat := if 0 ≤ i then (if i < n then some i.toNat else none) else if -(n : Int) ≤ i then some (i + n).toNat else none
noncomputable def atI {α : Type} (xs : List α) (i : Int) : Option α := (ixN xs.length i).bind fun j => xs[j]?
theorem ixN_seq {n : Nat} {i : Int} {j : Nat} (h : ixN n i = some j) : seqIndex? i n = some j ∧ j < n ∧ -(n : Int) ≤ i ∧ i < n := by
  unfold ixN at h
  by_cases h0 : 0 ≤ i
  · rw [if_pos h0] at h
    by_cases h1 : i < n
    · rw [if_pos h1] at h
      have e : i.toNat = j := Option.some.inj h
      exact ⟨by rw [seqIndex_of h0 h1, e], by ((try clear h); omega), by ((try clear e h h1); omega), h1⟩
    · rw [if_neg h1] at h; cases h
  · rw [if_neg h0] at h
    by_cases h1 : -(n : Int) ≤ i
    · rw [if_pos h1] at h
      have e : (i + n).toNat = j := Option.some.inj h
      exact ⟨by rw [seqIndex_neg (by ((try clear e h h1); omega)) h1, e], by ((try clear h); omega), h1, by ((try clear e h); omega)⟩
    · rw [if_neg h1] at h; cases h
theorem atI_get {α : Type} {xs : List α} {i : Int} {v : α} (h : atI xs i = some v) : ∃ j, seqIndex? i xs.length = some j ∧ xs[j]? = some v ∧ j < xs.length ∧ -(xs.length : Int) ≤ i ∧ i < xs.length := by
  unfold atI at h
  cases e : ixN xs.length i with
  | none => rw [e] at h; cases h
  | some j =>
    rw [e] at h
    obtain ⟨h1, h2, h3, h4⟩ := ixN_seq e
    exact ⟨j, h1, h, h2, h3, h4⟩
theorem atI_nat {α : Type} {xs : List α} {j : Nat} {v : α} (h : xs[j]? = some v) : atI xs (j : Int) = some v := by
  have hj : j < xs.length := (List.getElem?_eq_some_iff.mp h).1
  have e : ixN xs.length (j : Int) = some j := by
    unfold ixN
    rw [if_pos (by ((try clear h hj); omega)), if_pos (by ((try clear h); omega))]; simp
  unfold atI; rw [e]; exact h
noncomputable def PlainIx (b : Expr) : Prop := ∀ o i, subscripted b false o i = operate [o, i] (getItem o i)
noncomputable def IxR (X : Cx) (r : R2) : Prop :=
  ∀ (value slice : Expr) (pins : List (Addr × Obj)) (s : Shared) (σ : St) (H : Hp) (x y : V) (v u : Value) (Q : VK), Inv X pins σ H s → RelV x v → RelV y u → r x y H Q →
    subscripted slice false v u = operate [v, u] (getItem v u) → wpAny (model X.prog X.w) X.A (subscriptTail value slice v u) (EP X pins σ Q) X.xe s
noncomputable def MtR (X : Cx) (id : String) (r : V → List V → Hp → VK → Prop) : Prop :=
  ∀ (pins : List (Addr × Obj)) (s : Shared) (σ : St) (H : Hp) (x : V) (xs : List V) (v : Value) (us : List Value) (Q : VK), Inv X pins σ H s → RelV x v → Vals xs us → r x xs H Q →
    wpAny (model X.prog X.w) X.A (call (.builtin id) (v :: us)) (EP X pins σ Q) X.xe s
section
variable {X : Cx} {a b : Expr} {ta tb : TE} {pos : Pos}
theorem pe_ix {r : R2} (hr : IxR X r) (ha : PE X a ta) (hb : PE X b tb) (hs : PlainIx b) : PE X (.Subscript a b pos) (tOp r ta tb) := by
  intro pins s σ H Q I h
  exact Subscript_ (binT ha hb I h fun v u s2 x y H2 I2 rx ry q => hr a b pins s2 σ H2 x y v u Q I2 rx ry q (hs _ _))
noncomputable def rIxL (K : PySem.W.Frag) : R2 := fun x y H Q => ∃ p xs i v, x = .ref p ∧ y = .int i ∧ SqL K H p xs ∧ atI xs i = some v ∧ Q v H
noncomputable def rIxT (K : PySem.W.Frag) : R2 := fun x y H Q => ∃ p xs i v, x = .ref p ∧ y = .int i ∧ SqT K H p xs ∧ atI xs i = some v ∧ Q v H
noncomputable def rIxS : R2 := fun x y H Q => ∃ z i c, x = .str z ∧ y = .int i ∧ z.length ≤ sizeLine ∧ atI z.cps.toList i = some c ∧ Q (.str ⟨#[c]⟩) H
theorem ix_list : IxR X (rIxL X.K) := by
  intro value slice pins s σ H x y v u Q I rx ry h hs
  obtain ⟨p, xs, i, z, rfl, rfl, hq, he, q⟩ := h
  cases rx
  obtain ⟨t, rfl⟩ := ry
  obtain ⟨its, r, pl, hz⟩ := I.list hq
  obtain ⟨j, h1, h2, h3, h4, h5⟩ := atI_get he
  obtain ⟨w, ew, rw'⟩ := r.get h2
  have hl := r.length
  have hn := line63
  have fin : EP X pins σ Q w s := ⟨z, H, I, rw', q⟩
  by_cases h0 : 0 ≤ i
  · have hj : i.toNat = j := by
      rw [seqIndex_of h0 h5] at h1
      exact Option.some.inj h1
    exact item_listR pl.isList h0 (by ((try clear ew h0 h1 h2 h3 h4 he hj hs); omega)) (by rw [hj]; simpa using ew) fin hs
  · have hj : (i + (its.toArray.size : Int)).toNat = j := by
      rw [seqIndex_neg (by ((try clear ew h1 h2 h3 h4 h5 he hl hn hs hz); omega)) h4] at h1
      rw [List.size_toArray, ← hl]
      exact Option.some.inj h1
    exact subscriptTail_builtinR (x := w) pl.isList.typeIs slot_list_getitem.lookup
      (wpAny_getItem_list_neg (Q := fun r s' => r = w ∧ EP X pins σ Q r s') pl.isList (by ((try clear ew h1 h2 h3 h4 h5 he hj hl hn hs hz); omega)) (by rw [List.size_toArray] <;> ((try clear ew h0 h1 h2 h3 h5 he hj hn hs hz); omega)) (by ((try clear ew h0 h1 h2 h3 h5 he hj hs); omega)) (by rw [hj]; simpa using ew) ⟨rfl, fin⟩) hs
noncomputable def rIx (K : PySem.W.Frag) : R2 := fun x y H Q => rIxL K x y H Q ∨ rIxT K x y H Q ∨ rIxS x y H Q
theorem mapSeq_set (its : List Value) (n j : Nat) (u : Value) : Obj.mapSeq (·.setIfInBounds j u) { cls := .type "list", data := .seq its.toArray n } = { cls := .type "list", data := .seq (its.set j u).toArray n } := by
  simp [Obj.mapSeq]
theorem Inv.lst {pins : List (Addr × Obj)} {σ : St} {H : Hp} {s : Shared} {p : Addr} {xs : List V} (I : Inv X pins σ H s) (h : H p = some (.lst xs)) :
    ∃ (its : List Value) (n : Nat), Vals xs its ∧ s.heap.get? p = some { cls := .type "list", data := .seq its.toArray n } ∧ xs.length ≤ sizeLine := by
  obtain ⟨z, its, n, r, e⟩ := I.hok p _ h
  exact ⟨its, n, r, e, z⟩
theorem Inv.lstUpd {pins : List (Addr × Obj)} {σ : St} {H : Hp} {s : Shared} {p : Addr} {xs ys : List V} {its its' : List Value} {n n' : Nat} {f : Obj → Obj} (I : Inv X pins σ H s) (h : H p = some (.lst xs))
    (ho : s.heap.get? p = some { cls := .type "list", data := .seq its.toArray n }) (hf : f { cls := .type "list", data := .seq its.toArray n } = { cls := .type "list", data := .seq its'.toArray n' }) (r : Vals ys its') (hz : ys.length ≤ sizeLine) (t : Nat) :
    Inv X pins σ (upd H p (.lst ys)) { s with heap := s.heap.update p f, toks := t } := by
  have e : (s.heap.update p f).get? p = some { cls := .type "list", data := .seq its'.toArray n' } := by
    rw [Heap.get?_update_self f ho (by rw [hf] <;> rfl), hf]
  refine I.write (x := p) (e := p) (by rw [h]; trivial) (.inl rfl) (fun b u hb q => (Heap.get?_update_other _ _ (Ne.symm hb)).trans q) ⟨_, e⟩ ?_
  exact ⟨hz, its', n', r, e⟩
noncomputable def rSetL : V → V → V → Hp → (Hp → Prop) → Prop := fun o i v H Q => ∃ p xs k j, o = .ref p ∧ i = .int k ∧ H p = some (.lst xs) ∧ ixN xs.length k = some j ∧ Q (upd H p (.lst (xs.set j v)))
theorem set_list : PSet X rSetL := by
  intro pins s σ H o i v ov iv u Q I ro ri rv h
  obtain ⟨p, xs, k, j, rfl, rfl, hp, hj, q⟩ := h
  cases ro
  obtain ⟨t, rfl⟩ := ri
  obtain ⟨its, n, r, ho, hz⟩ := I.lst hp
  obtain ⟨h1, h2, h3, h4⟩ := ixN_seq hj
  have hl := r.length
  have hn := line63
  have I' : Inv X pins σ (upd H p (.lst (xs.set j v))) { s with heap := s.heap.update p (Obj.mapSeq (·.setIfInBounds j u)) } :=
    I.lstUpd hp ho (mapSeq_set its n j u) (r.set rv j) (by rw [List.length_set]; exact hz) s.toks
  by_cases h0 : 0 ≤ k
  · have hk : k.toNat = j := by
      rw [seqIndex_of h0 h4] at h1
      exact Option.some.inj h1
    exact PySem.W.ki_setAt ho h0 (by ((try clear h0 h1 h2 h3 hj hk ho hp); omega)) (by rw [List.size_toArray, ← hl]; exact h4) (by rw [hk]; exact ⟨_, I', q⟩)
  · have hk : (k + (its.toArray.size : Int)).toNat = j := by
      rw [seqIndex_neg (by ((try clear h1 h2 h3 h4 hj hl hn ho hp hz); omega)) h3] at h1
      rw [List.size_toArray, ← hl]
      exact Option.some.inj h1
    exact PySem.W.ki_setBack ho (by ((try clear h1 h2 h3 h4 hj hk hl hn ho hp hz); omega)) (by rw [List.size_toArray, ← hl]; exact h3) (by ((try clear h0 h1 h2 h4 hj hk ho hp); omega)) (by rw [hk]; exact ⟨_, I', q⟩)
theorem slice_bounds (lo hi : Option Int) (n : Nat) : (sliceBounds lo hi none n).1 = ((HT.sIx n 0 lo : Nat) : Int) ∧ (sliceBounds lo hi none n).2.1 = ((HT.sIx n n hi : Nat) : Int) ∧ (sliceBounds lo hi none n).2.2 = 1 := by
  refine ⟨?_, ?_, rfl⟩
  · cases lo with
    | none => simp [sliceBounds, HT.sIx]
    | some i =>
      simp only [sliceBounds, HT.sIx, Option.getD_none, show (1 : Int) > 0 by decide, if_true]
      by_cases h : i < 0
      · simp only [h, if_true] <;> omega
      · simp only [h, if_false] <;> omega
  · cases hi with
    | none => simp [sliceBounds, HT.sIx]
    | some i =>
      simp only [sliceBounds, HT.sIx, Option.getD_none, show (1 : Int) > 0 by decide, if_true]
      by_cases h : i < 0
      · simp only [h, if_true] <;> omega
      · simp only [h, if_false] <;> omega
theorem slicePick_cut (its : List Value) (lo hi : Option Int) : slicePick its.toArray lo hi none = ((its.drop (HT.sIx its.length 0 lo)).take (HT.sIx its.length its.length hi - HT.sIx its.length 0 lo)).toArray := by
  obtain ⟨h1, h2, h3⟩ := slice_bounds lo hi its.toArray.size
  unfold slicePick
  rw [h1, h2, h3]
  simp only [sliceRange_one, pick_run, List.size_toArray] <;> rfl
noncomputable def rSlL (K : PySem.W.Frag) : V → Option Int → Option Int → Hp → VK → Prop := fun x lo hi H Q => ∃ a xs, x = .ref a ∧ SqL K H a xs ∧ ∀ p, H p = none → Q (.ref p) (upd H p (.lst (cutV xs lo hi)))
theorem sl_list : SlR X (rSlL X.K) := by
  intro pins s σ H x v vl vu lo hi sl Q I rx hs pl pu h
  obtain ⟨a, xs, rfl, hx, q⟩ := h
  cases rx
  obtain ⟨its, r, ht, hz⟩ := I.list hx
  have hlen := r.length
  refine ⟨"list", _, slot_list_getitem.lookup, ht.isList.typeIs, ?_⟩
  refine wpAny_getItem_list_slice ht.isList hs pl pu .none (by simp) ?_ (by rw [List.size_toArray] <;> omega)
  rw [slicePick_cut, ← hlen]
  refine ⟨.ref s.heap.objs.size, _, I.laid (t' := s.toks) (o := .lst (cutV xs lo hi)) (fun b ob q => Heap.get?_push_of_some _ q) (Nat.le_refl _) ?_, rfl, q _ (I.hok.fresh (Nat.le_refl _))⟩
  exact ⟨Nat.le_trans (cutV_length xs lo hi) hz, _, 0, (r.drop (HT.sIx xs.length 0 lo)).take (HT.sIx xs.length xs.length hi - HT.sIx xs.length 0 lo), Heap.get?_push_size _ rfl⟩
noncomputable def flatV : V → Bool
  | .non => true
  | .bl _ => true
  | .int _ => true
  | .str _ => true
  | _ => false
noncomputable def eqV : V → V → Bool
  | .non, .non => true
  | .bl a, .bl b => a == b
  | .bl a, .int b => (if a then 1 else 0) == b
  | .int a, .bl b => a == (if b then 1 else 0)
  | .int a, .int b => a == b
  | .str a, .str b => a == b
  | _, _ => false
noncomputable def eqU (x : V) (u : Value) : Bool := match u with
  | .none => eqV .non x
  | .bool b => eqV (.bl b) x
  | .int i _ => eqV (.int i) x
  | .str z _ => eqV (.str z) x
  | _ => false
noncomputable def inV (x : V) (xs : List V) : Bool := xs.any fun y => eqV y x
noncomputable def rIn (K : PySem.W.Frag) (neg : Bool) : R2 := fun x y H Q => ∃ p xs, y = .ref p ∧ (SqL K H p xs ∨ SqT K H p xs) ∧ flatV x = true ∧ xs.all flatV = true ∧ Q (.bl (if neg then !inV x xs else inV x xs)) H
theorem call_len_seq : CallR X (.builtin "len") (fun xs H Q => ∃ p ys, xs = [.ref p] ∧ (SqL X.K H p ys ∨ SqT X.K H p ys) ∧ Q (.int ys.length) H) := by
  intro pins s σ H xs us Q I r h
  obtain ⟨p, ys, rfl, hq, q⟩ := h
  obtain ⟨u, rfl, rx⟩ := vals1 r
  cases rx
  have hn := line63
  rcases hq with hq | hq
  · obtain ⟨its, r', pl, hz⟩ := I.list hq
    have hlen := r'.length
    exact Calls.call_len_list pl.isList (by simp only [List.size_toArray] <;> omega) ⟨.int ys.length, H, I.tok _, ⟨s.toks + 1, by rw [List.size_toArray, hlen]⟩, q⟩
  · obtain ⟨its, r', pl, hz⟩ := I.tuple hq
    have hlen := r'.length
    exact len_tuple pl (by simp only [List.size_toArray] <;> omega) ⟨.int ys.length, H, I.tok _, ⟨s.toks + 1, by rw [List.size_toArray, hlen]⟩, q⟩
theorem call_list_of : CallR X (.type "list") (fun xs H Q => ∃ p ys, xs = [.ref p] ∧ (SqL X.K H p ys ∨ SqT X.K H p ys) ∧ ∀ l, H l = none → Q (.ref l) (upd H l (.lst ys))) := by
  intro pins s σ H xs us Q I r h
  obtain ⟨p, ys, rfl, hq, q⟩ := h
  obtain ⟨u, rfl, rx⟩ := vals1 r
  cases rx
  have fin : ∀ (its : List Value), Vals ys its → ys.length ≤ sizeLine → ∀ (h' : Heap) (c' : Nat), (∀ b o', s.heap.get? b = some o' → h'.get? b = some o') →
      h'.get? s.heap.objs.size = some { cls := .type "list", dict := none, data := .seq its.toArray c', slots := #[] } → EP X pins σ Q (.ref s.heap.objs.size) { s with heap := h' } := fun its r' hz h' c' kp e =>
    ⟨.ref s.heap.objs.size, _, I.laid (t' := s.toks) kp (Nat.le_refl _) (show ObjOk X.prog X.w _ h' _ (.lst ys) from ⟨hz, its, c', r', e⟩), rfl, q _ (I.hok.fresh (Nat.le_refl _))⟩
  rcases hq with hq | hq
  · obtain ⟨its, r', pl, hz⟩ := I.list hq
    have hlen := r'.length
    obtain ⟨o, ho, hc, n, hd⟩ := pl.isList
    exact call_list_seq p (.inl rfl) ho hc hd (fun h' c' kp e => fin its r' hz h' c' kp e) (by simp only [List.size_toArray] <;> ((try clear hc hd ho); omega))
  · obtain ⟨its, r', pl, hz⟩ := I.tuple hq
    have hlen := r'.length
    obtain ⟨o, ho, hc, n, hd⟩ := pl
    exact call_list_seq p (.inr rfl) ho hc hd (fun h' c' kp e => fin its r' hz h' c' kp e) (by simp only [List.size_toArray] <;> ((try clear hc hd ho); omega))
noncomputable def tyV (K : PySem.W.Frag) (T : String) (x : V) (H : Hp) : Prop := match x with
  | .str _ => T = "str"
  | .int _ => T = "int"
  | .ref p => (T = "list" ∧ ∃ xs, SqL K H p xs) ∨ (T = "tuple" ∧ ∃ o, K.lookup p = some o ∧ o.cls = .type "tuple" ∧ o.dict = none) ∨
      (T = "dict" ∧ ((∃ kvs, H p = some (.dK kvs)) ∨ ∃ kvs, H p = some (.dT kvs))) ∨ (T = "set" ∧ ∃ S n, H p = some (.set S n))
  | _ => False
theorem tyV_is {pins : List (Addr × Obj)} {σ : St} {H : Hp} {s : Shared} {T : String} {x : V} {v : Value} (I : Inv X pins σ H s) (r : RelV x v) (ty : tyV X.K T x H) :
    s.TypeIs v T ∧ ∀ a, v = .ref a → ∃ ob, s.heap.get? a = some ob ∧ ob.dict = none := by
  cases x with
  | str z =>
    obtain ⟨t, rfl⟩ := r
    cases (show T = "str" from ty)
    exact ⟨typeIs_str s z t, fun _ e => nomatch e⟩
  | int i =>
    obtain ⟨t, rfl⟩ := r
    cases (show T = "int" from ty)
    exact ⟨typeIs_int s i t, fun _ e => nomatch e⟩
  | ref p =>
    cases r
    rcases ty with ⟨rfl, xs, hq⟩ | ⟨rfl, o, hk, hc, hd⟩ | ⟨rfl, hk⟩ | ⟨rfl, S, n, hk⟩
    · obtain ⟨its, _, pl, _⟩ := I.list hq
      refine ⟨pl.isList.typeIs, fun a e => ?_⟩
      cases e
      obtain ⟨o, n, e, c, hd, _⟩ := pl
      exact ⟨o, e, hd⟩
    · refine ⟨⟨o, I.kIn p o hk, hc⟩, fun a e => ?_⟩
      cases e
      exact ⟨o, I.kIn _ o hk, hd⟩
    · have z : ∃ o, s.heap.get? p = some o ∧ o.ExactDict := by
        rcases hk with ⟨kvs, hk⟩ | ⟨kvs, hk⟩
        · obtain ⟨_, _, _, _, o, _, _, e, ex, _⟩ := I.hok p _ hk
          exact ⟨o, e, ex⟩
        · obtain ⟨_, _, _, _, o, _, _, e, ex, _⟩ := I.hok p _ hk
          exact ⟨o, e, ex⟩
      obtain ⟨o, e, ex⟩ := z
      refine ⟨⟨o, e, ex.1⟩, fun a e2 => ?_⟩
      cases e2
      exact ⟨o, e, ex.2.1⟩
    · obtain ⟨o, _, _, _, e, ex, _⟩ := I.hok p _ hk
      refine ⟨⟨o, e, ex.1⟩, fun a e2 => ?_⟩
      cases e2
      exact ⟨o, e, ex.2.1⟩
  | _ => exact False.elim ty
noncomputable def tBM0 (K : PySem.W.Frag) (T : String) (r : V → List V → Hp → VK → Prop) (to : TE) : TE := fun σ H Q => to σ H fun x H1 => tyV K T x H1 ∧ r x [] H1 Q
noncomputable def tBM (K : PySem.W.Frag) (T : String) (r : V → List V → Hp → VK → Prop) (to : TE) (t : TA) : TE := fun σ H Q => to σ H fun x H1 => tyV K T x H1 ∧ t σ H1 fun xs H2 => r x xs H2 Q
variable {o e : Expr} {es : List Expr} {to : TE} {t : TA} {name : Str} {apos cpos : Pos} {T id : String} {r : V → List V → Hp → VK → Prop}
theorem pe_bm (pa : PlainAttrs T) (slot : Slot T name id) (hty : typeOf (.builtin id) = pure (.type "method_descriptor")) (hm : MtR X id r) (ho : PE X o to) (ha : PA X (e :: es) t)
    (hbase : attributeBase o name X.env (eval o X.env) = eval o X.env := by rfl)
    (hfew : ((backTo cpos (starEach (e :: es) X.env)).all (fun x => !x.1) && (backToKw cpos (keywordEach [] X.env)).all (fun x => x.1.isSome)
      && decide ((e :: es).length + ([] : List Keyword).length + (if ([] : List Keyword).isEmpty then 0 else 1) < 30)) = true := by rfl)
    (hline : (apos.endLine == cpos.line) = true := by rfl) (hs : starEach (e :: es) X.env = (false, eval e X.env) :: starEach es X.env := by rfl) (hplain : (backTo cpos (starEach es X.env)).any (·.1) = false := by rfl) :
    PE X (.Call (.Attribute o name apos) (e :: es) [] cpos) (tBM X.K T r to t) := by
  intro pins s σ H Q I h
  refine wpAny_Call_method_late hbase hfew hline rfl (thn (ho pins s σ H _ I h) fun v s1 ⟨x, H1, I1, r1, ty, q1⟩ => ?_)
  obtain ⟨h1, h2⟩ := tyV_is I1 r1 ty
  refine ⟨T, id, pa, slot, hty, h1, h2, ?_⟩
  have hA := ha cpos pins s1 σ H1 _ I1 q1
  rw [hs] at hA ⊢
  refine Calls.callWith_builtin (by show (false || (backTo cpos (starEach es X.env)).any (·.1)) = false; rw [hplain] <;> rfl) (Calls.evalArgs_plain ?_)
  exact thn hA fun us s2 ⟨vs, H2, I2, r2, q2⟩ => hm pins s2 σ H2 x vs v us Q I2 r1 r2 q2
/- xs.append(e), list.index on a module's tuple .. are MtR facts of 06m -/
end
end L2
namespace L2
open PySem PySem.Spec PyProof.Rows
noncomputable def MtM (X : Cx) (id : String) (r : V → List V → Hp → VK → Prop) : Prop :=
  ∀ (pins : List (Addr × Obj)) (s : Shared) (σ : St) (H : Hp) (x : V) (xs : List V) (v : Value) (us : List Value) (Q : VK), Inv X pins σ H s → RelV x v → Vals xs us → r x xs H Q →
    wpAny (model X.prog X.w) X.A (call (.builtin id) (v :: us)) (EP X pins σ Q) X.xe s
theorem Vals.one : ∀ {x : V} {us : List Value}, Vals [x] us → ∃ u, us = [u] ∧ RelV x u
  | _, _, .cons r .nil => ⟨_, rfl, r⟩
theorem Vals.rep {xs : List V} {us : List Value} (h : Vals xs us) : ∀ k : Nat, Vals (List.replicate k xs).flatten (List.replicate k us).flatten
  | 0 => .nil
  | k + 1 => by
    rw [List.replicate_succ, List.replicate_succ, List.flatten_cons, List.flatten_cons]
    exact Vals.append h (Vals.rep h k)
theorem foldl_rep (its : List Value) : ∀ (k : Nat) (acc : List Value),
    List.foldl (fun x1 x2 => x1 ++ x2) acc.toArray (List.replicate k its.toArray) = (acc ++ (List.replicate k its).flatten).toArray
  | 0, acc => by simp
  | k + 1, acc => by
    have e : acc.toArray ++ its.toArray = (acc ++ its).toArray := by simp
    have e2 : (acc ++ its) ++ (List.replicate k its).flatten = acc ++ (List.replicate (k + 1) its).flatten := by
      rw [List.replicate_succ, List.flatten_cons, List.append_assoc]
    rw [← e2, ← foldl_rep its k (acc ++ its), ← e, List.replicate_succ, List.foldl_cons]
section
variable {X : Cx} {pins : List (Addr × Obj)} {σ : St} {H : Hp} {s : Shared} {l b : Addr} {xs ys zs : List V}
theorem Inv.lset {its its' : List Value} {n : Nat} {f : Array Value → Array Value} {t' : Nat} (I : Inv X pins σ H s) (hH : H l = some (.lst xs))
    (e : s.heap.get? l = some { cls := .type "list", data := .seq its.toArray n }) (hf : f its.toArray = its'.toArray) (hv : Vals ys its') (hz : ys.length ≤ sizeLine) :
    Inv X pins σ (upd H l (.lst ys)) { s with heap := s.heap.update l (Obj.mapSeq f), toks := t' } := by
  have q := PySem.IsL.update e f
  rw [hf] at q
  refine I.write (x := l) (e := l) (by rw [hH]; exact trivial) (.inl rfl) (fun b' u hb hu => (Heap.get?_update_other s.heap (Obj.mapSeq f) (Ne.symm hb)).trans hu) ⟨_, q⟩ ?_
  exact ⟨hz, its', _, hv, q⟩
theorem Inv.lnew {its : List Value} {t' : Nat} (I : Inv X pins σ H s) (hv : Vals ys its) (hz : ys.length ≤ sizeLine) :
    Inv X pins σ (upd H s.heap.objs.size (.lst ys)) { s with heap := s.heap.push { cls := .type "list", data := .seq its.toArray }, toks := t' } :=
  I.laid (fun _ _ q => Heap.get?_push_of_some _ q) (Nat.le_refl _) ⟨hz, its, 0, hv, Heap.get?_push_size _ rfl⟩
theorem Inv.fresh (I : Inv X pins σ H s) : H s.heap.objs.size = none := I.hok.fresh (Nat.le_refl _)
theorem Inv.lstM (I : Inv X pins σ H s) (hH : H l = some (.lst xs)) : xs.length ≤ sizeLine ∧ ∃ (its : List Value) (n : Nat), Vals xs its ∧ xs.length = its.length ∧ s.heap.get? l = some { cls := .type "list", data := .seq its.toArray n } := by
  obtain ⟨z, its, n, r, e⟩ := I.hok l _ hH
  exact ⟨z, its, n, r, r.length, e⟩
theorem notLongL {n : Nat} (h : n ≤ sizeLine) : Builtin.List.listTooLong n = false := by
  unfold Builtin.List.listTooLong
  exact decide_eq_false (by omega)
end
section
variable {X : Cx}
noncomputable def rAppend : V → List V → Hp → VK → Prop := fun x vs H Q => ∃ l xs y, x = .ref l ∧ vs = [y] ∧ H l = some (.lst xs) ∧ xs.length < sizeLine ∧ Q .non (upd H l (.lst (xs ++ [y])))
theorem mt_append : MtM X "list.append" rAppend := by
  intro pins s σ H x vs v us Q I rx rv h
  obtain ⟨l, xs, y, rfl, rfl, hH, hz, q⟩ := h
  cases rx
  obtain ⟨u, rfl, ru⟩ := rv.one
  obtain ⟨z, its, n, r, hl, e⟩ := I.lstM hH
  refine call_meets F.slot_list_append ⟨_, e, rfl⟩ F.entry_list_append (F.args_list_append_2 _ _) (PySem.list_append l its.toArray n u (by rw [List.size_toArray]; ((try clear e hH z); omega))) ⟨e, ?_⟩
  refine ⟨.non, _, I.lset (its' := its ++ [u]) hH e (by simp) (r.append (.cons ru .nil)) ?_, rfl, q⟩
  rw [List.length_append, List.length_singleton]
  ((try clear e hH z); omega)
noncomputable def rExtend : V → List V → Hp → VK → Prop := fun x vs H Q => ∃ l b xs zs, x = .ref l ∧ vs = [.ref b] ∧ H l = some (.lst xs) ∧ H b = some (.lst zs) ∧ xs.length + zs.length ≤ sizeLine ∧ Q .non (upd H l (.lst (xs ++ zs)))
theorem mt_extend : MtM X "list.extend" rExtend := by
  intro pins s σ H x vs v us Q I rx rv h
  obtain ⟨l, b, xs, zs, rfl, rfl, hH, hB, hz, q⟩ := h
  cases rx
  obtain ⟨u, rfl, ru⟩ := rv.one
  cases ru
  obtain ⟨z, its, n, r, hl, e⟩ := I.lstM hH
  obtain ⟨z2, its2, n2, r2, hl2, e2⟩ := I.lstM hB
  have hsz : its.toArray.size + its2.toArray.size ≤ sizeLine := by rw [List.size_toArray, List.size_toArray]; ((try clear e e2 hB hH z z2); omega)
  have hlong : ¬ (!its.toArray.isEmpty && Builtin.List.listTooLong (its.toArray.size + its2.toArray.size)) = true := by
    rw [notLongL hsz, Bool.and_false]
    exact Bool.false_ne_true
  refine call_meets F.slot_list_extend ⟨_, e, rfl⟩ F.entry_list_extend (F.args_list_extend_2 _ _)
    (AutoSeq1.list_extend_list_list_0 l its.toArray n b its2.toArray n2 hlong (by rw [List.size_toArray]; ((try clear e e2 hB hH hl2 hlong hsz hz z2); omega)) (by ((try clear e e2 hB hH hl hl2 hlong hz z z2); omega))) ⟨e, e2, ?_⟩
  refine ⟨.non, _, I.lset (its' := its ++ its2) hH e (by simp) (r.append r2) ?_, rfl, q⟩
  rw [List.length_append]
  ((try clear e e2 hB hH hl hl2 hlong hsz z z2); omega)
noncomputable def rPop : V → List V → Hp → VK → Prop := fun x vs H Q => ∃ l xs y, x = .ref l ∧ vs = [] ∧ H l = some (.lst xs) ∧ xs[xs.length - 1]? = some y ∧ Q y (upd H l (.lst xs.dropLast))
noncomputable def rPopAt : V → List V → Hp → VK → Prop := fun x vs H Q => ∃ l xs i k y, x = .ref l ∧ vs = [.int i] ∧ H l = some (.lst xs) ∧ -(2 ^ 63) ≤ i ∧ i < 2 ^ 63 ∧ seqIndex? i xs.length = some k ∧ xs[k]? = some y ∧ Q y (upd H l (.lst (xs.eraseIdx k)))
noncomputable def rReverse : V → List V → Hp → VK → Prop := fun x vs H Q => ∃ l xs, x = .ref l ∧ vs = [] ∧ H l = some (.lst xs) ∧ Q .non (upd H l (.lst xs.reverse))
noncomputable def rClear : V → List V → Hp → VK → Prop := fun x vs H Q => ∃ l xs, x = .ref l ∧ vs = [] ∧ H l = some (.lst xs) ∧ Q .non (upd H l (.lst []))
noncomputable def rCat : R2 := fun x y H Q => ∃ l b xs zs, x = .ref l ∧ y = .ref b ∧ H l = some (.lst xs) ∧ H b = some (.lst zs) ∧ xs.length + zs.length ≤ sizeLine ∧ ∀ p, H p = none → Q (.ref p) (upd H p (.lst (xs ++ zs)))
theorem op_cat : OpR X (binaryOp .Add) rCat := by
  intro pins s σ H x y v u Q I rx ry h
  obtain ⟨l, b, xs, zs, rfl, rfl, hH, hB, hz, q⟩ := h
  cases rx
  cases ry
  obtain ⟨z, its, n, r, hl, e⟩ := I.lstM hH
  obtain ⟨z2, its2, n2, r2, hl2, e2⟩ := I.lstM hB
  refine PySem.P.add_list e e2 ?_ (by rw [List.size_toArray, List.size_toArray]; ((try clear e e2 hB hH z z2); omega))
  have ea : its.toArray ++ its2.toArray = (its ++ its2).toArray := by simp
  rw [ea]
  exact ⟨.ref _, _, I.lnew (t' := s.toks) (r.append r2) (by rw [List.length_append]; ((try clear e e2 ea hB hH hl hl2 z z2); omega)), rfl, q _ I.fresh⟩
noncomputable def rRep : R2 := fun x y H Q => ∃ l k xs, x = .ref l ∧ y = .int k ∧ H l = some (.lst xs) ∧ -(2 ^ 63) ≤ k ∧ k < 2 ^ 63 ∧ xs.length * k.toNat ≤ sizeLine ∧
  ∀ p, H p = none → Q (.ref p) (upd H p (.lst (List.replicate k.toNat xs).flatten))
theorem len_rep {α : Type} (xs : List α) (k : Nat) : (List.replicate k xs).flatten.length = k * xs.length := by
  induction k with
  | zero => simp
  | succ k ih => rw [List.replicate_succ, List.flatten_cons, List.length_append, ih, Nat.succ_mul, Nat.add_comm]
theorem op_rep : OpR X (binaryOp .Mult) rRep := by
  intro pins s σ H x y v u Q I rx ry h
  obtain ⟨l, k, xs, rfl, rfl, hH, h1, h2, hz, q⟩ := h
  cases rx
  obtain ⟨t, rfl⟩ := ry
  obtain ⟨z, its, n, r, hl, e⟩ := I.lstM hH
  have hlen : its.toArray.size * k.toNat ≤ sizeLine := by rw [List.size_toArray, ← hl]; exact hz
  have hcap : ¬ its.toArray.size * k.toNat > (2 ^ 63 - 1) / 8 := by
    have : (sizeLine : Nat) ≤ (2 ^ 63 - 1) / 8 := by decide
    ((try clear e h1 h2 hH hl hz z); omega)
  have hfit : ¬ (!Builtin.List.listFitsIndex k) = true := by
    rw [fitsIndex_both h1 h2]
    exact Bool.false_ne_true
  have hlong : ¬ Builtin.List.listTooLong (its.toArray.size * k.toNat) = true := by
    rw [notLongL hlen]
    exact Bool.false_ne_true
  have hnew : List.foldl (fun x1 x2 => x1 ++ x2) #[] (List.replicate (if its.toArray.isEmpty = true then 0 else k.toNat) its.toArray) = (List.replicate k.toNat its).flatten.toArray := by
    have f0 : ∀ m : Nat, List.foldl (fun x1 x2 => x1 ++ x2) #[] (List.replicate m its.toArray) = (List.replicate m its).flatten.toArray := fun m => by
      have := foldl_rep its m []
      rw [List.nil_append] at this
      exact this
    rw [f0]
    cases its with
    | nil => simp
    | cons a r' => rw [if_neg (by simp)]
  refine wpAny_binaryOp_repeat_ref (T := "list") (U := "int") (by decide) ⟨_, e, rfl⟩ (fun s' => typeIs_int s' k t) noFill_list_mul F.fills_int_mul F.slot_int_rmul repeat_list F.slot_int_index.lookup
    (call_meets F.slot_int_rmul (typeIs_int s k t) F.entry_int_rmul (F.args_int_rmul_2 _ _) (int___rmul___int_list k t l its.toArray n)
      ⟨e, rfl, ⟨_, e, rfl⟩, call_meets F.slot_list_mul ⟨_, e, rfl⟩ F.entry_list_mul (F.args_list_mul_2 _ _) (AutoListH.list___mul___list_int_3 l its.toArray n k t hfit hcap hlong) ⟨e, ?_⟩⟩)
  rw [hnew]
  exact ⟨.ref _, _, I.lnew (t' := s.toks) (r.rep k.toNat) (by rw [len_rep, Nat.mul_comm]; exact hz), rfl, q _ I.fresh⟩
end
section
variable {prog : Program} {w : World} {A : Around} {E : Value → Shared → Prop} {s : Shared}
set_option maxRecDepth 100000 in
end
section
variable {X : Cx}
end
end L2
namespace Att
open PySem PySem.W PySem.Calls PyProof.Rows
theorem ints_of_wellAll {P : Params} {h : Heap} : ∀ (ns : List Int) (vs : List Value), WellAll P h vs (ns.map WData.int) → IntsAre vs ns := by
  intro ns
  induction ns with
  | nil =>
    intro vs w
    rw [List.map_nil] at w
    cases w
    exact .nil
  | cons n ns ih =>
    intro vs w
    rw [List.map_cons] at w
    cases w with
    | cons a b =>
      cases a
      exact .cons _ _ (ih _ b)
theorem script_of {l : OpenLaw} {n : Nat} (hn : l.most = some n) {P : Params} {h : Heap} {args : List WData} {vals : List Value}
    (hpre : l.row.toRowW.claim.pre args = true) (hwl : WellAll P h vals args) :
    ∃ a vs ns, vals = [Value.ref a] ∧ args = [WData.list (ns.map WData.int)] ∧ h.get? a = some { cls := .type "list", data := .seq vs.toArray } ∧ IntsAre vs ns ∧ ns.length ≤ n := by
  have hsh : WShape.hasAll [] args [.list .int] = true := (pre_splitW hpre).1
  have hc : l.pre.holds [] { args := args } = true := (pre_splitW hpre).2
  obtain ⟨d, r, rfl, h1, h2⟩ := hasAllW_cons hsh
  obtain rfl := hasAllW_nil h2
  obtain ⟨xs, rfl, h3⟩ := hasW_list h1
  obtain ⟨ns, rfl⟩ := items_int h3
  have hlen : ns.length ≤ n := by
    unfold OpenLaw.pre at hc
    have h4 : (WTm.not (.lt (.lit (.int (n : Int))) (.len (.arg 0)))).holds [] { args := [.list (ns.map .int)] } = true := by
      have h4 := (holds_andW hc).1
      rw [hn] at h4
      exact h4
    have h5 := condW_of h4 (w_not (w_lt w_lit (w_len_list (w_arg rfl))))
    rw [List.length_map] at h5
    refine Nat.le_of_not_lt fun q => ?_
    have q' : (n : Int) < ((ns.length : Nat) : Int) := by ((try clear h1 h2 h3 h4 h5 hc hn hpre hsh); omega)
    first
      | (rw [decide_eq_true q'] at h5; exact absurd h5 (by decide))
      | (simp at h5; omega)
  cases hwl with
  | cons w1 w2 =>
    cases w2
    cases w1 with
    | list ho hall => exact ⟨_, _, ns, rfl, rfl, ho, ints_of_wellAll ns _ hall, hlen⟩
theorem post_true (l : OpenLaw) (args : List WData) : l.row.toRowW.claim.post args (.bool true) args = true :=
  postW_of (r := l.row.toRowW) (X := (true == true))
    (show WShape.has [] (.bool true) .bool = true by first | rfl | decide | simp [WShape.has, WShape.arms, WShape.armsAll])
    (show (WTm.eq .res (.lit (.bool true))).value [] { args := args, res := some (.bool true), after := args } = some (.bool (true == true)) from w_eq_bool (w_res rfl) w_lit) rfl
theorem attach_call {l : OpenLaw} {n : Nat} {q : Program} {loose : List Str} {XP : (Str → Option Value) → Heap → Prop} {YP : World → Heap → Prop} {d : DefRec}
    (hn : l.most = some n) (hdf : d.params.defaults = [])
    (call : ∀ (w : World) (s₀ s₁ : Shared) (mg mb : Str → Option Value) (fa : Addr) (o : Obj) (pm cd doc : Value) (a : Addr) (vs : List Value) (ns : List Int),
      Ground q loose [] XP w s₀ mg mb s₁.heap → YP w s₁.heap →
      s₁.heap.get? fa = some o → o.data = .func (docDef d.name d.params d.body d.scope pm cd doc) → s₁.heap.CodeRec cd d.name → mg d.name = some (.ref fa) →
      s₁.heap.get? a = some { cls := .type "list", data := .seq vs.toArray } → IntsAre vs ns → ns.length ≤ n → s₁.gens = #[] →
      codeAny (model l.prog w) callerA (.call (.ref fa) ⟨[.ref a], []⟩) (fun r s' => r = .ok (.ret (.bool true)) ∧ OldK s₁.heap s'.heap ∧ s'.os = s₁.os ∧ AllBare s'.gens) s₁) :
    WalkO q loose XP YP l.row.toRowW d [] (fun f vs => PySem.call f vs) := by
  intro w s₀ s₁ mg mb G Y fa o pm cd doc dV kV ho hd hcd hD hmg hg args vals as hpre hlay hrd hwl hlo
  obtain rfl : dV = .none := Dflts.none hD hdf
  obtain rfl : kV = .none := Dflts.noKw hD
  obtain ⟨a, vs, ns, rfl, rfl, hobj, hints, hlen⟩ := script_of hn hpre hwl
  refine enter_call (codeAny_mono (call w s₀ s₁ mg mb fa o pm cd doc a vs ns G Y ho (fd_plain hd) hcd hmg hobj hints hlen hg) fun r s' hq => ?_)
  obtain ⟨rfl, h2, h3, h4⟩ := hq
  exact ⟨.inl ⟨.bool true, .bool true, [], rfl, fun _ => rfl, .bool true, post_true l _, fun _ => ⟨List.Pairwise.nil, fun _ hm => (nomatch hm)⟩⟩, h2, h3, h4⟩
section
variable {prog : Program} {w : World} {A : Around} {E : Value → Shared → Prop} {s : Shared} {K : Frag}
noncomputable def noObjs (h : Heap) : Heap := { h with objs := #[] }
noncomputable def ledger (h : Heap) (L d : Addr) : List (Addr × Obj) := (List.range h.objs.size).filterMap fun a => if a = L ∨ a = d then none else (h.get? a).map fun o => (a, o)
end
end Att
namespace L2
open PySem PySem.Spec PyProof.Rows
theorem vals_ints : ∀ {vs : List Value} {ns : List Int}, IntsAre vs ns → Vals (ns.map V.int) vs
  | _, _, .nil => .nil
  | _, _, .cons n t h => .cons ⟨t, rfl⟩ (vals_ints h)
noncomputable def Only (H : Hp) : Prop := ∀ b, H b = none ∨ ∃ o xs, H b = some (.frz o (.lst xs))
theorem law_call {P : Program} {w : World} {K : PySem.W.Frag} {mg mb : Str → Option Value} {CX : CXT} {k : Nat} {fa a : Addr} {fd : FuncData} {x : Str} {sp : Sp} {s₁ : Shared} {vs : List Value} {ns : List Int}
    (KX : K.In s₁.heap) (hns : s₁.heap.Ns mainGlobals mg) (hb : s₁.heap.Ns builtinsNs mb) (hbb : ∀ x : Str, x ≠ "__name__" → mb x = bootBuiltins x) (hlim : s₁.heap.NoLimit) (hg : s₁.gens = #[])
    (ha : s₁.heap.get? a = some { cls := .type "list", data := .seq vs.toArray }) (hi : IntsAre vs ns) (hl : ns.length ≤ sizeLine) (hr : Room k callerA)
    (F : ∀ base : Heap, K.In base → base.Ns mainGlobals mg → FnOk P w K mg base CX k fa fd [x] sp) (hbind : ∀ (s : Shared) (u : Value), BindsTo s fd ⟨[u], []⟩ [(x, u)])
    (hsp : ∀ H : Hp, Only H → SqL K H a (ns.map V.int) → sp [.ref a] H (fun v _ => v = .bl true) fun _ _ _ => False)
    (hCX : ∀ H e s', CX [] H s₁ (fun _ _ _ => False) e s' → False) :
    codeAny (model P w) callerA (.call (.ref fa) ⟨[.ref a], []⟩) (fun r s' => r = .ok (.ret (.bool true)) ∧ OldK s₁.heap s'.heap ∧ s'.os = s₁.os ∧ AllBare s'.gens) s₁ := by
  have rv := vals_ints hi
  have lenV := hi.length
  have core : ∀ H : Hp, Only H → SqL K H a (ns.map V.int) → HOk P w H s₁.heap → (∀ b, H b ≠ none → b = a) → (H a ≠ none → K.lookup a = none) →
      codeAny (model P w) callerA (.call (.ref fa) ⟨[.ref a], []⟩) (fun r s' => r = .ok (.ret (.bool true)) ∧ OldK s₁.heap s'.heap ∧ s'.os = s₁.os ∧ AllBare s'.gens) s₁ := by
    intro H hO hS hok hA hK
    have base_of : ∀ {b : Addr} {o : Obj}, s₁.heap.get? b = some o → H b = none → (hidT s₁.heap H).get? b = some o := fun e n => hidT_get e n
    have noA : ∀ {b : Addr} {o : Obj} {es : Array DictEntry} {ep : Nat}, s₁.heap.get? b = some o → o.data = .dict es ep → H b = none := fun {b o es ep} e d => by
      cases q : H b with
      | none => rfl
      | some u =>
        have e' : b = a := hA b (by rw [q]; simp)
        subst e'
        rw [ha] at e; cases e
        have d' : Data.seq vs.toArray _ = Data.dict es ep := d
        cases d'
    have nsK : ∀ {b : Addr} {m : Str → Option Value}, s₁.heap.Ns b m → (hidT s₁.heap H).Ns b m := fun {b m} ⟨o, es, ep, e, d, r⟩ => ⟨o, es, ep, base_of e (noA e d), d, r⟩
    have hKb : K.In (hidT s₁.heap H) := fun b o e => base_of (KX b o e) (by
      cases q : H b with
      | none => rfl
      | some u =>
        have e' : b = a := hA b (by rw [q]; simp)
        subst e'
        rw [hK (by rw [q]; simp)] at e; cases e)
    have hM : Mod K mg (hidT s₁.heap H) := ⟨hKb, nsK hns, ⟨mb, nsK hb, hbb⟩, let ⟨mc, h1, h2⟩ := hlim; ⟨mc, nsK h1, h2⟩⟩
    have e0 : Env0 P w K mg (hidT s₁.heap H) callerA [] s₁ H := ⟨rfl, hM, fun b o e => of_hidT e, Nat.le_of_eq (hidT_size _ _), trivial, fun b hb => absurd (show b ∈ ([] : List Addr) from hb) (by simp), hok, .of_eq hg⟩
    refine codeAny_mono ((F _ hKb (nsK hns)).run callerA [] s₁ H ⟨[.ref a], []⟩ [.ref a] [.ref a] _ _ hr e0 (hbind s₁ (.ref a)) (.cons rfl .nil) (hsp H hO hS)) fun r s' h => ?_
    cases r with
    | error e => exact (hCX H e s' h).elim
    | ok fl =>
      cases fl with
      | next => exact False.elim h
      | brk => exact False.elim h
      | cont => exact False.elim h
      | ret u =>
        obtain ⟨v, H', os, bare, un, hok', r', q⟩ := h
        have q' : v = .bl true := q
        subst q'
        obtain rfl : u = Value.bool true := r'
        refine ⟨rfl, OldK.of_keep fun b o e => ?_, os, bare⟩
        cases q : H b with
        | none => exact un.keep b o e q (by intro z; exact absurd (show b ∈ ([] : List Addr) from z) (by simp)) (by simp)
        | some u =>
          rcases hO b with z | ⟨ob, xs, z⟩
          · rw [q] at z; cases z
          · have z2 := un.frzs b ob _ z
            obtain ⟨e1, _⟩ := hok b _ z
            obtain ⟨e2, _⟩ := hok' b _ z2
            rw [e] at e1; cases e1
            exact e2
  cases hk : K.lookup a with
  | some o =>
    have e := KX a o hk
    rw [ha] at e
    cases e
    refine core (fun _ => none) (fun _ => .inl rfl) (.inr ⟨_, vs.toArray, _, hk, rfl, rfl, rfl, by rw [List.size_toArray, lenV]; exact hl, by simpa using rv⟩) (fun b u z => by have z' : (none : Option HO) = some u := z; cases z') (fun b z => absurd rfl z) fun z => absurd rfl z
  | none =>
    refine core (fun b => if b = a then some (.frz { cls := .type "list", data := .seq vs.toArray } (.lst (ns.map V.int))) else none) (fun b => ?_) (.inl (.inr ⟨{ cls := .type "list", data := .seq vs.toArray }, if_pos rfl⟩)) (fun b u z => ?_) (fun b z => ?_) fun _ => hk
    · by_cases hb : b = a
      · exact .inr ⟨_, _, if_pos hb⟩
      · exact .inl (if_neg hb)
    · by_cases hb : b = a
      · have z' := (if_pos hb).symm.trans z
        cases z'
        subst hb
        exact ⟨ha, by rw [List.length_map]; exact hl, vs, _, rv, ha⟩
      · have z' := (if_neg hb).symm.trans z
        cases z'
    · by_cases hb : b = a
      · exact hb
      · exact absurd (if_neg hb) z
end L2
namespace L2
open PySem PySem.Spec PyProof.Rows
noncomputable abbrev KOf {K : PySem.W.Frag} {h : Heap} (_ : K.In h) : PySem.W.Frag := K
theorem walk_of {l : PySem.W.OpenLaw} {n k : Nat} {q : Program} {loose : List Str} {XP : (Str → Option Value) → Heap → Prop} {YP : World → Heap → Prop} {d : DefRec} {K : Params → PySem.W.Frag} {CX : World → CXT} {sp : World → Sp} {x : Str}
    (hn : l.most = some n) (hn2 : n ≤ sizeLine) (hdf : d.params.defaults = []) (hr : Room k callerA)
    (hY : ∀ (w : World) (h : Heap), YP w h → (K w.params).In h)
    (F : ∀ (w : World) (mg : Str → Option Value) (fa : Addr) (h : Heap), (K w.params).In h → h.Ns mainGlobals mg → mg d.name = some (.ref fa) →
      ∃ fd : FuncData, (∀ (s : Shared) (u : Value), BindsTo s fd ⟨[u], []⟩ [(x, u)]) ∧
        ∀ base : Heap, (K w.params).In base → base.Ns mainGlobals mg → FnOk l.prog w (K w.params) mg base (CX w) k fa fd [x] (sp w))
    (hsp : ∀ (w : World) (H : Hp) (a : Addr) (ns : List Int), ns.length ≤ n → Only H → SqL (K w.params) H a (ns.map V.int) → sp w [.ref a] H (fun v _ => v = .bl true) fun _ _ _ => False)
    (hCX : ∀ (w : World) (H : Hp) (s : Shared) (e : Value) (s' : Shared), CX w [] H s (fun _ _ _ => False) e s' → False) :
    PySem.W.WalkO q loose XP YP l.row.toRowW d [] (fun f vs => PySem.call f vs) := by
  refine Att.attach_call hn hdf fun w s₀ s₁ mg mb fa o pm cd doc a vs ns G Y ho hd hcd hmg hobj hints hlen hg => ?_
  have KX := hY w _ Y
  obtain ⟨fd, hb, hF⟩ := F w mg fa _ KX G.T.g hmg
  exact law_call KX G.T.g G.T.b G.T.builtins G.T.nolimit hg hobj hints (Nat.le_trans hlen hn2) hr hF hb (fun H hO hS => hsp w H a ns hlen hO hS) fun H e s' => hCX w H s₁ e s'
end L2
/- THE LAST THEOREM (shape; LID, My.* are yours):
   My.Adr: a structure of the addresses that your layer names (classes, functions); My.Txt K t: a structure (Prop) of the equations over K;
   My.txt_mk : {K} {implicit addresses ..} (e1 : nsIn K mainGlobals "law" = some (some (.ref f))) (e2 : K.lookup f = some ⟨oc, od, .func (fnOf "law" "law" params body scope dV kV doc pm an cdv ct), sl⟩) (e3 : codeIn K cdv "law" = true) .. : ∃ t, My.Txt K t
set_option maxRecDepth 100000 in
set_option maxHeartbeats 0 in
theorem PySem.Challenge.cw_LID_holds : PySem.Challenge.rw_LID.Holds := by
  w_on; o_law; k_head; (case hw => w_witness2)
  k_fill
  refine L2.walk_of (l := PySem.Challenge.rw_LID) (n := 63) (k := 40) (x := "script") (CX := fun w => ..) (sp := fun _ => My.sp_law) rfl (by decide) rfl ⟨rfl, by decide, by decide⟩ (fun w h Y => PySem.W.kIn_of Y) ?F ?S ?C
  case F =>
    intro w mg fa h KX G hmg
    have T : ∃ t, My.Txt (L2.KOf KX) t := by
      dsimp only [L2.KOf]                          -- K must stand as «<heap const> w.params» for k_is
      refine' My.txt_mk ?e1 ?e2 ?e3 ..
      (case e1 => PySem.W.k_is)                    -- in the order: a name -> its address -> its object -> its parts
      (case e2 => PySem.W.k_is)
      ..
    obtain ⟨t, T⟩ := T
    have e0 := hmg.symm.trans (PySem.W.mg_of KX G T.law)
    cases e0                                       -- fa is the law's own address
    exact ⟨_, fun s u => .of_eq rfl, fun base kb nb => My.law_fn T kb nb⟩     -- if «.of_eq rfl» comes too early: refine' ⟨_, ?b, fun base kb nb => My.law_fn T kb nb⟩; exact fun s u => .of_eq rfl
  case S => exact fun w H a ns hl hO hS => ..
  case C => exact ..
(the tactic k_is has no namespace: write k_is) -/
namespace L2
open PySem PySem.Spec PyProof.Rows
noncomputable def inClass (s : Stmt) (j : Nat) : Stmt := match s with
  | .ClassDef _ _ _ body _ _ _ _ _ _ _ => body.getD j (.Pass ⟨0, 0, 0, 0⟩)
  | _ => .Pass ⟨0, 0, 0, 0⟩
noncomputable def defArgs (s : Stmt) : Arguments := match s with
  | .FunctionDef _ a _ _ _ _ _ _ _ _ => a
  | _ => { posonlyargs := [], args := [], vararg := none, kwonlyargs := [], kw_defaults := [], kwarg := none, defaults := [] }
noncomputable def defBody (s : Stmt) : List Stmt := match s with
  | .FunctionDef _ _ b _ _ _ _ _ _ _ => b
  | _ => []
noncomputable def defScope (s : Stmt) : Scope := match s with
  | .FunctionDef _ _ _ _ _ _ sc _ _ _ => sc
  | _ => { kind := .function, names := [], isGenerator := false, isCoroutine := false }
noncomputable abbrev CX0 : CXT := fun _ _ _ _ _ _ => False
noncomputable abbrev E0 : XK := fun _ _ _ => False
theorem pass0 {X : Cx} : Passes CX0 X E0 := fun _ _ _ _ _ _ _ h => h.elim
structure Fun (K : PySem.W.Frag) (x qual : Str) (st : Stmt) (f : Addr) (fd : FuncData) : Prop where
  ex : ∃ (oc : Value) (od : Option Addr) (kV doc pm : Value) (an : Option Addr) (cdv ct : Value) (osl : Array (Option Value)),
    fd = PySem.W.fnOf x qual (defArgs st) (defBody st) (defScope st) .none kV doc pm an cdv ct ∧ K.lookup f = some ⟨oc, od, .func fd, osl⟩ ∧ PySem.W.codeIn K cdv qual = true
  kp : PySem.W.keepIn K (.ref f) = true
section
variable {P : Program} {w : World} {K : PySem.W.Frag} {mg : Str → Option Value} {base : Heap}
theorem Fun.ok {x qual : Str} {st : Stmt} {f : Addr} {fd : FuncData} {N ps : List Str} {k : Nat} {sp : Sp} (F : Fun K x qual st f fd) (S : FnScope N ps (defScope st)) (len : ∀ vs H Q E, sp vs H Q E → vs.length = ps.length)
    (hbody : ∀ (cdv : Value) (A : Around) (outer : List Env) (s : Shared) (H : Hp) (vs : List V) (Q : VK) (E : XK), Room k (A.deeper (envOfC qual (defScope st) s.heap.objs.size f cdv)) → sp vs H Q E →
      ∃ t, PSs (cxOf CX0 P w K mg base N qual (defScope st) f cdv A outer s H E).nox (defBody st) t ∧ t { nx := fun _ H' => Q .non H', rt := Q } (start N vs) H) : FnOk P w K mg base CX0 (k + 1) f fd ps sp := by
  obtain ⟨oc, od, kV, doc, pm, an, cdv, ct, osl, rfl, lk, hcd⟩ := F.ex
  refine fn_of lk hcd S len fun A outer s H vs Q E hr hsp => ?_
  obtain ⟨t, h, q⟩ := hbody cdv A outer s H vs Q E hr hsp
  exact ⟨t, h.nox, q⟩
theorem Fun.binds {x qual : Str} {st : Stmt} {f : Addr} {fd : FuncData} {ps : List Str} (F : Fun K x qual st f fd)
    (h : ∀ (kV doc pm : Value) (an : Option Addr) (cdv ct : Value) (us : List Value), us.length = ps.length → bindArgs (PySem.W.fnOf x qual (defArgs st) (defBody st) (defScope st) .none kV doc pm an cdv ct) ⟨us, []⟩ = pure (ps.zip us)) : Binds K fd ps [] := by
  obtain ⟨oc, od, kV, doc, pm, an, cdv, ct, osl, rfl, lk, hcd⟩ := F.ex
  exact .all (h kV doc pm an cdv ct)
theorem fun_mk {x qual : Str} {st : Stmt} {f : Addr} {oc : Value} {od an : Option Addr} {osl : Array (Option Value)} {kV doc pm cdv ct : Value} (l : K.lookup f = some ⟨oc, od, .func (PySem.W.fnOf x qual (defArgs st) (defBody st) (defScope st) .none kV doc pm an cdv ct), osl⟩)
    (c : PySem.W.codeIn K cdv qual = true) (k : PySem.W.keepIn K (.ref f) = true) : Fun K x qual st f (PySem.W.fnOf x qual (defArgs st) (defBody st) (defScope st) .none kV doc pm an cdv ct) := ⟨⟨oc, od, kV, doc, pm, an, cdv, ct, osl, rfl, l, c⟩, k⟩
end
section
variable {X : Cx}
theorem pv (i : Nat) {x : Str} {pos : Pos} (hN : X.N[i]? = some x := by rfl) (hv : Vis X.env.scope x := by first | exact Or.inl rfl | exact Or.inr (Or.inl rfl) | exact Or.inr (Or.inr rfl)) (hd : (x == ("__debug__" : Str)) = false := by decide)
    (hcd : (x == ("__classdict__" : Str)) = false := by decide) : PE X (.Name x pos) (tVar i) := pe_var hN hv hd hcd
end
theorem ite2 {c A B : Prop} [Decidable c] (h1 : c → A) (h2 : ¬ c → B) : if c then A else B := by
  by_cases h : c
  · rw [if_pos h]
    exact h1 h
  · rw [if_neg h]
    exact h2 h
noncomputable def Same (H H' : Hp) : Prop := ∀ b o, H b = some o → H' b = some o
theorem Same.refl (H : Hp) : Same H H := fun _ _ h => h
theorem Same.trans {H H1 H2 : Hp} (a : Same H H1) (b : Same H1 H2) : Same H H2 := fun c o h => b c o (a c o h)
theorem Same.free {H H' : Hp} (e : Same H H') {l : Addr} (h : H' l = Option.none) : H l = Option.none := by
  cases q : H l with
  | none => rfl
  | some o =>
    rw [e l o q] at h
    cases h
theorem Same.seq {K : PySem.W.Frag} {H H' : Hp} {a : Addr} {xs : List V} (e : Same H H') (h : SqL K H a xs) : SqL K H' a xs := by
  rcases h with (h | ⟨o, h⟩) | h
  · exact .inl (.inl (e _ _ h))
  · exact .inl (.inr ⟨o, e _ _ h⟩)
  · exact .inr h
end L2
set_option autoImplicit false
namespace Dr
theorem pow_pos {p : Int} (h : 2 ≤ p) : ∀ n : Nat, 0 < p ^ n
  | 0 => by simp
  | n + 1 => by
    rw [Int.pow_succ]
    exact Int.mul_pos (pow_pos h n) (by omega)
theorem pow_add' (p : Int) (m : Nat) : ∀ n : Nat, p ^ (m + n) = p ^ m * p ^ n
  | 0 => by simp
  | n + 1 => by rw [← Nat.add_assoc, Int.pow_succ, pow_add' p m n, Int.pow_succ, Int.mul_assoc]
structure Fac (p x : Int) (d : Nat) (u : Int) : Prop where
  eq : x = u * p ^ d
  un : u % p ≠ 0
theorem Fac.ne {p x u : Int} {d : Nat} (hp : 2 ≤ p) (f : Fac p x d u) : x ≠ 0 := by
  intro z
  have h := f.eq
  rw [z] at h
  have h2 := pow_pos hp d
  rcases Int.mul_eq_zero.mp h.symm with q | q
  · exact f.un (by rw [q]; simp)
  · ((try clear h hp z); omega)
theorem fac_ex {p : Int} (hp : 2 ≤ p) : ∀ (n : Nat) (x : Int), x.natAbs ≤ n → x ≠ 0 → ∃ d u, Fac p x d u
  | 0, x, h, h0 => by ((try clear hp); omega)
  | n + 1, x, h, h0 => by
    by_cases c : x % p = 0
    · have e : x = p * (x / p) := by have := Int.mul_ediv_add_emod x p; ((try clear h h0 hp); omega)
      have q0 : x / p ≠ 0 := by intro z; rw [z] at e; simp at e; exact h0 e
      have q1 : (x / p).natAbs ≤ n := by
        have e2 : x.natAbs = p.natAbs * (x / p).natAbs := by rw [← Int.natAbs_mul, ← e]
        have p2 : 2 ≤ p.natAbs := by ((try clear c e e2 h h0 q0); omega)
        have l : 2 * (x / p).natAbs ≤ p.natAbs * (x / p).natAbs := Nat.mul_le_mul_right _ p2
        have l0 : (x / p).natAbs ≠ 0 := by ((try clear c e e2 h h0 l p2); omega)
        ((try clear c e h0 hp l0 p2 q0); omega)
      obtain ⟨d, u, f⟩ := fac_ex hp n (x / p) q1 q0
      refine ⟨d + 1, u, ?_, f.un⟩
      have e3 := f.eq
      calc x = p * (x / p) := e
        _ = p * (u * p ^ d) := by rw [← e3]
        _ = u * p ^ (d + 1) := by rw [Int.pow_succ, Int.mul_comm p, Int.mul_assoc]
    · exact ⟨0, x, by simp, c⟩
theorem fac {p x : Int} (hp : 2 ≤ p) (h : x ≠ 0) : ∃ d u, Fac p x d u := fac_ex hp _ x (Nat.le_refl _) h
theorem fac_le {p u v : Int} {d e : Nat} (hp : 2 ≤ p) (h : u * p ^ d = v * p ^ e) (hu : u % p ≠ 0) : e ≤ d := by
  refine Nat.le_of_not_lt fun c => ?_
  obtain ⟨k, rfl⟩ : ∃ k, e = d + (k + 1) := ⟨e - d - 1, by ((try clear h hp hu); omega)⟩
  have h0 := pow_pos hp d
  have e1 : u = v * p ^ (k + 1) := by
    refine Int.eq_of_mul_eq_mul_right (Int.ne_of_gt h0) ?_
    rw [h, pow_add', Int.mul_assoc, Int.mul_comm (p ^ d)]
  rw [e1, Int.pow_succ, ← Int.mul_assoc, Int.mul_emod_left] at hu
  exact hu rfl
theorem Fac.uniq {p x u v : Int} {d e : Nat} (hp : 2 ≤ p) (f : Fac p x d u) (g : Fac p x e v) : d = e ∧ u = v := by
  have h : u * p ^ d = v * p ^ e := by rw [← f.eq, g.eq]
  have a := fac_le hp h f.un
  have b := fac_le hp h.symm g.un
  have c : d = e := Nat.le_antisymm b a
  subst c
  exact ⟨rfl, Int.eq_of_mul_eq_mul_right (Int.ne_of_gt (pow_pos hp d)) h⟩
theorem Fac.dvd {p x u : Int} {d : Nat} (hp : 2 ≤ p) (f : Fac p x d u) (k : Nat) : x % p ^ k = 0 ↔ k ≤ d := by
  constructor
  · intro h
    have e : x = x / p ^ k * p ^ k := by have := Int.mul_ediv_add_emod x (p ^ k); rw [Int.mul_comm]; ((try clear hp); omega)
    exact fac_le hp (f.eq.symm.trans e) f.un
  · intro h
    obtain ⟨j, rfl⟩ : ∃ j, d = j + k := ⟨d - k, by ((try clear hp); omega)⟩
    rw [f.eq, pow_add', ← Int.mul_assoc, Int.mul_emod_left]
theorem dvd_of_le {p x : Int} {j k : Nat} (h : x % p ^ k = 0) (hj : j ≤ k) : x % p ^ j = 0 := by
  obtain ⟨i, rfl⟩ : ∃ i, k = j + i := ⟨k - j, by ((try clear h); omega)⟩
  rw [pow_add'] at h
  exact Int.emod_eq_zero_of_dvd (Int.dvd_trans (Int.dvd_mul_right _ _) (Int.dvd_of_emod_eq_zero h))
noncomputable def primes : List Int := [2, 3, 5, 7, 11, 13, 17, 19, 23, 29, 31, 37, 41, 43, 47, 53, 59, 61, 67, 71, 73, 79, 83, 89, 97]
theorem primes_ge {p : Int} (h : p ∈ primes) : 2 ≤ p ∧ p ≤ 97 :=
  of_decide_eq_true (List.all_eq_true.mp (show (primes.all fun q => decide (2 ≤ q ∧ q ≤ 97)) = true by decide +kernel) p h)
noncomputable def invs (p : Nat) : Bool := (List.range p).all fun r => r == 0 || (List.range p).any fun y => r * y % p == 1
theorem invs_all : (primes.map Int.toNat).all invs = true := by decide +kernel
theorem inv_ex {p x : Int} (hp : p ∈ primes) (hx : x % p ≠ 0) : ∃ y : Int, 1 ≤ y ∧ y < p ∧ x * y % p = 1 := by
  have g := primes_ge hp
  have h := List.all_eq_true.mp invs_all p.toNat (List.mem_map.mpr ⟨p, hp, rfl⟩)
  have r0 := Int.emod_nonneg x (show p ≠ 0 by ((try clear h hx); omega))
  have r1 := Int.emod_lt_of_pos x (show 0 < p by ((try clear h hx r0); omega))
  have h2 := List.all_eq_true.mp h (x % p).toNat (List.mem_range.mpr (by ((try clear h hx r0); omega)))
  have z : ((x % p).toNat == 0) = false := by
    rw [beq_eq_false_iff_ne]; ((try clear g h h2 r1); omega)
  rw [z, Bool.false_or] at h2
  obtain ⟨y, hy, e⟩ := List.any_eq_true.mp h2
  have e' : (x % p).toNat * y % p.toNat = 1 := by simpa using e
  have hy' := List.mem_range.mp hy
  refine ⟨(y : Int), ?_, by ((try clear e e' h h2 hx r0 r1 z); omega), ?_⟩
  · rcases Nat.eq_zero_or_pos y with q | q
    · subst q; simp at e'
    · ((try clear e e' g h h2 hx hy' r0 r1 z); omega)
  · rw [Int.mul_emod, Int.emod_eq_of_lt (Int.natCast_nonneg y) (show (y : Int) < p by ((try clear e e' h h2 hx r0 r1 z); omega))]
    have e3 := congrArg (fun n : Nat => (n : Int)) e'
    simp only [Int.natCast_emod, Int.natCast_mul] at e3
    rw [Int.toNat_of_nonneg r0, Int.toNat_of_nonneg (by ((try clear e e' e3 h h2 hx hy' r0 r1 z); omega))] at e3
    exact e3
theorem euclid {p a b : Int} (hp : p ∈ primes) (h : a * b % p = 0) (ha : a % p ≠ 0) : b % p = 0 := by
  obtain ⟨y, _, _, e⟩ := inv_ex hp ha
  have g := primes_ge hp
  have h1 : (y * (a * b)) % p = 0 := by rw [Int.mul_emod, h]; simp
  have h2 : (y * (a * b)) % p = (a * y) * b % p := by
    congr 1
    rw [← Int.mul_assoc, Int.mul_comm y a]
  rw [h2, Int.mul_emod, e, Int.one_mul, Int.emod_emod] at h1
  exact h1
theorem Fac.mul {p x y u v : Int} {d e : Nat} (hp : p ∈ primes) (f : Fac p x d u) (g : Fac p y e v) : Fac p (x * y) (d + e) (u * v) := by
  refine ⟨?_, fun h => g.un (euclid hp h f.un)⟩
  rw [f.eq, g.eq, pow_add']
  simp only [Int.mul_assoc, Int.mul_left_comm]
end Dr
namespace Dr
structure LeastD (p : Int) (some : List Int) (s : Int) (e : Nat) : Prop where
  top : e ≤ 60
  all : ∀ x, x ∈ some → (x - s) % p ^ e = 0
  sharp : e = 60 ∨ ∃ x, x ∈ some ∧ (x - s) % p ^ (e + 1) ≠ 0
theorem pow_dv {p : Int} {m n : Nat} (h : m ≤ n) : p ^ n % p ^ m = 0 := by
  obtain ⟨k, rfl⟩ : ∃ k, n = k + m := ⟨n - m, by omega⟩
  rw [pow_add', Int.mul_emod_left]
noncomputable def UpN (p x : Int) (m d : Nat) : Prop := (x = 0 ∧ d = m) ∨ ∃ (v : Nat) (u : Int), Fac p x v u ∧ d = min m v
end Dr
namespace Dr
structure InvE (p x y : Int) (e : Nat) : Prop where
  lo : 0 ≤ y
  hi : y < p ^ e
  one : (x * y - 1) % p ^ e = 0
theorem dvd_sub_of {m a b : Int} (h : a % m = 0) (h' : b % m = 0) : (a - b) % m = 0 := by rw [Int.sub_emod, h, h']; simp
theorem dvd_add_of {m a b : Int} (h : a % m = 0) (h' : b % m = 0) : (a + b) % m = 0 := by rw [Int.add_emod, h, h']; simp
theorem dvd_mul_l {m a : Int} (b : Int) (h : a % m = 0) : (b * a) % m = 0 := by rw [Int.mul_emod, h]; simp
theorem dvd_mul_r {m a : Int} (b : Int) (h : a % m = 0) : (a * b) % m = 0 := by rw [Int.mul_emod, h]; simp
theorem rest_sub (m a : Int) : (a % m - a) % m = 0 := by
  rw [Int.sub_emod, Int.emod_emod]
  simp
theorem inv_step {p x y : Int} {e r : Nat} (h : (x * y - 1) % p ^ (min r e) = 0) : (x * (y * (2 - x * y) % p ^ e) - 1) % p ^ (min (r * 2) e) = 0 := by
  have k1 : (y * (2 - x * y) % p ^ e - y * (2 - x * y)) % p ^ e = 0 := rest_sub _ _
  have k2 : (x * (y * (2 - x * y) % p ^ e) - x * (y * (2 - x * y))) % p ^ (min (r * 2) e) = 0 := by
    rw [← Int.mul_sub]
    exact dvd_mul_l _ (dvd_of_le k1 (Nat.min_le_right ..))
  have k3 : x * (y * (2 - x * y)) - 1 = -((x * y - 1) * (x * y - 1)) := by
    have e1 : x * (y * (2 - x * y)) = 2 * (x * y) - (x * y) * (x * y) := by
      rw [← Int.mul_assoc, Int.mul_sub, Int.mul_comm (x * y) 2]
    have e2 : (x * y - 1) * (x * y - 1) = (x * y) * (x * y) - 2 * (x * y) + 1 := by
      rw [Int.sub_mul, Int.mul_sub]
      ((try clear e1 h k1 k2); omega)
    rw [e1, e2]
    ((try clear e1 e2 h k1 k2); omega)
  have k4 : (x * (y * (2 - x * y)) - 1) % p ^ (min (r * 2) e) = 0 := by
    rw [k3]
    refine Int.emod_eq_zero_of_dvd (Int.dvd_neg.mpr ?_)
    obtain ⟨q, hq⟩ := Int.dvd_of_emod_eq_zero h
    have : p ^ (min r e) * p ^ (min r e) ∣ (x * y - 1) * (x * y - 1) := by
      refine ⟨q * q, ?_⟩
      conv => lhs; rw [hq]
      simp only [Int.mul_assoc, Int.mul_left_comm]
    refine Int.dvd_trans ?_ this
    rw [← pow_add']
    exact Int.dvd_of_emod_eq_zero (pow_dv (by ((try clear h hq k1 k2 k3 this); omega)))
  have : x * (y * (2 - x * y) % p ^ e) - 1 = (x * (y * (2 - x * y) % p ^ e) - x * (y * (2 - x * y))) + (x * (y * (2 - x * y)) - 1) := by ((try clear h k1 k2 k3 k4); omega)
  rw [this]
  exact dvd_add_of k2 k4
theorem InvE.zero (p x : Int) : InvE p x 0 0 := ⟨by decide, by simp, by simp [Int.emod_one]⟩
end Dr
namespace Dr
structure UpD (p x : Int) (m d : Nat) : Prop where
  le : d ≤ m
  dv : x % p ^ d = 0
  sh : d = m ∨ x % p ^ (d + 1) ≠ 0
end Dr
namespace Dr
noncomputable def IsP (n : Int) : Prop := 2 ≤ n ∧ ∀ d : Int, 2 ≤ d → d * d ≤ n → n % d ≠ 0
noncomputable def isPb (n : Nat) : Bool := decide (2 ≤ n) && (List.range 32).all fun d => decide (d < 2) || decide (n < d * d) || decide (n % d ≠ 0)
noncomputable def vpF : Nat → Nat → Nat → Nat
  | 0, _, _ => 0
  | f + 1, q, n => if n % q = 0 then vpF f q (n / q) + 1 else 0
noncomputable def nprimes : List Nat := [2, 3, 5, 7, 11, 13, 17, 19, 23, 29, 31, 37, 41, 43, 47, 53, 59, 61, 67, 71, 73, 79, 83, 89, 97]
noncomputable def outOf (n r q : Nat) : Nat := if n % q = 0 then r / q ^ vpF 10 q n else r
noncomputable def left (n : Nat) : Nat := nprimes.foldl (outOf n) n
noncomputable def chkN (n : Nat) : Bool := decide (1 ≤ left n ∧ left n ≤ 1000) && (decide (left n = 1) || isPb (left n)) && (isPb n == (decide (left n = n) || nprimes.contains n))
theorem Fac.pow_le {p x u : Int} {d : Nat} (hp : 2 ≤ p) (f : Fac p x d u) : (p ^ d).natAbs ≤ x.natAbs := by
  have hu : u ≠ 0 := fun z => f.un (by rw [z]; simp)
  have : x.natAbs = u.natAbs * (p ^ d).natAbs := by rw [f.eq, Int.natAbs_mul]
  have h1 : 1 * (p ^ d).natAbs ≤ u.natAbs * (p ^ d).natAbs := Nat.mul_le_mul_right _ (by ((try clear hp this); omega))
  ((try clear hp hu); omega)
theorem two_pow_le {p : Int} (hp : 2 ≤ p) : ∀ d : Nat, 2 ^ d ≤ (p ^ d).natAbs
  | 0 => by simp
  | d + 1 => by
    rw [Int.pow_succ, Int.natAbs_mul, Nat.pow_succ]
    exact Nat.mul_le_mul (two_pow_le hp d) (by omega)
theorem Fac.depth_lt {p x u : Int} {d n : Nat} (hp : 2 ≤ p) (f : Fac p x d u) (h : x.natAbs < 2 ^ n) : d < n :=
  (Nat.pow_lt_pow_iff_right (by decide : 1 < 2)).mp (Nat.lt_of_le_of_lt (Nat.le_trans (two_pow_le hp d) (f.pow_le hp)) h)
theorem Fac.div {p x u : Int} {d : Nat} (hp : 2 ≤ p) (f : Fac p x d u) : x / p ^ d = u := by
  have h0 := pow_pos hp d
  conv => lhs; rw [f.eq]
  exact Int.mul_ediv_cancel _ (by ((try clear hp); omega))
end Dr
namespace Dr
noncomputable def pev : List Int → Int → Int
  | [], _ => 0
  | a :: f, x => a + x * pev f x
noncomputable def pdv : List Int → Int → Int
  | [], _ => 0
  | _ :: f, x => pev f x + x * pdv f x
noncomputable def dm : Int → List Int → List Int
  | _, [] => []
  | k, a :: f => k * a :: dm (k + 1) f
noncomputable def pslope : List Int → List Int
  | [] => []
  | [_] => [0]
  | _ :: f => dm 1 f
theorem pev_dm (x : Int) : ∀ (f : List Int) (k : Int), pev (dm k f) x = k * pev f x + x * pdv f x
  | [], k => by simp [pev, dm, pdv]
  | a :: f, k => by
    simp only [pev, dm, pdv, pev_dm x f (k + 1)]
    grind
theorem pev_slope {f : List Int} (h : 0 < f.length) (x : Int) : pev (pslope f) x = pdv f x := by
  match f, h with
  | [a], _ => simp [pslope, pev, pdv]
  | a :: b :: f, _ =>
    show pev (dm 1 (b :: f)) x = pdv (a :: b :: f) x
    rw [pev_dm]
    simp only [pdv]
    grind
theorem dm_length : ∀ (f : List Int) (k : Int), (dm k f).length = f.length
  | [], _ => rfl
  | _ :: f, k => by simp [dm, dm_length f (k + 1)]
theorem dm_get : ∀ (f : List Int) (k : Int) (i : Nat) (c : Int), f[i]? = some c → (dm k f)[i]? = some ((k + i) * c)
  | a :: f, k, 0, c, h => by
    have : a = c := by simpa using h
    subst this
    simp [dm]
  | a :: f, k, i + 1, c, h => by
    have := dm_get f (k + 1) i c (by simpa using h)
    simp only [dm, List.getElem?_cons_succ, this]
    congr 2
    ((try clear h this); omega)
theorem pev_append (f g : List Int) (x : Int) : pev (f ++ g) x = pev f x + x ^ f.length * pev g x := by
  induction f with
  | nil => simp [pev]
  | cons a f ih =>
    simp only [List.cons_append, pev, ih, List.length_cons]
    grind
theorem pev_zeros (n : Nat) (x : Int) : pev (List.replicate n 0) x = 0 := by
  induction n with
  | zero => rfl
  | succ n ih => simp [List.replicate_succ, pev, ih]
theorem pev_set (x d : Int) : ∀ (f : List Int) (k : Nat) (c : Int), f[k]? = some c → pev (f.set k (c + d)) x = pev f x + d * x ^ k
  | a :: f, 0, c, h => by
    have : a = c := by simpa using h
    subst this
    simp only [List.set_cons_zero, pev, Int.pow_zero]
    ((try clear h); omega)
  | a :: f, k + 1, c, h => by
    simp only [List.set_cons_succ, pev, pev_set x d f k c (by simpa using h)]
    grind
theorem pev_take_succ {f : List Int} {i : Nat} {c : Int} (h : f[i]? = some c) (x : Int) : pev (f.take (i + 1)) x = pev (f.take i) x + c * x ^ i := by
  have hi := (List.getElem?_eq_some_iff.mp h).1
  rw [List.take_add_one, h, pev_append, List.length_take, Nat.min_eq_left (Nat.le_of_lt hi)]
  simp only [Option.toList, pev]
  grind
theorem drop_rev {f : List Int} {i : Nat} {c : Int} (h : f.reverse[i]? = some c) : f.drop (f.length - (i + 1)) = c :: f.drop (f.length - i) := by
  have hi : i < f.length := by
    have := (List.getElem?_eq_some_iff.mp h).1
    simpa using this
  rw [List.getElem?_reverse hi] at h
  have h2 : f.length - (i + 1) < f.length := by ((try clear h); omega)
  rw [List.drop_eq_getElem_cons h2]
  have e1 : f.length - (i + 1) + 1 = f.length - i := by ((try clear h h2); omega)
  have e2 : f[f.length - (i + 1)] = c := by
    have h3 : f.length - 1 - i = f.length - (i + 1) := by ((try clear h h2); omega)
    rw [h3, List.getElem?_eq_getElem h2] at h
    exact Option.some.inj h
  rw [e1, e2]
theorem pev_rev {f : List Int} {i : Nat} {c : Int} (h : f.reverse[i]? = some c) (x : Int) : pev (f.drop (f.length - (i + 1))) x = pev (f.drop (f.length - i)) x * x + c := by
  rw [drop_rev h]
  simp only [pev]
  grind
noncomputable def Sm (n : Int) (k : Nat) : Prop := n.natAbs < 2 ^ k
theorem Sm.mono {n : Int} {k l : Nat} (h : Sm n k) (hl : k ≤ l) : Sm n l := Nat.lt_of_lt_of_le h (Nat.pow_le_pow_right (by decide) hl)
theorem Sm.zero (k : Nat) : Sm 0 k := Nat.pow_pos (by decide)
theorem Sm.add {a b : Int} {k l : Nat} (ha : Sm a k) (hb : Sm b l) : Sm (a + b) (max k l + 1) := by
  have h1 := ha.mono (Nat.le_max_left k l)
  have h2 := hb.mono (Nat.le_max_right k l)
  unfold Sm at *
  rw [Nat.pow_succ]
  ((try clear ha hb); omega)
theorem Sm.neg {a : Int} {k : Nat} (ha : Sm a k) : Sm (-a) k := by
  unfold Sm at *
  rw [Int.natAbs_neg]
  exact ha
theorem Sm.sub {a b : Int} {k l : Nat} (ha : Sm a k) (hb : Sm b l) : Sm (a - b) (max k l + 1) := by
  rw [Int.sub_eq_add_neg]
  exact ha.add hb.neg
theorem Sm.mul {a b : Int} {k l : Nat} (ha : Sm a k) (hb : Sm b l) : Sm (a * b) (k + l) := by
  unfold Sm at *
  rw [Int.natAbs_mul, Nat.pow_add]
  exact Nat.mul_lt_mul_of_lt_of_lt ha hb
noncomputable def PolyB (f : List Int) (m : Nat) : Prop := ∀ c, c ∈ f → Sm c m
theorem Sm.pev {m n : Nat} {x : Int} (hx : Sm x n) : ∀ {f : List Int}, PolyB f m → Sm (pev f x) (m + f.length * (n + 1))
  | [], _ => Sm.zero _
  | a :: f, hf => by
    have h1 := Sm.pev hx (f := f) fun c hc => hf c (List.mem_cons_of_mem _ hc)
    have h2 := (hf a (List.mem_cons_self ..)).add (hx.mul h1)
    refine h2.mono ?_
    rw [List.length_cons, Nat.succ_mul]
    omega
theorem PolyB.drop {f : List Int} {m : Nat} (h : PolyB f m) (k : Nat) : PolyB (f.drop k) m := fun c hc => h c (List.mem_of_mem_drop hc)
theorem pev_inj_from : ∀ (f g : List Int) (N : Int), f.length = g.length → (∀ x, N ≤ x → pev f x = pev g x) → f = g
  | [], [], _, _, _ => rfl
  | a :: f, b :: g, N, hl, h => by
    have hab : a = b := by
      let D : Int := ((a - b).natAbs : Int) + 1 + (N.natAbs : Int)
      have hD : N ≤ D := by ((try clear hl); omega)
      have e := h D hD
      simp only [pev] at e
      have e2 : a - b = D * (pev g D - pev f D) := by grind
      refine Decidable.byContradiction fun hne => ?_
      have hz : pev g D - pev f D ≠ 0 := fun z => by
        rw [z] at e2
        simp at e2
        ((try clear hD hl z); omega)
      have h3 : (a - b).natAbs = D.natAbs * (pev g D - pev f D).natAbs := by rw [← Int.natAbs_mul, ← e2]
      have h4 : D.natAbs * 1 ≤ D.natAbs * (pev g D - pev f D).natAbs := Nat.mul_le_mul_left _ (by ((try clear e e2 h3 hD hl hne); omega))
      ((try clear e e2 hD hl); omega)
    subst hab
    congr 1
    refine pev_inj_from f g (max N 1) (by simpa using hl) fun x hx => ?_
    have e := h x (by ((try clear hl); omega))
    simp only [pev] at e
    have e2 : x * pev f x = x * pev g x := by ((try clear hl hx); omega)
    exact Int.eq_of_mul_eq_mul_left (by ((try clear e e2 hl); omega)) e2
  | [], _ :: _, _, hl, _ => by simp at hl
  | _ :: _, [], _, hl, _ => by simp at hl
theorem pev_inj {f g : List Int} (hl : f.length = g.length) (h : ∀ x, pev f x = pev g x) : f = g := pev_inj_from f g 0 hl fun x _ => h x
theorem taylor (x h : Int) : ∀ f : List Int, ∃ R, pev f (x + h) = pev f x + h * pdv f x + h * h * R
  | [] => ⟨0, by simp [pev, pdv]⟩
  | a :: f => by
    obtain ⟨R, e⟩ := taylor x h f
    refine ⟨pdv f x + x * R + h * R, ?_⟩
    simp only [pev, pdv, e]
    grind
theorem all_divide {T : Int} (h : ∀ n : Int, 0 < n → ∃ S, T = n * S) : T = 0 := by
  obtain ⟨S, e⟩ := h ((T.natAbs : Int) + 1) (by omega)
  refine Decidable.byContradiction fun hne => ?_
  have hS : S ≠ 0 := fun z => by
    rw [z] at e
    simp at e
    exact hne e
  have h3 : T.natAbs = ((T.natAbs : Int) + 1).natAbs * S.natAbs := by rw [← Int.natAbs_mul, ← e]
  have h4 : ((T.natAbs : Int) + 1).natAbs * 1 ≤ ((T.natAbs : Int) + 1).natAbs * S.natAbs := Nat.mul_le_mul_left _ (by ((try clear e h3 hne); omega))
  ((try clear e hS hne); omega)
theorem pdv_mul {r f g : List Int} (h : ∀ x, pev r x = pev f x * pev g x) (x : Int) : pdv r x = pdv f x * pev g x + pev f x * pdv g x := by
  have := all_divide (T := pdv r x - (pdv f x * pev g x + pev f x * pdv g x)) fun n hn => by
    obtain ⟨R, e⟩ := taylor x n r
    obtain ⟨F, ef⟩ := taylor x n f
    obtain ⟨G, eg⟩ := taylor x n g
    rw [h, h, ef, eg] at e
    refine ⟨pev f x * G + pdv f x * pdv g x + n * pdv f x * G + F * pev g x + n * F * pdv g x + n * n * F * G - R, ?_⟩
    refine Int.eq_of_mul_eq_mul_left (show n ≠ 0 by ((try clear e ef eg); omega)) ?_
    grind
  omega
noncomputable def IsDeg (f : List Int) (d : Int) : Prop := (d = -1 ∧ ∀ c, c ∈ f → c = 0) ∨ ∃ (k : Nat) (c : Int), d = (k : Int) ∧ f[k]? = some c ∧ c ≠ 0 ∧ ∀ (j : Nat) (b : Int), k < j → f[j]? = some b → b = 0
theorem IsDeg.nil : IsDeg [] (-1) := .inl ⟨rfl, fun _ h => nomatch h⟩
theorem IsDeg.snoc {f : List Int} {d x : Int} (h : IsDeg f d) : IsDeg (f ++ [x]) (if x ≠ 0 then (f.length : Int) else d) := by
  by_cases hx : x = 0
  · rw [if_neg (by simp [hx])]
    rcases h with ⟨rfl, h⟩ | ⟨k, c, rfl, e, hc, h⟩
    · exact .inl ⟨rfl, fun c hc => by rcases List.mem_append.mp hc with z | z; exact h c z; rw [List.mem_singleton.mp z, hx]⟩
    · have hk := (List.getElem?_eq_some_iff.mp e).1
      refine .inr ⟨k, c, rfl, by rw [List.getElem?_append_left hk]; exact e, hc, fun j b hj e' => ?_⟩
      by_cases hl : j < f.length
      · rw [List.getElem?_append_left hl] at e'
        exact h j b hj e'
      · rw [List.getElem?_append_right (by ((try clear e e' hc hj hk hx); omega))] at e'
        by_cases hz : j - f.length = 0
        · rw [hz] at e'
          simp at e'
          rw [← e', hx]
        · rw [List.getElem?_eq_none (by simp; ((try clear e e' hc hj hk hx); omega))] at e'
          cases e'
  · rw [if_pos hx]
    refine .inr ⟨f.length, x, rfl, by rw [List.getElem?_append_right (Nat.le_refl _)]; simp, hx, fun j b hj e' => ?_⟩
    rw [List.getElem?_eq_none (by simp; ((try clear e' hx); omega))] at e'
    cases e'
theorem IsDeg.take_succ {f : List Int} {i : Nat} {x d : Int} (hx : f[i]? = some x) (h : IsDeg (f.take i) d) : IsDeg (f.take (i + 1)) (if x ≠ 0 then (i : Int) else d) := by
  have hi := (List.getElem?_eq_some_iff.mp hx).1
  have := h.snoc (x := x)
  rw [List.length_take, Nat.min_eq_left (Nat.le_of_lt hi)] at this
  rw [List.take_add_one, hx]
  exact this
end Dr
namespace Dr
structure IsProd (f g r : List Int) : Prop where
  len : r.length + 1 = f.length + g.length
  ev : ∀ x, pev r x = pev f x * pev g x
noncomputable def padd : List Int → List Int → List Int
  | [], g => g
  | f, [] => f
  | a :: f, b :: g => (a + b) :: padd f g
theorem padd_ev (x : Int) : ∀ f g : List Int, pev (padd f g) x = pev f x + pev g x
  | [], g => by simp [padd, pev]
  | a :: f, [] => by simp [padd, pev]
  | a :: f, b :: g => by
    simp only [padd, pev, padd_ev x f g]
    grind
theorem padd_len : ∀ f g : List Int, (padd f g).length = max f.length g.length
  | [], g => by simp [padd]
  | a :: f, [] => by simp [padd]
  | a :: f, b :: g => by
    simp only [padd, List.length_cons, padd_len f g]
    omega
theorem pev_map (k x : Int) : ∀ f : List Int, pev (f.map (k * ·)) x = k * pev f x
  | [] => by simp [pev]
  | a :: f => by
    simp only [List.map_cons, pev, pev_map k x f]
    grind
noncomputable def pmul : List Int → List Int → List Int
  | [], _ => []
  | a :: f, g => padd (g.map (a * ·)) (match f with | [] => [] | _ => 0 :: pmul f g)
theorem pmul_ev (x : Int) (g : List Int) : ∀ f : List Int, pev (pmul f g) x = pev f x * pev g x
  | [] => by simp [pmul, pev]
  | [a] => by
    simp only [pmul, padd_ev, pev_map, pev]
    grind
  | a :: b :: f => by
    simp only [pmul, padd_ev, pev_map]
    have := pmul_ev x g (b :: f)
    simp only [pmul, padd_ev, pev_map] at this
    simp only [pev, padd_ev, pev_map] at this ⊢
    grind
theorem pmul_len (g : List Int) (hg : 0 < g.length) : ∀ f : List Int, 0 < f.length → (pmul f g).length + 1 = f.length + g.length
  | [a], _ => by
    simp only [pmul, padd_len, List.length_map, List.length_nil, List.length_cons]
    omega
  | a :: b :: f, _ => by
    have := pmul_len g hg (b :: f) (by simp)
    simp only [pmul, padd_len, List.length_map, List.length_cons] at this ⊢
    ((try clear hg); omega)
theorem pmul_prod {f g : List Int} (hf : 0 < f.length) (hg : 0 < g.length) : IsProd f g (pmul f g) := ⟨pmul_len g hg f hf, fun x => pmul_ev x g f⟩
noncomputable def psubk (k : Int) : List Int → List Int → List Int
  | [], g => g.map (-k * ·)
  | f, [] => f
  | a :: f, b :: g => (a - k * b) :: psubk k f g
theorem psubk_ev (k x : Int) : ∀ f g : List Int, pev (psubk k f g) x = pev f x - k * pev g x
  | [], g => by
    simp only [psubk, pev_map, pev]
    grind
  | a :: f, [] => by simp [psubk, pev]
  | a :: f, b :: g => by
    simp only [psubk, pev, psubk_ev k x f g]
    grind
theorem psubk_dv {p k : Int} (hk : k % p = 0) : ∀ f g : List Int, (∀ c, c ∈ f → c % p = 0) → ∀ c, c ∈ psubk k f g → c % p = 0
  | [], g, _, c, hc => by
    simp only [psubk, List.mem_map] at hc
    obtain ⟨b, _, rfl⟩ := hc
    exact Int.emod_eq_zero_of_dvd (Int.dvd_mul_of_dvd_left (Int.dvd_neg.mpr (Int.dvd_of_emod_eq_zero hk)))
  | a :: f, [], h, c, hc => h c hc
  | a :: f, b :: g, h, c, hc => by
    simp only [psubk, List.mem_cons] at hc
    rcases hc with rfl | hc
    · rw [Int.sub_emod, h a (List.mem_cons_self ..), Int.mul_emod, hk]
      simp
    · exact psubk_dv hk f g (fun c hc => h c (List.mem_cons_of_mem _ hc)) c hc
theorem gauss_n {p : Int} (hp : p ∈ primes) : ∀ (n : Nat) (f g r : List Int), f.length + g.length ≤ n → (∀ x, 1 ≤ x → pev r x = pev f x * pev g x) → (∀ c, c ∈ r → c % p = 0) → (∀ c, c ∈ f → c % p = 0) ∨ (∀ c, c ∈ g → c % p = 0) := by
  intro n
  induction n with
  | zero =>
    intro f g r hn h hd
    cases f with
    | nil => exact .inl fun _ h => nomatch h
    | cons a f => simp at hn
  | succ n ih =>
    intro f g r hn h hd
    have p2 := primes_ge hp
    cases f with
    | nil => exact .inl fun _ h => nomatch h
    | cons a f =>
    cases g with
    | nil => exact .inr fun _ h => nomatch h
    | cons b g =>
    obtain ⟨c, s, hc, hs, ev⟩ : ∃ (c : Int) (s : List Int), c % p = 0 ∧ (∀ e, e ∈ s → e % p = 0) ∧ ∀ x, pev r x = c + x * pev s x := by
      cases r with
      | nil => exact ⟨0, [], by simp, (fun _ h => nomatch h), fun x => by simp [pev]⟩
      | cons c s => exact ⟨c, s, hd c (List.mem_cons_self ..), fun e he => hd e (List.mem_cons_of_mem _ he), fun x => rfl⟩
    have hab : c = a * b := by
      have := all_divide (T := c - a * b) fun x hx => by
        have e := h x (by ((try clear hc hn p2); omega))
        rw [ev] at e
        simp only [pev] at e
        exact ⟨a * pev g x + b * pev f x + x * pev f x * pev g x - pev s x, by grind⟩
      ((try clear hc hn p2); omega)
    by_cases ha : a % p = 0
    · -- x f' g is r less a g
      have e1 : ∀ x, 1 ≤ x → pev (psubk a s g) x = pev f x * pev (b :: g) x := fun x hx => by
        have e := h x hx
        rw [ev] at e
        rw [psubk_ev]
        simp only [pev] at e ⊢
        refine Int.eq_of_mul_eq_mul_left (show x ≠ 0 by ((try clear e ha hab hc hn p2); omega)) ?_
        grind
      rcases ih f (b :: g) (psubk a s g) (by simp only [List.length_cons] at hn ⊢; ((try clear ha hab hc p2); omega)) e1 (psubk_dv ha s g hs) with z | z
      · exact .inl fun c hc => by
          rcases List.mem_cons.mp hc with rfl | hc
          · exact ha
          · exact z c hc
      · exact .inr z
    · have hb : b % p = 0 := euclid hp (by rw [← hab]; exact hc) ha
      have e1 : ∀ x, 1 ≤ x → pev (psubk b s f) x = pev (a :: f) x * pev g x := fun x hx => by
        have e := h x hx
        rw [ev] at e
        rw [psubk_ev]
        simp only [pev] at e ⊢
        refine Int.eq_of_mul_eq_mul_left (show x ≠ 0 by ((try clear e ha hab hb hc hn p2); omega)) ?_
        grind
      rcases ih (a :: f) g (psubk b s f) (by simp only [List.length_cons] at hn ⊢; ((try clear ha hab hb hc p2); omega)) e1 (psubk_dv hb s f hs) with z | z
      · exact .inl z
      · exact .inr fun c hc => by
          rcases List.mem_cons.mp hc with rfl | hc
          · exact hb
          · exact z c hc
structure IsCont (p : Int) (f : List Int) (c : Nat) : Prop where
  all : ∀ x, x ∈ f → x % p ^ c = 0
  one : ∃ x, x ∈ f ∧ x / p ^ c % p ≠ 0
theorem IsCont.le {p : Int} {f : List Int} {c c' : Nat} (hp : 2 ≤ p) (h : IsCont p f c) (h' : ∀ x, x ∈ f → x % p ^ c' = 0) : c' ≤ c := by
  refine Decidable.byContradiction fun hlt => ?_
  obtain ⟨x, hx, n⟩ := h.one
  have h1 : x % p ^ (c + 1) = 0 := dvd_of_le (h' x hx) (by ((try clear hp n); omega))
  obtain ⟨y, e⟩ := Int.dvd_of_emod_eq_zero h1
  apply n
  have hp0 := pow_pos hp c
  rw [e, Int.pow_succ, Int.mul_assoc, Int.mul_ediv_cancel_left _ (by ((try clear e h1 hlt hp n); omega))]
  simp
theorem IsCont.uniq {p : Int} {f : List Int} {c c' : Nat} (hp : 2 ≤ p) (h : IsCont p f c) (h' : IsCont p f c') : c = c' := by
  have h1 := h.le hp h'.all
  have h2 := h'.le hp h.all
  ((try clear hp); omega)
noncomputable def pdiv (q : Int) (f : List Int) : List Int := f.map (· / q)
theorem pdiv_back {q : Int} : ∀ {f : List Int}, (∀ x, x ∈ f → x % q = 0) → f = (pdiv q f).map (q * ·)
  | [], _ => rfl
  | a :: l, hl => by
    have ih := pdiv_back (f := l) fun x hx => hl x (List.mem_cons_of_mem _ hx)
    unfold pdiv at ih ⊢
    rw [List.map_cons, List.map_cons, ← ih]
    congr 1
    have e := Int.mul_ediv_add_emod a q
    rw [hl a (List.mem_cons_self ..)] at e
    ((try clear ih); omega)
theorem pdiv_ev {q : Int} {f : List Int} (h : ∀ x, x ∈ f → x % q = 0) (x : Int) : pev f x = q * pev (pdiv q f) x := by
  conv => lhs; rw [pdiv_back h]
  rw [pev_map]
theorem pdiv_len (q : Int) (f : List Int) : (pdiv q f).length = f.length := by simp [pdiv]
theorem IsCont.mul {p : Int} {f g r : List Int} {c d : Nat} (hp : p ∈ primes) (hf : IsCont p f c) (hg : IsCont p g d) (hr : IsProd f g r) : IsCont p r (c + d) := by
  have p2 := primes_ge hp
  have f0 : 0 < f.length := by obtain ⟨x, hx, _⟩ := hf.one; exact List.length_pos_of_mem hx
  have g0 : 0 < g.length := by obtain ⟨x, hx, _⟩ := hg.one; exact List.length_pos_of_mem hx
  have P := pmul_prod (f := pdiv (p ^ c) f) (g := pdiv (p ^ d) g) (by rw [pdiv_len]; exact f0) (by rw [pdiv_len]; exact g0)
  have er : r = (pmul (pdiv (p ^ c) f) (pdiv (p ^ d) g)).map (p ^ (c + d) * ·) := by
    refine pev_inj ?_ fun x => ?_
    · have h1 := hr.len
      have h2 := P.len
      rw [pdiv_len, pdiv_len] at h2
      rw [List.length_map]
      ((try clear f0 g0 p2); omega)
    · rw [pev_map, P.ev, hr.ev, pdiv_ev hf.all, pdiv_ev hg.all, pow_add']
      grind
  have q0 := pow_pos (p := p) (by ((try clear er f0 g0); omega)) (c + d)
  refine ⟨fun x hx => ?_, ?_⟩
  · rw [er, List.mem_map] at hx
    obtain ⟨y, _, rfl⟩ := hx
    simp
  · refine Decidable.byContradiction fun hno => ?_
    have all : ∀ y, y ∈ pmul (pdiv (p ^ c) f) (pdiv (p ^ d) g) → y % p = 0 := fun y hy => by
      refine Decidable.byContradiction fun hy0 => hno ⟨p ^ (c + d) * y, ?_, ?_⟩
      · rw [er]
        exact List.mem_map_of_mem hy
      · rw [Int.mul_ediv_cancel_left _ (by ((try clear er f0 g0 hno hy0 p2); omega))]
        exact hy0
    rcases gauss_n hp _ _ _ _ (Nat.le_refl _) (fun x _ => P.ev x) all with z | z
    · obtain ⟨x, hx, n⟩ := hf.one
      exact n (z _ (List.mem_map_of_mem hx))
    · obtain ⟨x, hx, n⟩ := hg.one
      exact n (z _ (List.mem_map_of_mem hx))
structure IsSeen (f : List Int) (a q : Int) (s : List Int) : Prop where
  len : s.length = f.length
  ev : ∀ y, pev s y = pev f (a + q * y)
theorem IsSeen.uniq {f s s' : List Int} {a q : Int} (h : IsSeen f a q s) (h' : IsSeen f a q s') : s = s' := pev_inj (h.len.trans h'.len.symm) fun x => by rw [h.ev, h'.ev]
theorem pslope_len {f : List Int} (h : 0 < f.length) : (pslope f).length = max 1 (f.length - 1) := by
  match f, h with
  | [a], _ => rfl
  | a :: b :: f, _ =>
    show (dm 1 (b :: f)).length = _
    rw [dm_length]
    simp only [List.length_cons]
    ((try clear h); omega)
end Dr
namespace Dr
theorem pev_sub (x y : Int) : ∀ f : List Int, ∃ R, pev f x - pev f y = (x - y) * R
  | [] => ⟨0, by simp [pev]⟩
  | a :: f => by
    obtain ⟨R, e⟩ := pev_sub x y f
    refine ⟨pev f x + y * R, ?_⟩
    simp only [pev]
    grind
theorem pdv_sub (x y : Int) : ∀ f : List Int, ∃ R, pdv f x - pdv f y = (x - y) * R
  | [] => ⟨0, by simp [pdv]⟩
  | a :: f => by
    obtain ⟨R, e⟩ := pdv_sub x y f
    obtain ⟨S, e'⟩ := pev_sub x y f
    refine ⟨S + pdv f x + y * R, ?_⟩
    simp only [pdv]
    grind
theorem pev_cong {x y m : Int} (f : List Int) (h : (x - y) % m = 0) : (pev f x - pev f y) % m = 0 := by
  obtain ⟨R, e⟩ := pev_sub x y f
  rw [e]
  exact dvd_mul_r R h
theorem pdv_cong {x y m : Int} (f : List Int) (h : (x - y) % m = 0) : (pdv f x - pdv f y) % m = 0 := by
  obtain ⟨R, e⟩ := pdv_sub x y f
  rw [e]
  exact dvd_mul_r R h
structure Single (p : Int) (f : List Int) (a : Int) (d : Nat) (u : Int) : Prop where
  fac : Fac p (pdv f a) d u
  deep : pev f a % p ^ (2 * d + 1) = 0
theorem pev_step (f : List Int) (a k q : Int) : ∃ R, pev f (a + k * q) = pev f a + k * q * pdv f a + q * q * R := by
  obtain ⟨R, e⟩ := taylor a (k * q) f
  exact ⟨k * k * R, by grind⟩
theorem Fac.near {p x y u : Int} {d : Nat} (hp : 2 ≤ p) (h : Fac p x d u) (hxy : (y - x) % p ^ (d + 1) = 0) : ∃ v, Fac p y d v ∧ (v - u) % p = 0 := by
  obtain ⟨k, e⟩ := Int.dvd_of_emod_eq_zero hxy
  have e1 : y = (u + p * k) * p ^ d := by
    have := h.1
    rw [Int.pow_succ] at e
    generalize p ^ d = B at *
    grind
  refine ⟨u + p * k, ⟨e1, ?_⟩, ?_⟩
  · have := h.2
    intro z
    apply this
    rw [Int.add_mul_emod_self_left] at z
    exact z
  · rw [show u + p * k - u = p * k by ((try clear e e1 hp hxy); omega)]
    simp
theorem Single.near {p : Int} {f : List Int} {a b u : Int} {d : Nat} (hp : 2 ≤ p) (h : Single p f a d u) (hab : (b - a) % p ^ (d + 1) = 0) : ∃ v, Single p f b d v ∧ (v - u) % p = 0 := by
  obtain ⟨v, hv, e⟩ := h.fac.near hp (pdv_cong f hab)
  refine ⟨v, ⟨hv, ?_⟩, e⟩
  obtain ⟨k, ek⟩ := Int.dvd_of_emod_eq_zero hab
  obtain ⟨R, eR⟩ := pev_step f a k (p ^ (d + 1))
  have hb : b = a + k * p ^ (d + 1) := by rw [Int.mul_comm]; ((try clear e eR hab hp); omega)
  rw [hb, eR]
  have h1 := h.fac.1
  have e0 : p ^ (2 * d + 1) = p ^ (d + 1) * p ^ d := by rw [← pow_add']; congr 1; ((try clear e eR ek h1 hab hb hp); omega)
  have e1 : p ^ (d + 1) = p ^ d * p := Int.pow_succ ..
  have h2 : k * p ^ (d + 1) * pdv f a = p ^ (2 * d + 1) * (k * u) := by
    rw [h1, e0]
    generalize p ^ (d + 1) = A
    generalize p ^ d = B
    grind
  have h3 : p ^ (d + 1) * p ^ (d + 1) * R = p ^ (2 * d + 1) * (p * R) := by
    rw [e0, e1]
    generalize p ^ d = B
    grind
  rw [h2, h3]
  exact dvd_add_of (dvd_add_of h.deep (by simp)) (by simp)
structure Root (p : Int) (f : List Int) (a : Int) (d t : Nat) (r : Int) : Prop where
  lo : 0 ≤ r
  hi : r < p ^ t
  near : (r - a) % p ^ (d + 1) = 0
  deep : pev f r % p ^ (t + d) = 0
theorem Root.start {p : Int} {f : List Int} {a u : Int} {d : Nat} (hp : 2 ≤ p) (h : Single p f a d u) : Root p f a d (d + 1) (a % p ^ (d + 1)) := by
  have q0 := pow_pos hp (d + 1)
  have n := rest_sub (p ^ (d + 1)) a
  obtain ⟨v, hv, _⟩ := h.near hp n
  exact ⟨Int.emod_nonneg _ (by ((try clear hp n); omega)), Int.emod_lt_of_pos _ q0, n, by rw [show d + 1 + d = 2 * d + 1 by ((try clear hp n q0); omega)]; exact hv.deep⟩
theorem Root.step {p : Int} {f : List Int} {a u y r : Int} {d t : Nat} (hp : 2 ≤ p) (h : Single p f a d u) (hu : (u * y - 1) % p = 0) (ht : d + 1 ≤ t) (R : Root p f a d t r) :
    Root p f a d (t + 1) (r + -(pev f r / p ^ (t + d)) * y % p * p ^ t) := by
  have q0 := pow_pos hp t
  have q1 := pow_pos hp (t + d)
  obtain ⟨v, hv, hvu⟩ := h.near hp R.near
  have s0 : 0 ≤ -(pev f r / p ^ (t + d)) * y % p := Int.emod_nonneg _ (by ((try clear ht hu hvu q0 q1); omega))
  have s1 : -(pev f r / p ^ (t + d)) * y % p < p := Int.emod_lt_of_pos _ (by ((try clear ht hu hvu q0 q1 s0); omega))
  have s2 := rest_sub p (-(pev f r / p ^ (t + d)) * y)
  generalize hs : -(pev f r / p ^ (t + d)) * y % p = s at s0 s1 s2 ⊢
  have hw : pev f r = p ^ (t + d) * (pev f r / p ^ (t + d)) := by
    have := Int.mul_ediv_add_emod (pev f r) (p ^ (t + d))
    rw [R.deep] at this
    ((try clear hp hs ht hu hvu q0 q1 s0 s1 s2); omega)
  generalize pev f r / p ^ (t + d) = w at hw s2
  have m0 : 0 ≤ s * p ^ t := Int.mul_nonneg s0 (by ((try clear hp hs ht hu hvu hw q1 s0 s1 s2); omega))
  have m1 : s * p ^ t ≤ (p - 1) * p ^ t := Int.mul_le_mul_of_nonneg_right (by ((try clear hp hs ht hu hvu hw m0 q0 q1 s0 s2); omega)) (by ((try clear hp hs ht hu hvu hw m0 q1 s0 s1 s2); omega))
  refine ⟨by have := R.lo; ((try clear hp hs ht hu hvu hw m1 q0 q1 s0 s1 s2); omega), ?_, ?_, ?_⟩
  · have := R.hi
    rw [Int.pow_succ, Int.mul_comm (p ^ t) p]
    rw [Int.sub_mul, Int.one_mul] at m1
    ((try clear hp hs ht hu hvu hw m0 q0 q1 s0 s1 s2); omega)
  · rw [show r + s * p ^ t - a = (r - a) + s * p ^ t by ((try clear hp hs ht hu hvu hw m0 m1 q0 q1 s0 s1 s2); omega)]
    exact dvd_add_of R.near (dvd_mul_l s (pow_dv ht))
  · obtain ⟨T, eT⟩ := pev_step f r s (p ^ t)
    rw [eT, hw, hv.fac.1]
    have e2 : p ^ (t + d) * w + s * p ^ t * (v * p ^ d) = p ^ (t + d) * (w + s * v) := by
      rw [pow_add']
      generalize p ^ t = A
      generalize p ^ d = B
      grind
    have e3 : (w + s * v) % p = 0 := by
      obtain ⟨k1, h1⟩ := Int.dvd_of_emod_eq_zero s2
      obtain ⟨k2, h2⟩ := Int.dvd_of_emod_eq_zero hvu
      obtain ⟨k3, h3⟩ := Int.dvd_of_emod_eq_zero hu
      have : w + s * v = p * (-w * k3 + k1 * v - w * y * k2) := by grind
      rw [this]
      simp
    obtain ⟨k, ek⟩ := Int.dvd_of_emod_eq_zero e3
    have e4 : p ^ t * p ^ t * T = p ^ (t + 1 + d) * (p ^ (t - d - 1) * T) := by
      have : p ^ t = p ^ (d + 1) * p ^ (t - d - 1) := by rw [← pow_add']; congr 1; ((try clear e2 e3 eT ek hp hs hu hvu hw m0 m1 q0 q1 s0 s1 s2); omega)
      have h5 : p ^ t * p ^ t = p ^ (t + 1 + d) * p ^ (t - d - 1) := by
        rw [show t + 1 + d = t + (d + 1) by ((try clear e2 e3 eT ek hp hs ht hu hvu hw m0 m1 q0 q1 s0 s1 s2 this); omega), pow_add' p t (d + 1), Int.mul_assoc, ← this]
      rw [h5, Int.mul_assoc]
    rw [e2, ek, e4]
    have e5 : p ^ (t + d) * (p * k) = p ^ (t + 1 + d) * k := by
      rw [show t + 1 + d = t + d + 1 by ((try clear e2 e3 e4 eT ek hp hs ht hu hvu hw m0 m1 q0 q1 s0 s1 s2); omega), Int.pow_succ, Int.mul_assoc]
    rw [e5]
    exact dvd_add_of (by simp) (by simp)
end Dr
namespace Dr
noncomputable def pdl : List Int → List Int
  | [] => []
  | _ :: f => match f with
    | [] => []
    | _ => padd f (padd (pdl f) (0 :: pdl f))
noncomputable def pq (r : Int) : List Int → List Int
  | [] => []
  | _ :: f => padd f ((pq r f).map (r * ·))
theorem pq_ev (r x : Int) : ∀ f : List Int, pev f x = pev f r + (x - r) * pev (pq r f) x
  | [] => by simp [pev, pq]
  | a :: f => by
    have ih := pq_ev r x f
    simp only [pev, pq, padd_ev, pev_map]
    grind
theorem pq_len (r : Int) : ∀ f : List Int, (pq r f).length = f.length - 1
  | [] => rfl
  | a :: f => by
    have := pq_len r f
    simp only [pq, padd_len, List.length_map, List.length_cons]
    omega
theorem pq_swap (r s : Int) (hrs : r ≠ s) (f : List Int) : pq s (pq r f) = pq r (pq s f) := by
  refine pev_inj_from _ _ ((r.natAbs : Int) + (s.natAbs : Int) + 1) (by simp only [pq_len]) fun x hx => ?_
  have e1 := pq_ev r x f
  have e2 := pq_ev s x (pq r f)
  have e3 := pq_ev s x f
  have e4 := pq_ev r x (pq s f)
  have e5 := pq_ev r s f
  have e6 := pq_ev s r f
  have d : pev (pq r f) s = pev (pq s f) r := by
    refine Int.eq_of_mul_eq_mul_left (show s - r ≠ 0 by ((try clear e1 e2 e3 e4 e5 e6 hx); omega)) ?_
    grind
  have x1 : x - r ≠ 0 := by ((try clear d e1 e2 e3 e4 e5 e6 hrs); omega)
  have x2 : x - s ≠ 0 := by ((try clear d e1 e2 e3 e4 e5 e6 hrs); omega)
  refine Int.eq_of_mul_eq_mul_left x1 (Int.eq_of_mul_eq_mul_left x2 ?_)
  grind
noncomputable def Van (p : Int) : List Int → Int → Nat → Prop
  | _, _, 0 => True
  | f, r, k + 1 => pev f r % p = 0 ∧ Van p (pq r f) r k
noncomputable def DegP (p : Int) (f : List Int) (m : Nat) : Prop := f.getD m 0 % p ≠ 0 ∧ ∀ j, m < j → f.getD j 0 % p = 0
theorem padd_getD : ∀ (f g : List Int) (j : Nat), (padd f g).getD j 0 = f.getD j 0 + g.getD j 0
  | [], g, j => by simp [padd]
  | a :: f, [], j => by simp [padd]
  | a :: f, b :: g, 0 => by simp [padd]
  | a :: f, b :: g, j + 1 => by
    have := padd_getD f g j
    simpa [padd] using this
theorem map_getD (k : Int) (f : List Int) (j : Nat) : (f.map (k * ·)).getD j 0 = k * f.getD j 0 := by
  rw [List.getD_eq_getElem?_getD, List.getD_eq_getElem?_getD, List.getElem?_map]
  cases f[j]? <;> simp
theorem pq_get (r : Int) : ∀ (f : List Int) (j : Nat), (pq r f).getD j 0 = f.getD (j + 1) 0 + r * (pq r f).getD (j + 1) 0
  | [], j => by simp [pq]
  | [a], j => by simp [pq, padd]
  | a :: b :: f, j => by
    have ih := pq_get r (b :: f) j
    have h1 : ∀ i, (pq r (a :: b :: f)).getD i 0 = (b :: f).getD i 0 + r * (pq r (b :: f)).getD i 0 := fun i => by
      rw [pq, padd_getD, map_getD]
    rw [h1 j, h1 (j + 1)]
    have e : (a :: b :: f).getD (j + 1) 0 = (b :: f).getD j 0 := by simp
    rw [e, ih]
theorem DegP.pq {p r : Int} {f : List Int} {m : Nat} (h : DegP p f (m + 1)) : DegP p (pq r f) m := by
  have dn : ∀ (k j : Nat), f.length ≤ j + k → m < j → (Dr.pq r f).getD j 0 % p = 0 := by
    intro k
    induction k with
    | zero =>
      intro j hj hm
      rw [List.getD_eq_getElem?_getD, List.getElem?_eq_none (by rw [pq_len]; ((try clear hm); omega))]
      simp
    | succ k ih =>
      intro j hj hm
      rw [pq_get]
      exact dvd_add_of (h.2 (j + 1) (by ((try clear hj); omega))) (dvd_mul_l r (ih (j + 1) (by ((try clear hm); omega)) (by ((try clear hj); omega))))
  refine ⟨fun z => h.1 ?_, fun j hj => dn f.length j (by omega) hj⟩
  rw [pq_get] at z
  have := dvd_sub_of z (dvd_mul_l r (dn f.length (m + 1) (by ((try clear z); omega)) (by ((try clear z); omega))))
  rwa [Int.add_sub_cancel] at this
theorem DegP.zero {p r : Int} {f : List Int} (h : DegP p f 0) : pev f r % p ≠ 0 := by
  intro z
  apply h.1
  have : ∀ (g : List Int), (∀ j, 0 < j → g.getD j 0 % p = 0) → (pev g r - g.getD 0 0) % p = 0 := by
    intro g
    induction g with
    | nil => intro _; simp [pev]
    | cons a g ih =>
      intro hg
      have hg' : ∀ j, g.getD j 0 % p = 0 := fun j => by
        have := hg (j + 1) (by ((try clear z); omega))
        simpa using this
      have h1 := ih fun j _ => hg' j
      have h2 : pev g r % p = 0 := by
        have := dvd_add_of h1 (hg' 0)
        rwa [Int.sub_add_cancel] at this
      have e : pev (a :: g) r - (a :: g).getD 0 0 = r * pev g r := by
        simp only [pev]
        simp
        ((try clear h1 h2 z); omega)
      rw [e]
      exact dvd_mul_l r h2
  have h1 := this f h.2
  have h2 := dvd_sub_of z h1
  rwa [show pev f r - (pev f r - f.getD 0 0) = f.getD 0 0 by ((try clear h1 h2 z); omega)] at h2
theorem Van.other {p r s : Int} (hp : p ∈ primes) (hrs : (s - r) % p ≠ 0) : ∀ (k : Nat) (f : List Int), pev f r % p = 0 → Van p f s k → Van p (pq r f) s k
  | 0, _, _, _ => trivial
  | k + 1, f, hr, hv => by
    obtain ⟨h1, h2⟩ := hv
    have ne : r ≠ s := fun z => hrs (by rw [z]; simp)
    have e := pq_ev r s f
    have h3 : (s - r) * pev (pq r f) s % p = 0 := by
      have := dvd_sub_of h1 hr
      rwa [show pev f s - pev f r = (s - r) * pev (pq r f) s by ((try clear h1 hr hrs ne this); omega)] at this
    have h4 := euclid hp h3 hrs
    refine ⟨h4, ?_⟩
    rw [pq_swap r s ne]
    refine Van.other hp hrs k (pq s f) ?_ h2
    have e2 := pq_ev s r f
    have d : pev (pq r f) s = pev (pq s f) r := by
      refine Int.eq_of_mul_eq_mul_left (show s - r ≠ 0 by ((try clear e e2 h1 h3 h4 hr hrs); omega)) ?_
      grind
    rw [← d]
    exact h4
noncomputable def total (L : List (Int × Nat)) : Nat := (L.map (·.2)).sum
theorem noughts {p : Int} (hp : p ∈ primes) : ∀ (m : Nat) (f : List Int) (L : List (Int × Nat)), DegP p f m → (L.map (·.1)).Pairwise (fun r s => (s - r) % p ≠ 0) → (∀ rk, rk ∈ L → Van p f rk.1 rk.2) → total L ≤ m
  | m, f, [], _, _, _ => by simp [total]
  | m, f, (r, 0) :: L, hd, hpw, hv => by
    have := noughts hp m f L hd (List.Pairwise.of_cons (by simpa using hpw)) fun rk h => hv rk (List.mem_cons_of_mem _ h)
    simpa [total] using this
  | 0, f, (r, k + 1) :: L, hd, _, hv => absurd (hv _ (List.mem_cons_self ..)).1 hd.zero
  | m + 1, f, (r, k + 1) :: L, hd, hpw, hv => by
    have v0 := hv _ (List.mem_cons_self ..)
    have hpw' : (∀ s, s ∈ L.map (·.1) → (s - r) % p ≠ 0) ∧ (L.map (·.1)).Pairwise (fun r s => (s - r) % p ≠ 0) := by
      have := List.pairwise_cons.mp (show (r :: L.map (·.1)).Pairwise (fun r s => (s - r) % p ≠ 0) by simpa using hpw)
      exact this
    have := noughts hp m (pq r f) ((r, k) :: L) hd.pq (by simpa using hpw) fun rk h => by
      rcases List.mem_cons.mp h with z | z
      · rw [z]
        exact v0.2
      · exact Van.other hp (hpw'.1 _ (List.mem_map_of_mem z)) _ _ v0.1 (hv rk (List.mem_cons_of_mem _ z))
    simp only [total, List.map_cons, List.sum_cons] at this ⊢
    ((try clear hpw'); omega)
termination_by m _ L => (m, L.length)
end Dr
namespace Dr
noncomputable def InB (p x : Int) (b : Int × Nat) : Prop := (x - b.1) % p ^ b.2 = 0
noncomputable def Disj (p : Int) (b c : Int × Nat) : Prop := ∀ x, InB p x b → ¬ InB p x c
structure Tree (p a : Int) (e : Nat) (Sol : Int → Prop) (bs : List (Int × Nat)) : Prop where
  ok : ∀ b, b ∈ bs → e ≤ b.2 ∧ 0 ≤ b.1 ∧ b.1 < p ^ b.2 ∧ (b.1 - a) % p ^ e = 0
  sound : ∀ b, b ∈ bs → ∀ x, InB p x b → Sol x
  full : ∀ x, (x - a) % p ^ e = 0 → Sol x → ∃ b, b ∈ bs ∧ InB p x b
  disj : bs.Pairwise (Disj p)
  max : ∀ b, b ∈ bs → b.2 = e ∨ ∃ x, (x - b.1) % p ^ (b.2 - 1) = 0 ∧ ¬ Sol x
structure Part (p a : Int) (e : Nat) (Sol : Int → Prop) (rs : List Int) (bs : List (Int × Nat)) : Prop where
  ok : ∀ b, b ∈ bs → e + 1 ≤ b.2 ∧ 0 ≤ b.1 ∧ b.1 < p ^ b.2 ∧ ∃ r, r ∈ rs ∧ (b.1 - (a + r * p ^ e)) % p ^ (e + 1) = 0
  sound : ∀ b, b ∈ bs → ∀ x, InB p x b → Sol x
  full : ∀ x r, r ∈ rs → (x - (a + r * p ^ e)) % p ^ (e + 1) = 0 → Sol x → ∃ b, b ∈ bs ∧ InB p x b
  disj : bs.Pairwise (Disj p)
  max : ∀ b, b ∈ bs → ∃ x, (x - b.1) % p ^ (b.2 - 1) = 0 ∧ ¬ Sol x
theorem rest_one {p r s : Int} (hr : 0 ≤ r ∧ r < p) (hs : 0 ≤ s ∧ s < p) (h : (r - s) % p = 0) : r = s := by
  obtain ⟨k, e⟩ := Int.dvd_of_emod_eq_zero h
  have : k = 0 := by
    refine Decidable.byContradiction fun z => ?_
    rcases Int.lt_or_gt_of_ne z with z | z
    · have : p * k ≤ p * -1 := Int.mul_le_mul_of_nonneg_left (by ((try clear e h hr hs); omega)) (by ((try clear h hs z); omega))
      ((try clear h z); omega)
    · have : p * 1 ≤ p * k := Int.mul_le_mul_of_nonneg_left (by ((try clear e h hr hs); omega)) (by ((try clear h hs z); omega))
      ((try clear h z); omega)
  rw [this] at e
  ((try clear h hr hs this); omega)
end Dr
namespace Dr
noncomputable def tay (r : Int) : Nat → List Int → List Int
  | 0, _ => []
  | n + 1, f => pev f r :: tay r n (pq r f)
theorem tay_ev (r y : Int) : ∀ (n : Nat) (f : List Int), f.length ≤ n → pev (tay r n f) y = pev f (r + y)
  | 0, f, h => by
    have : f = [] := List.eq_nil_of_length_eq_zero (by omega)
    rw [this]
    simp [tay, pev]
  | n + 1, f, h => by
    have ih := tay_ev r y n (pq r f) (by rw [pq_len]; omega)
    have e := pq_ev r (r + y) f
    simp only [tay, pev, ih]
    rw [e]
    grind
theorem tay_len (r : Int) : ∀ (n : Nat) (f : List Int), (tay r n f).length = n
  | 0, _ => rfl
  | n + 1, f => by simp [tay, tay_len r n]
theorem tay_van {p r : Int} : ∀ (k n : Nat) (f : List Int), k ≤ n → (∀ j, j < k → (tay r n f).getD j 0 % p = 0) → Van p f r k
  | 0, _, _, _, _ => trivial
  | k + 1, 0, _, h, _ => absurd h (by omega)
  | k + 1, n + 1, f, h, hj => by
    refine ⟨?_, tay_van k n (pq r f) (by omega) fun j hj' => ?_⟩
    · have := hj 0 (by ((try clear h); omega))
      simpa [tay] using this
    · have := hj (j + 1) (by ((try clear h); omega))
      simpa [tay] using this
noncomputable def scl (q : Int) : Int → List Int → List Int
  | _, [] => []
  | k, a :: f => k * a :: scl q (k * q) f
theorem scl_len (q : Int) : ∀ (f : List Int) (k : Int), (scl q k f).length = f.length
  | [], _ => rfl
  | a :: f, k => by simp [scl, scl_len q f]
theorem scl_ev (q y : Int) : ∀ (f : List Int) (k : Int), pev (scl q k f) y = k * pev f (q * y)
  | [], _ => by simp [scl, pev]
  | a :: f, k => by
    have ih := scl_ev q y f (k * q)
    simp only [scl, pev, ih]
    grind
theorem scl_get (q : Int) : ∀ (f : List Int) (k : Int) (j : Nat), (scl q k f).getD j 0 = k * q ^ j * f.getD j 0
  | [], _, j => by simp [scl]
  | a :: f, k, 0 => by simp [scl]
  | a :: f, k, j + 1 => by
    have ih := scl_get q f (k * q) j
    simp only [scl, List.getD_cons_succ, ih, Int.pow_succ]
    generalize q ^ j = A
    generalize f.getD j 0 = B
    grind
theorem seen_get {f s : List Int} {r q : Int} (h : IsSeen f r q s) (j : Nat) : s.getD j 0 = q ^ j * (tay r f.length f).getD j 0 := by
  have e : s = scl q 1 (tay r f.length f) := by
    refine pev_inj (by rw [scl_len, tay_len]; exact h.len) fun y => ?_
    rw [h.ev, scl_ev, tay_ev r _ _ _ (Nat.le_refl _), Int.one_mul]
  rw [e, scl_get, Int.one_mul]
theorem pdiv_get {p : Int} {g : List Int} {c : Nat} (h : ∀ x, x ∈ g → x % p ^ c = 0) (j : Nat) : g.getD j 0 = p ^ c * (pdiv (p ^ c) g).getD j 0 := by
  have e := pdiv_back h
  conv => lhs; rw [e]
  rw [map_getD]
theorem seen_van {p r : Int} {f s : List Int} {c m : Nat} (hp : 2 ≤ p) (h : IsSeen f r p s) (hc : IsCont p s c) (hm : DegP p (pdiv (p ^ c) s) m) : Van p f r m := by
  have hml : m < f.length := by
    refine Nat.lt_of_not_le fun z => hm.1 ?_
    rw [List.getD_eq_getElem?_getD, List.getElem?_eq_none (by rw [pdiv_len]; rw [h.len]; exact z)]
    simp
  have g : ∀ j, p ^ c * (pdiv (p ^ c) s).getD j 0 = p ^ j * (tay r f.length f).getD j 0 := fun j => by
    rw [← pdiv_get hc.1, seen_get h]
  have hcm : m ≤ c := by
    refine fac_le (p := p) (u := (pdiv (p ^ c) s).getD m 0) (v := (tay r f.length f).getD m 0) hp ?_ hm.1
    have := g m
    rw [Int.mul_comm, this, Int.mul_comm]
  refine tay_van m f.length f (by ((try clear hcm hp); omega)) fun j hj => ?_
  have e := g j
  obtain ⟨d, rfl⟩ : ∃ d, c = j + (d + 1) := ⟨c - j - 1, by ((try clear e hml hp); omega)⟩
  rw [pow_add', Int.mul_assoc] at e
  have q0 := pow_pos hp j
  have e2 := Int.eq_of_mul_eq_mul_left (show p ^ j ≠ 0 by ((try clear e hcm hj hml hp); omega)) e
  rw [← e2, Int.pow_succ, Int.mul_assoc]
  exact dvd_mul_l _ (by simp)
theorem degP_ex {p : Int} : ∀ (g : List Int), (∃ x, x ∈ g ∧ x % p ≠ 0) → ∃ m, m < g.length ∧ DegP p g m
  | [], h => by obtain ⟨x, hx, _⟩ := h; cases hx
  | a :: g, h => by
    by_cases w : ∃ x, x ∈ g ∧ x % p ≠ 0
    · obtain ⟨m, hm, h1, h2⟩ := degP_ex g w
      refine ⟨m + 1, by simp; ((try clear h1); omega), by simpa using h1, fun j hj => ?_⟩
      cases j with
      | zero => ((try clear h1 hm); omega)
      | succ j => simpa using h2 j (by ((try clear h1 hm); omega))
    · obtain ⟨x, hx, hn⟩ := h
      have hx' : x = a := by
        rcases List.mem_cons.mp hx with z | z
        · exact z
        · exact absurd ⟨x, z, hn⟩ w
      subst hx'
      refine ⟨0, by simp, by simpa using hn, fun j hj => ?_⟩
      cases j with
      | zero => ((try clear hn w); omega)
      | succ j =>
        simp only [List.getD_cons_succ]
        rw [List.getD_eq_getElem?_getD]
        cases e : g[j]? with
        | none => simp
        | some y => exact Decidable.byContradiction fun z => w ⟨y, List.mem_of_getElem? e, z⟩
theorem cont_free {p : Int} {g : List Int} {c : Nat} (hc : IsCont p g c) : ∃ x, x ∈ pdiv (p ^ c) g ∧ x % p ≠ 0 := by
  obtain ⟨x, hx, hn⟩ := hc.2
  exact ⟨x / p ^ c, List.mem_map_of_mem hx, hn⟩
noncomputable def Cnt (p : Int) (g : List Int) (k : Nat) : Prop := (∀ c m, IsCont p g c → DegP p (pdiv (p ^ c) g) m → k ≤ max 1 m) ∧ k ≤ max 1 g.length
noncomputable def Got (p : Int) (f : List Int) (rs : List Int) (k : Nat) : Prop := ∃ L : List (Int × Nat), L.map (·.1) = rs ∧ k ≤ total L ∧ ∀ rk, rk ∈ L → Van p f rk.1 rk.2
noncomputable def Lt2 (b c : Int × Nat) : Prop := b.1 < c.1 ∨ (b.1 = c.1 ∧ b.2 < c.2)
structure Solve (p : Int) (Sol : Int → Prop) (bs : List (Int × Nat)) : Prop where
  tree : Tree p 0 0 Sol bs
  inc : bs.Pairwise Lt2
end Dr
namespace Dr
noncomputable def l1 : List Int → Nat
  | [] => 0
  | a :: f => a.natAbs + l1 f
theorem l1_padd : ∀ f g : List Int, l1 (padd f g) ≤ l1 f + l1 g
  | [], g => by simp [padd, l1]
  | a :: f, [] => by simp [padd, l1]
  | a :: f, b :: g => by
    have := l1_padd f g
    simp only [padd, l1]
    omega
theorem l1_map (k : Int) : ∀ f : List Int, l1 (f.map (k * ·)) = k.natAbs * l1 f
  | [] => by simp [l1]
  | a :: f => by
    have := l1_map k f
    simp only [List.map_cons, l1, this, Int.natAbs_mul]
    rw [Nat.mul_add]
theorem l1_mem : ∀ {f : List Int} {c : Int}, c ∈ f → c.natAbs ≤ l1 f
  | a :: f, c, h => by
    rcases List.mem_cons.mp h with z | z
    · rw [z]; simp only [l1]; ((try clear z); omega)
    · have := l1_mem z
      simp only [l1]
      omega
noncomputable def sn (r q : Int) : List Int → List Int
  | [] => []
  | a :: f => padd [a] (padd ((sn r q f).map (r * ·)) (0 :: (sn r q f).map (q * ·)))
theorem sn_len (r q : Int) : ∀ f : List Int, (sn r q f).length = f.length
  | [] => rfl
  | a :: f => by
    have := sn_len r q f
    simp only [sn, padd_len, List.length_map, List.length_cons, List.length_nil, this]
    omega
theorem sn_ev (r q y : Int) : ∀ f : List Int, pev (sn r q f) y = pev f (r + q * y)
  | [] => by simp [sn, pev]
  | a :: f => by
    have := sn_ev r q y f
    simp only [sn, padd_ev, pev, pev_map, this]
    grind
theorem sn_l1 {r q : Int} {m : Nat} : ∀ {f : List Int}, PolyB f m → l1 (sn r q f) < 2 ^ m * (r.natAbs + q.natAbs + 1) ^ f.length
  | [], _ => by
    simp only [sn, l1, List.length_nil, Nat.pow_zero, Nat.mul_one]
    exact Nat.pow_pos (by decide)
  | a :: f, h => by
    have ih := sn_l1 (r := r) (q := q) (f := f) fun c hc => h c (List.mem_cons_of_mem _ hc)
    have ha : a.natAbs < 2 ^ m := h a (List.mem_cons_self ..)
    have h1 := l1_padd [a] (padd ((sn r q f).map (r * ·)) (0 :: (sn r q f).map (q * ·)))
    have h2 := l1_padd ((sn r q f).map (r * ·)) (0 :: (sn r q f).map (q * ·))
    simp only [l1, l1_map, Int.natAbs_zero, Nat.zero_add, Nat.add_zero] at h1 h2
    have h3 : 0 < (r.natAbs + q.natAbs + 1) ^ f.length := Nat.pow_pos (by ((try clear h1 h2 ha ih); omega))
    simp only [sn, List.length_cons, Nat.pow_succ]
    generalize (r.natAbs + q.natAbs + 1) ^ f.length = B at ih h3 ⊢
    generalize l1 (sn r q f) = L at ih h1 h2 ⊢
    have e : 2 ^ m * (B * (r.natAbs + q.natAbs + 1)) = (r.natAbs + q.natAbs) * (2 ^ m * B) + 2 ^ m * B := by
      rw [← Nat.mul_assoc, Nat.mul_add, Nat.mul_one, Nat.mul_comm (2 ^ m * B)]
    rw [e]
    have h4 : (r.natAbs + q.natAbs) * L ≤ (r.natAbs + q.natAbs) * (2 ^ m * B) := Nat.mul_le_mul_left _ (Nat.le_of_lt ih)
    have h5 : 2 ^ m ≤ 2 ^ m * B := Nat.le_mul_of_pos_right _ h3
    rw [Nat.add_mul] at h4
    ((try clear h3 ih); omega)
theorem seen_bits {f s : List Int} {r q : Int} {m : Nat} (h : IsSeen f r q s) (hr : 0 ≤ r ∧ r < 100) (hq : 0 ≤ q ∧ q < 100) (hb : PolyB f m) : PolyB s (m + 8 * f.length) := by
  have e : s = sn r q f := pev_inj (by rw [sn_len]; exact h.len) fun y => by rw [h.ev, sn_ev]
  intro c hc
  rw [e] at hc
  have h1 := l1_mem hc
  have h2 := sn_l1 (r := r) (q := q) hb
  unfold Sm
  rw [Nat.pow_add, Nat.pow_mul]
  refine Nat.lt_of_le_of_lt h1 (Nat.lt_of_lt_of_le h2 (Nat.mul_le_mul_left _ (Nat.pow_le_pow_left (by ((try clear e h1 h2); omega)) _)))
theorem pdiv_bits {f : List Int} {q : Int} {m : Nat} (hq : 0 < q) (hf : ∀ x, x ∈ f → x % q = 0) (hb : PolyB f m) : PolyB (pdiv q f) m := by
  intro c hc
  obtain ⟨x, hx, rfl⟩ := List.mem_map.mp hc
  have e := Int.mul_ediv_add_emod x q
  rw [hf x hx, Int.add_zero] at e
  have h1 := hb x hx
  unfold Sm at *
  have h2 : x.natAbs = q.natAbs * (x / q).natAbs := by rw [← Int.natAbs_mul, e]
  have h3 : 1 * (x / q).natAbs ≤ q.natAbs * (x / q).natAbs := Nat.mul_le_mul_right _ (by ((try clear e h1 h2); omega))
  ((try clear e hq); omega)
theorem mul_pow_dv {p x : Int} {c N : Nat} (hp : 2 ≤ p) (hcN : c ≤ N) : (p ^ c * x) % p ^ N = 0 ↔ x % p ^ (N - c) = 0 := by
  obtain ⟨d, rfl⟩ : ∃ d, N = c + d := ⟨N - c, by ((try clear hp); omega)⟩
  rw [Nat.add_sub_cancel_left, pow_add']
  have q0 := pow_pos hp c
  constructor
  · intro h
    obtain ⟨k, e⟩ := Int.dvd_of_emod_eq_zero h
    rw [Int.mul_assoc] at e
    rw [Int.eq_of_mul_eq_mul_left (by ((try clear e h hcN hp); omega)) e]
    simp
  · intro h
    obtain ⟨k, e⟩ := Int.dvd_of_emod_eq_zero h
    rw [e, ← Int.mul_assoc]
    simp
structure Step (p a : Int) (e N c : Nat) (Sol : Int → Prop) (g : List Int) : Prop where
  cN : c < N
  non : ∃ x, (x - a) % p ^ e = 0 ∧ ¬ Sol x
  link : ∀ y, Sol (a + p ^ e * y) ↔ pev (pdiv (p ^ c) g) y % p ^ (N - c) = 0
theorem ball_next {p a r : Int} {e : Nat} (hp : 2 ≤ p) (ha : 0 ≤ a ∧ a < p ^ e) (hr : 0 ≤ r ∧ r < p) : 0 ≤ a + r * p ^ e ∧ a + r * p ^ e < p ^ (e + 1) := by
  have q0 := pow_pos hp e
  rw [Int.pow_succ]
  generalize p ^ e = A at *
  have h1 : 0 ≤ r * A := Int.mul_nonneg hr.1 (by ((try clear ha hp hr); omega))
  have h2 : (r + 1) * A ≤ p * A := Int.mul_le_mul_of_nonneg_right (by ((try clear h1 ha hp q0); omega)) (by ((try clear h1 ha hp hr); omega))
  rw [Int.add_mul, Int.one_mul] at h2
  rw [Int.mul_comm A p]
  ((try clear hp hr q0); omega)
theorem rests_apart {p : Int} {n : Nat} (q : Int → Bool) (hn : (n : Int) ≤ p) : (((List.range n).map fun k : Nat => (k : Int)).filter q).Pairwise (fun r s => (s - r) % p ≠ 0) := by
  refine List.Pairwise.filter q ?_
  rw [List.pairwise_map]
  refine (List.pairwise_lt_range (n := n)).imp_of_mem fun {i j} hi hj hij => ?_
  have h1 := List.mem_range.mp hi
  have h2 := List.mem_range.mp hj
  rw [Int.emod_eq_of_lt (by ((try clear h1 h2 hn); omega)) (by ((try clear h1 hij); omega))]
  ((try clear h1 h2 hn); omega)
end Dr
namespace Dr
instance (p x : Int) (b : Int × Nat) : Decidable (InB p x b) := inferInstanceAs (Decidable ((x - b.1) % p ^ b.2 = 0))
noncomputable def cntP (P : Int → Bool) : Nat → Nat
  | 0 => 0
  | n + 1 => cntP P n + (if P (n : Int) = true then 1 else 0)
noncomputable def massOf (p : Int) (M : Nat) (bs : List (Int × Nat)) : Nat := (bs.map fun b => p.toNat ^ (M - b.2)).sum
noncomputable def inAny (p : Int) (bs : List (Int × Nat)) (x : Int) : Bool := bs.any fun b => decide (InB p x b)
noncomputable def Within (p : Int) (d b : Int × Nat) : Prop := b.2 ≤ d.2 ∧ (d.1 - b.1) % p ^ b.2 = 0
instance (p : Int) (d b : Int × Nat) : Decidable (Within p d b) := inferInstanceAs (Decidable (_ ∧ _))
end Dr
namespace Dr
end Dr
namespace Dr
noncomputable def shB (p s : Int) (b : Int × Nat) : Int × Nat := ((b.1 - s) % p ^ b.2, b.2)
theorem unit_dv {p u w : Int} (hp : p ∈ primes) (hu : u % p ≠ 0) (N : Nat) : (u * w) % p ^ N = 0 ↔ w % p ^ N = 0 := by
  have p2 := (primes_ge hp).1
  constructor
  · intro h
    by_cases z : w = 0
    · rw [z]; simp
    · obtain ⟨d, v, hf⟩ := fac p2 z
      have hu' : Fac p u 0 u := ⟨by simp, hu⟩
      have hm := hu'.mul hp hf
      rw [Nat.zero_add] at hm
      exact (hf.dvd p2 N).mpr ((hm.dvd p2 N).mp h)
  · intro h
    exact dvd_mul_l _ h
end Dr
namespace Dr
noncomputable def Deep (p : Int) : Nat → List Int → Prop
  | 0, _ => True
  | n + 1, s => ∃ (c : Nat) (r : Int) (t : List Int), IsCont p s c ∧ (0 ≤ r ∧ r < p) ∧ pev (pdiv (p ^ c) s) r % p = 0 ∧ pdv (pdiv (p ^ c) s) r % p = 0 ∧ IsSeen (pdiv (p ^ c) s) r p t ∧ Deep p n t
structure RootAt (p : Int) (g : List Int) (r : Int) (M : Nat) (x : Int) : Prop where
  lo : 0 ≤ x
  hi : x < p ^ M
  near : M = 0 ∨ (x - r) % p = 0
  deep : pev g x % p ^ M = 0
inductive FL (p : Int) (N : Nat) (rec : Int → Nat → List Int → List Int → Prop) (a : Int) (e : Nat) (g : List Int) : List Int → List Int → Prop
  | nil : FL p N rec a e g [] []
  | knot {rs L L1 t : List Int} {r : Int} : FL p N rec a e g rs L → pdv g r % p = 0 → IsSeen g r p t → rec (a + r * p ^ e) (e + 1) t L1 → FL p N rec a e g (rs ++ [r]) (L ++ L1)
  | leaf {rs L : List Int} {r x : Int} : FL p N rec a e g rs L → pdv g r % p ≠ 0 → RootAt p g r (N - e) x → FL p N rec a e g (rs ++ [r]) (L ++ [(a + p ^ e * x) % p ^ N])
noncomputable def restsP (p : Int) (g : List Int) : List Int := ((List.range p.toNat).map fun k : Nat => (k : Int)).filter fun r => decide (pev g r % p = 0)
theorem restsP_mem {p r : Int} {g : List Int} (hp : 0 ≤ p) : r ∈ restsP p g ↔ (0 ≤ r ∧ r < p) ∧ pev g r % p = 0 := by
  unfold restsP
  rw [List.mem_filter, List.mem_map, decide_eq_true_eq]
  constructor
  · rintro ⟨⟨k, hk, rfl⟩, h⟩
    have := List.mem_range.mp hk
    exact ⟨by ((try clear h hp); omega), h⟩
  · rintro ⟨h1, h2⟩
    exact ⟨⟨r.toNat, List.mem_range.mpr (by ((try clear h2); omega)), by ((try clear h2 hp); omega)⟩, h2⟩
noncomputable def Found (p : Int) (N : Nat) : Nat → Int → Nat → List Int → List Int → Prop
  | 0, _, _, _, _ => False
  | n + 1, a, e, s, L => ∃ c : Nat, IsCont p s c ∧ FL p N (Found p N n) a e (pdiv (p ^ c) s) (restsP p (pdiv (p ^ c) s)) L
noncomputable def lin (w : Int × Int) : List Int := [-w.1, w.2]
theorem lin_ev (w : Int × Int) (y : Int) : pev (lin w) y = w.2 * y - w.1 := by
  simp only [lin, pev]
  grind
theorem lin_dv (w : Int × Int) (y : Int) : pdv (lin w) y = w.2 := by
  simp [lin, pdv, pev]
noncomputable def PL (F : List Int) : List (Int × Int) → List Int
  | [] => F
  | w :: W => pmul (lin w) (PL F W)
theorem PL_len {F : List Int} (hF : 0 < F.length) : ∀ W : List (Int × Int), (PL F W).length = F.length + W.length
  | [] => rfl
  | w :: W => by
    have ih := PL_len hF W
    have := pmul_len (PL F W) (by omega) (lin w) (by simp [lin])
    simp only [lin, List.length_cons, List.length_nil] at this
    simp only [PL, lin, List.length_cons]
    ((try clear hF); omega)
theorem PL_ev (F : List Int) (y : Int) (w : Int × Int) (W : List (Int × Int)) : pev (PL F (w :: W)) y = (w.2 * y - w.1) * pev (PL F W) y := by
  rw [PL, pmul_ev, lin_ev]
theorem PL_dv (F : List Int) (y : Int) (w : Int × Int) (W : List (Int × Int)) : pdv (PL F (w :: W)) y = w.2 * pev (PL F W) y + (w.2 * y - w.1) * pdv (PL F W) y := by
  rw [PL, pdv_mul (fun x => pmul_ev x (PL F W) (lin w)), lin_ev, lin_dv]
noncomputable def Un (p : Int) (F : List Int) : Prop := 0 < F.length ∧ ∀ y, pev F y % p ≠ 0
theorem pev_mod0 {p : Int} : ∀ {F : List Int} {y : Int}, (∀ x, x ∈ F → x % p = 0) → pev F y % p = 0
  | [], y, _ => by simp [pev]
  | a :: F, y, h => by
    simp only [pev]
    exact dvd_add_of (h a (List.mem_cons_self ..)) (dvd_mul_l y (pev_mod0 fun x hx => h x (List.mem_cons_of_mem _ hx)))
theorem Un.cont {p : Int} {F : List Int} (h : Un p F) : IsCont p F 0 := by
  refine ⟨fun x _ => by simp, Decidable.byContradiction fun z => h.2 0 (pev_mod0 fun x hx => Decidable.byContradiction fun w => z ⟨x, hx, by simpa using w⟩)⟩
theorem Un.mul {p : Int} {F G R : List Int} (hp : p ∈ primes) (hF : Un p F) (hG : ∀ y, pev G y % p ≠ 0) (hl : 0 < R.length) (hR : ∀ y, pev R y = pev G y * pev F y) : Un p R := ⟨hl, fun y z => hF.2 y (euclid hp (by rw [← hR]; exact z) (hG y))⟩
theorem PL_cont {p : Int} {F : List Int} (hp : p ∈ primes) (hF : Un p F) : ∀ {W : List (Int × Int)}, (∀ w, w ∈ W → w.2 % p ≠ 0) → IsCont p (PL F W) 0
  | [], _ => hF.cont
  | w :: W, h => by
    have ih := PL_cont hp hF fun v hv => h v (List.mem_cons_of_mem _ hv)
    have l : IsCont p (lin w) 0 := ⟨fun x _ => by simp, w.2, by simp [lin], by simpa using h w (List.mem_cons_self ..)⟩
    have := l.mul hp ih (pmul_prod (by simp [lin]) (by rw [PL_len hF.1]; have := hF.1; omega))
    exact this
theorem PL_scale (k : Int) {F : List Int} (hF : 0 < F.length) : ∀ W : List (Int × Int), (PL F W).map (k * ·) = PL (F.map (k * ·)) W
  | [] => rfl
  | w :: W => by
    refine pev_inj ?_ fun x => ?_
    · rw [List.length_map, PL_len hF, PL_len (by rw [List.length_map]; exact hF), List.length_map]
    · rw [pev_map, PL_ev, PL_ev, ← PL_scale k hF W, pev_map]
      grind
structure Fct (p : Int) (s : List Int) (W : List (Int × Int)) : Prop where
  ex : ∃ (K : Int) (F : List Int), K ≠ 0 ∧ Un p F ∧ s = (PL F W).map (K * ·)
  un : ∀ w, w ∈ W → w.2 % p ≠ 0
theorem map_div {q k : Int} (hq : q ≠ 0) : ∀ f : List Int, pdiv q (f.map (k * q * ·)) = f.map (k * ·)
  | [] => rfl
  | a :: f => by
    have ih := map_div (k := k) hq f
    unfold pdiv at ih ⊢
    simp only [List.map_cons]
    rw [ih]
    congr 1
    rw [show k * q * a = q * (k * a) by grind, Int.mul_ediv_cancel_left _ hq]
theorem Fct.free {p : Int} {s : List Int} {W : List (Int × Int)} (hp : p ∈ primes) (h : Fct p s W) : ∃ (c : Nat) (F : List Int), IsCont p s c ∧ Un p F ∧ pdiv (p ^ c) s = PL F W := by
  have p2 := primes_ge hp
  obtain ⟨K, F, K0, hF, rfl⟩ := h.ex
  obtain ⟨c, k, fc⟩ := fac (p := p) (by ((try clear K0); omega)) K0
  have q0 := pow_pos (p := p) (by ((try clear K0); omega)) c
  have ct := PL_cont hp hF h.un
  refine ⟨c, F.map (k * ·), ⟨fun x hx => ?_, ?_⟩, ⟨by rw [List.length_map]; exact hF.1, fun y z => ?_⟩, ?_⟩
  · obtain ⟨y, _, rfl⟩ := List.mem_map.mp hx
    rw [fc.eq, show k * p ^ c * y = p ^ c * (k * y) by grind]
    simp
  · obtain ⟨x, hx, n⟩ := ct.one
    refine ⟨K * x, List.mem_map_of_mem hx, fun z => ?_⟩
    rw [fc.eq, show k * p ^ c * x = p ^ c * (k * x) by grind, Int.mul_ediv_cancel_left _ (by ((try clear K0 n p2 z); omega))] at z
    have := euclid hp z fc.un
    apply n
    simpa using this
  · rw [pev_map] at z
    exact hF.2 y (euclid hp z fc.un)
  · rw [← PL_scale k hF.1 W]
    rw [fc.eq]
    exact map_div (by ((try clear K0 p2); omega)) _
noncomputable def hits (p r : Int) (W : List (Int × Int)) : List (Int × Int) := W.filter fun w => decide ((w.2 * r - w.1) % p = 0)
theorem PL_zero {p r : Int} {F : List Int} (hp : p ∈ primes) (hF : Un p F) : ∀ W : List (Int × Int), pev (PL F W) r % p = 0 ↔ hits p r W ≠ []
  | [] => ⟨fun z => absurd z (hF.2 r), fun z => absurd rfl z⟩
  | w :: W => by
    have ih := PL_zero (r := r) hp hF W
    rw [PL_ev]
    unfold hits at ih ⊢
    rw [List.filter_cons]
    by_cases c : (w.2 * r - w.1) % p = 0
    · rw [if_pos (decide_eq_true c)]
      exact ⟨fun _ => by simp, fun _ => dvd_mul_r _ c⟩
    · rw [if_neg (by rw [decide_eq_true_eq]; exact c)]
      exact ⟨fun z => ih.mp (euclid hp z c), fun z => dvd_mul_l _ (ih.mpr z)⟩
theorem PL_knot {p r : Int} {F : List Int} (hp : p ∈ primes) (hF : Un p F) : ∀ {W : List (Int × Int)}, (∀ w, w ∈ W → w.2 % p ≠ 0) → hits p r W ≠ [] → (pdv (PL F W) r % p = 0 ↔ 2 ≤ (hits p r W).length)
  | [], _, h => absurd rfl h
  | w :: W, hu, h => by
    have hu' : ∀ v, v ∈ W → v.2 % p ≠ 0 := fun v hv => hu v (List.mem_cons_of_mem _ hv)
    have z := PL_zero (r := r) hp hF W
    rw [PL_dv]
    have eh : hits p r (w :: W) = if (w.2 * r - w.1) % p = 0 then w :: hits p r W else hits p r W := by
      unfold hits
      rw [List.filter_cons]
      by_cases c : (w.2 * r - w.1) % p = 0
      · rw [if_pos (decide_eq_true c), if_pos c]
      · rw [if_neg (by rw [decide_eq_true_eq]; exact c), if_neg c]
    rw [eh] at h ⊢
    by_cases c : (w.2 * r - w.1) % p = 0
    · rw [if_pos c]
      have e1 : (w.2 * pev (PL F W) r + (w.2 * r - w.1) * pdv (PL F W) r) % p = 0 ↔ (w.2 * pev (PL F W) r) % p = 0 := by
        have d := dvd_mul_r (pdv (PL F W) r) c
        constructor
        · intro y
          have := dvd_sub_of y d
          rwa [Int.add_sub_cancel] at this
        · intro y
          exact dvd_add_of y d
      rw [e1, List.length_cons]
      have hw := hu w (List.mem_cons_self ..)
      constructor
      · intro y
        have := List.length_pos_iff.mpr (z.mp (euclid hp y hw))
        ((try clear c e1 eh h hw y z); omega)
      · intro y
        exact dvd_mul_l _ (z.mpr (List.length_pos_iff.mp (by ((try clear c e1 eh h hw z); omega))))
    · rw [if_neg c] at h ⊢
      have ih := PL_knot (r := r) hp hF hu' h
      have d := dvd_mul_l w.2 (z.mpr h)
      rw [← ih]
      constructor
      · intro y
        have := dvd_sub_of y d
        rw [show w.2 * pev (PL F W) r + (w.2 * r - w.1) * pdv (PL F W) r - w.2 * pev (PL F W) r = (w.2 * r - w.1) * pdv (PL F W) r by ((try clear c d eh h ih this y z); omega)] at this
        exact euclid hp this c
      · intro y
        exact dvd_add_of d (dvd_mul_l _ y)
noncomputable def shw (p r : Int) (w : Int × Int) : Int × Int := ((w.1 - w.2 * r) / p, w.2)
theorem shw_eq {p r : Int} {w : Int × Int} (h : (w.2 * r - w.1) % p = 0) : w.1 = w.2 * r + p * (shw p r w).1 := by
  have e := Int.mul_ediv_add_emod (w.1 - w.2 * r) p
  have z : (w.1 - w.2 * r) % p = 0 := by
    have := dvd_mul_l (-1) h
    rwa [show -1 * (w.2 * r - w.1) = w.1 - w.2 * r by ((try clear e h this); omega)] at this
  rw [z] at e
  unfold shw
  simp only
  ((try clear h z); omega)
theorem PL_seen {p r : Int} {F : List Int} (hp : p ∈ primes) (hF : Un p F) : ∀ W : List (Int × Int), ∃ F2, Un p F2 ∧ F2.length + (hits p r W).length = F.length + W.length ∧ ∀ y, pev (PL F W) (r + p * y) = p ^ (hits p r W).length * pev (PL F2 ((hits p r W).map (shw p r))) y
  | [] => by
    have hl : (sn r p F).length = F.length := sn_len ..
    refine ⟨sn r p F, ⟨by rw [hl]; exact hF.1, fun y => by rw [sn_ev]; exact hF.2 _⟩, by rw [hl]; rfl, fun y => ?_⟩
    simp only [hits, List.filter_nil, List.length_nil, List.map_nil, PL, sn_ev]
    grind
  | w :: W => by
    obtain ⟨F2, h2, hl, he⟩ := PL_seen (r := r) hp hF W
    have eh : hits p r (w :: W) = if (w.2 * r - w.1) % p = 0 then w :: hits p r W else hits p r W := by
      unfold hits
      rw [List.filter_cons]
      by_cases c : (w.2 * r - w.1) % p = 0
      · rw [if_pos (decide_eq_true c), if_pos c]
      · rw [if_neg (by rw [decide_eq_true_eq]; exact c), if_neg c]
    rw [eh]
    by_cases c : (w.2 * r - w.1) % p = 0
    · rw [if_pos c]
      refine ⟨F2, h2, by simp only [List.length_cons]; ((try clear c eh); omega), fun y => ?_⟩
      rw [PL_ev, he, List.map_cons, PL_ev, List.length_cons, Int.pow_succ]
      have e := shw_eq c
      have e2 : (shw p r w).2 = w.2 := rfl
      rw [e2]
      generalize (shw p r w).1 = t at *
      generalize pev (PL F2 ((hits p r W).map (shw p r))) y = X
      generalize p ^ (hits p r W).length = Y
      rw [e]
      grind
    · rw [if_neg c]
      have un : ∀ y, pev (lin (w.1 - w.2 * r, w.2 * p)) y % p ≠ 0 := fun y z => by
        rw [lin_ev] at z
        apply c
        have d : (w.2 * p * y) % p = 0 := by rw [show w.2 * p * y = p * (w.2 * y) by grind]; simp
        have := dvd_sub_of z d
        rwa [show w.2 * p * y - (w.1 - w.2 * r) - w.2 * p * y = w.2 * r - w.1 by ((try clear c d eh hl this z); omega)] at this
      have l1 := pmul_len F2 h2.1 (lin (w.1 - w.2 * r, w.2 * p)) (by simp [lin])
      refine ⟨pmul (lin (w.1 - w.2 * r, w.2 * p)) F2, Un.mul hp h2 un (by simp only [lin, List.length_cons, List.length_nil] at l1 ⊢; ((try clear c eh); omega)) fun y => pmul_ev y F2 _, by simp only [lin, List.length_cons, List.length_nil] at l1 ⊢; ((try clear c eh); omega), fun y => ?_⟩
      rw [PL_ev, he]
      have key : ∀ V : List (Int × Int), pev (PL (pmul (lin (w.1 - w.2 * r, w.2 * p)) F2) V) y = (w.2 * p * y - (w.1 - w.2 * r)) * pev (PL F2 V) y := fun V => by
        induction V with
        | nil => rw [PL, pmul_ev, lin_ev]; rfl
        | cons v V ih =>
          rw [PL_ev, PL_ev, ih]
          grind
      rw [key]
      generalize pev (PL F2 ((hits p r W).map (shw p r))) y = X
      generalize p ^ (hits p r W).length = Y
      grind
theorem Fct.seen {p r : Int} {F t : List Int} {W : List (Int × Int)} (hp : p ∈ primes) (hF : Un p F) (hu : ∀ w, w ∈ W → w.2 % p ≠ 0) (ht : IsSeen (PL F W) r p t) : Fct p t ((hits p r W).map (shw p r)) := by
  have p2 := primes_ge hp
  obtain ⟨F2, h2, hl, he⟩ := PL_seen (r := r) hp hF W
  have q0 := pow_pos (p := p) (by ((try clear hl); omega)) (hits p r W).length
  refine ⟨⟨p ^ (hits p r W).length, F2, by ((try clear hl p2); omega), h2, pev_inj ?_ fun y => ?_⟩, fun w hw => ?_⟩
  · rw [ht.len, PL_len hF.1, List.length_map, PL_len h2.1, List.length_map]
    ((try clear p2 q0); omega)
  · rw [ht.ev, he, pev_map]
  · obtain ⟨v, hv, rfl⟩ := List.mem_map.mp hw
    exact hu v (List.mem_filter.mp hv).1
noncomputable def Apart (p : Int) (n : Nat) (W : List (Int × Int)) : Prop := W.Pairwise fun u v => (u.1 * v.2 - v.1 * u.2) % p ^ n ≠ 0
theorem shw_cross {p r : Int} {u v : Int × Int} (hu : (u.2 * r - u.1) % p = 0) (hv : (v.2 * r - v.1) % p = 0) : u.1 * v.2 - v.1 * u.2 = p * ((shw p r u).1 * (shw p r v).2 - (shw p r v).1 * (shw p r u).2) := by
  have e1 := shw_eq hu
  have e2 := shw_eq hv
  have e3 : (shw p r u).2 = u.2 := rfl
  have e4 : (shw p r v).2 = v.2 := rfl
  rw [e3, e4]
  generalize (shw p r u).1 = s at *
  generalize (shw p r v).1 = t at *
  rw [e1, e2]
  grind
theorem p_dv {p x : Int} {n : Nat} (hp : 2 ≤ p) : (p * x) % p ^ (n + 1) = 0 ↔ x % p ^ n = 0 := by
  have := mul_pow_dv (p := p) (x := x) (c := 1) (N := n + 1) hp (by ((try clear hp); omega))
  rw [Nat.add_sub_cancel, Int.pow_succ, Int.pow_zero, Int.one_mul] at this
  exact this
theorem hit_ex {p : Int} (hp : p ∈ primes) {w : Int × Int} (hw : w.2 % p ≠ 0) : ∃ r : Int, (0 ≤ r ∧ r < p) ∧ (w.2 * r - w.1) % p = 0 := by
  have p2 := primes_ge hp
  obtain ⟨y, _, _, e⟩ := inv_ex hp hw
  refine ⟨(w.1 * y) % p, ⟨Int.emod_nonneg _ (by ((try clear e hw); omega)), Int.emod_lt_of_pos _ (by ((try clear e hw); omega))⟩, ?_⟩
  have h1 := rest_sub p (w.1 * y)
  have h2 : (w.2 * y - 1) % p = 0 := by
    have := Int.mul_ediv_add_emod (w.2 * y) p
    rw [e] at this
    have : w.2 * y - 1 = p * (w.2 * y / p) := by ((try clear e h1 hw p2); omega)
    rw [this]
    simp
  have := dvd_add_of (dvd_mul_l w.2 h1) (dvd_mul_l w.1 h2)
  rwa [show w.2 * (w.1 * y % p - w.1 * y) + w.1 * (w.2 * y - 1) = w.2 * (w.1 * y % p) - w.1 by rw [Int.mul_sub, Int.mul_sub]; grind] at this
theorem Apart.down {p r : Int} {n : Nat} {W : List (Int × Int)} (hp : 2 ≤ p) (h : Apart p (n + 1) W) : Apart p n ((hits p r W).map (shw p r)) := by
  unfold Apart
  rw [List.pairwise_map]
  have hs : (hits p r W).Pairwise fun u v => (u.1 * v.2 - v.1 * u.2) % p ^ (n + 1) ≠ 0 := List.Pairwise.sublist List.filter_sublist h
  refine hs.imp_of_mem fun {u v} hu hv z w => z ?_
  have h1 := of_decide_eq_true (List.mem_filter.mp hu).2
  have h2 := of_decide_eq_true (List.mem_filter.mp hv).2
  rw [shw_cross h1 h2]
  exact (p_dv hp).mpr w
theorem Apart.up {p : Int} {n : Nat} {W : List (Int × Int)} (hp : p ∈ primes) (hu : ∀ w, w ∈ W → w.2 % p ≠ 0) (h : ∀ r : Int, 0 ≤ r ∧ r < p → 2 ≤ (hits p r W).length → Apart p n ((hits p r W).map (shw p r))) : Apart p (n + 1) W := by
  have p2 := primes_ge hp
  refine List.pairwise_iff_forall_sublist.mpr fun {u v} hs z => ?_
  have mu : u ∈ W := hs.subset (by simp)
  have mv : v ∈ W := hs.subset (by simp)
  obtain ⟨r, hr, hit⟩ := hit_ex hp (hu u mu)
  have hitv : (v.2 * r - v.1) % p = 0 := by
    have z1 := dvd_of_le (p := p) z (show 1 ≤ n + 1 by ((try clear hit hr p2 z); omega))
    rw [Int.pow_succ, Int.pow_zero, Int.one_mul] at z1
    have := dvd_add_of (dvd_mul_l v.2 hit) z1
    rw [show v.2 * (u.2 * r - u.1) + (u.1 * v.2 - v.1 * u.2) = u.2 * (v.2 * r - v.1) by grind] at this
    exact euclid hp this (hu u mu)
  have hs2 : [u, v].Sublist (hits p r W) := by
    have := hs.filter fun w => decide ((w.2 * r - w.1) % p = 0)
    simpa [hits, hit, hitv] using this
  have a := h r hr (by have := hs2.length_le; simpa using this)
  unfold Apart at a
  rw [List.pairwise_map] at a
  have := List.pairwise_iff_forall_sublist.mp a hs2
  apply this
  rw [shw_cross hit hitv] at z
  exact (p_dv (by ((try clear hit hitv hr this z); omega))).mp z
theorem Fct.deep {p : Int} (hp : p ∈ primes) : ∀ {n : Nat} {s : List Int} {W : List (Int × Int)}, Fct p s W → (0 < n ∨ 2 ≤ W.length) → (Deep p n s ↔ ¬ Apart p n W)
  | 0, s, W, h, hn => by
    refine ⟨fun _ z => ?_, fun _ => trivial⟩
    match W, hn, z with
    | u :: v :: W, _, z =>
      have := (List.pairwise_cons.mp z).1 v (by simp)
      apply this
      simp
    | [], .inr h, _ => simp at h
    | [u], .inr h, _ => simp at h
    | [], .inl h, _ => ((try clear hn); omega)
    | [u], .inl h, _ => ((try clear hn); omega)
  | n + 1, s, W, h, _ => by
    have p2 := primes_ge hp
    have p2' : 2 ≤ p := by omega
    obtain ⟨c, F, hc, hF, eg⟩ := h.free hp
    constructor
    · rintro ⟨c', r, t, hc', hr, h1, h2, ht, hd⟩ ap
      have ec := hc'.uniq p2' hc
      subst ec
      rw [eg] at h1 h2 ht
      have hne := (PL_zero hp hF W).mp h1
      have h2l := (PL_knot hp hF h.un hne).mp h2
      have := (Fct.deep hp (Fct.seen hp hF h.un ht) (.inr (by rw [List.length_map]; exact h2l))).mp hd
      exact this (ap.down p2')
    · intro na
      refine Classical.byContradiction fun nd => na (Apart.up hp h.un fun r hr hl => Classical.byContradiction fun na2 => nd ?_)
      have hne : hits p r W ≠ [] := List.length_pos_iff.mp (by ((try clear eg hr na na2 nd p2 p2'); omega))
      have ht : IsSeen (PL F W) r p (sn r p (PL F W)) := ⟨sn_len .., fun y => sn_ev ..⟩
      refine ⟨c, r, sn r p (PL F W), hc, hr, ?_, ?_, ?_, (Fct.deep hp (Fct.seen hp hF h.un ht) (.inr (by rw [List.length_map]; exact hl))).mpr na2⟩
      · rw [eg]; exact (PL_zero hp hF W).mpr hne
      · rw [eg]; exact (PL_knot hp hF h.un hne).mpr hl
      · rw [eg]; exact ht
end Dr
namespace Dr
noncomputable def vl (p : Int) (N : Nat) (β : Int → Int) (a : Int) (e : Nat) (w : Int × Int) : Int := (a + p ^ e * (w.1 * β w.2)) % p ^ N
theorem emod_same {x y q : Int} (h : (x - y) % q = 0) : x % q = y % q := Int.emod_emod_of_dvd x (Int.dvd_refl q) ▸ (Int.emod_emod_of_dvd y (Int.dvd_refl q) ▸ (by
  obtain ⟨k, e⟩ := Int.dvd_of_emod_eq_zero h
  rw [show x = y + q * k by ((try clear h); omega), Int.add_mul_emod_self_left]))
theorem vl_shw {p r a : Int} {N e : Nat} {β : Int → Int} {w : Int × Int} (h : (w.2 * r - w.1) % p = 0) (hb : (w.2 * β w.2 - 1) % p ^ N = 0) : vl p N β (a + r * p ^ e) (e + 1) (shw p r w) = vl p N β a e w := by
  unfold vl
  have e1 := shw_eq h
  have e2 : (shw p r w).2 = w.2 := rfl
  rw [e2]
  refine emod_same ?_
  have := dvd_mul_l (-(p ^ e * r)) hb
  rw [show -(p ^ e * r) * (w.2 * β w.2 - 1) = a + r * p ^ e + p ^ (e + 1) * ((shw p r w).1 * β w.2) - (a + p ^ e * (w.1 * β w.2)) by
    rw [Int.pow_succ]
    generalize (shw p r w).1 = t at *
    generalize p ^ e = A
    generalize β w.2 = B
    rw [e1]
    grind] at this
  exact this
theorem hits_near {p x r : Int} {W : List (Int × Int)} (h : (x - r) % p = 0) : hits p x W = hits p r W := by
  unfold hits
  refine List.filter_congr fun w _ => decide_eq_decide.mpr ?_
  have d := dvd_mul_l w.2 h
  constructor
  · intro z
    have := dvd_sub_of z d
    rwa [show w.2 * x - w.1 - w.2 * (x - r) = w.2 * r - w.1 by rw [Int.mul_sub]; ((try clear d h this z); omega)] at this
  · intro z
    have := dvd_add_of z d
    rwa [show w.2 * r - w.1 + w.2 * (x - r) = w.2 * x - w.1 by rw [Int.mul_sub]; ((try clear d h this z); omega)] at this
theorem PL_one {p x : Int} {F : List Int} (hp : p ∈ primes) (hF : Un p F) : ∀ {W : List (Int × Int)} {w : Int × Int}, hits p x W = [w] → ∃ U : Int, U % p ≠ 0 ∧ pev (PL F W) x = U * (w.2 * x - w.1)
  | [], w, h => by simp [hits] at h
  | v :: W, w, h => by
    have eh : hits p x (v :: W) = if (v.2 * x - v.1) % p = 0 then v :: hits p x W else hits p x W := by
      unfold hits
      rw [List.filter_cons]
      by_cases c : (v.2 * x - v.1) % p = 0
      · rw [if_pos (decide_eq_true c), if_pos c]
      · rw [if_neg (by rw [decide_eq_true_eq]; exact c), if_neg c]
    rw [eh] at h
    by_cases c : (v.2 * x - v.1) % p = 0
    · rw [if_pos c] at h
      obtain ⟨rfl, h2⟩ := List.cons.inj h
      refine ⟨pev (PL F W) x, fun z => (PL_zero hp hF W).mp z h2, ?_⟩
      rw [PL_ev, Int.mul_comm]
    · rw [if_neg c] at h
      obtain ⟨U, hU, e⟩ := PL_one hp hF h
      refine ⟨(v.2 * x - v.1) * U, fun z => hU (euclid hp z c), ?_⟩
      rw [PL_ev, e, Int.mul_assoc]
theorem leaf_vl {p r a x : Int} {N e : Nat} {β : Int → Int} {F : List Int} {W : List (Int × Int)} {w : Int × Int} (hp : p ∈ primes) (hF : Un p F) (h : hits p r W = [w]) (hR : RootAt p (PL F W) r (N - e) x) (hb : (w.2 * β w.2 - 1) % p ^ N = 0) : (a + p ^ e * x) % p ^ N = vl p N β a e w := by
  unfold vl
  have key : (w.2 * x - w.1) % p ^ (N - e) = 0 := by
    rcases hR.near with z | z
    · rw [z]; simp
    · rw [← hits_near z] at h
      obtain ⟨U, hU, eU⟩ := PL_one hp hF h
      have := hR.deep
      rw [eU] at this
      exact (unit_dv hp hU _).mp this
  have hb2 := dvd_of_le (p := p) hb (show N - e ≤ N by ((try clear h hb key); omega))
  have k2 : (x - w.1 * β w.2) % p ^ (N - e) = 0 := by
    have := dvd_sub_of (dvd_mul_l (β w.2) key) (dvd_mul_l x hb2)
    rwa [show β w.2 * (w.2 * x - w.1) - x * (w.2 * β w.2 - 1) = x - w.1 * β w.2 by grind] at this
  obtain ⟨k, ek⟩ := Int.dvd_of_emod_eq_zero k2
  refine emod_same ?_
  rw [show a + p ^ e * x - (a + p ^ e * (w.1 * β w.2)) = p ^ (e + (N - e)) * k by rw [pow_add', Int.mul_assoc, ← ek]; grind]
  exact dvd_mul_r k (pow_dv (by ((try clear ek h hb hb2 k2 key); omega)))
theorem filter_or {α : Type} {P Q : α → Bool} : ∀ W : List α, (∀ w, w ∈ W → P w = true → Q w = false) → (W.filter fun w => P w || Q w).Perm (W.filter P ++ W.filter Q)
  | [], _ => .nil
  | w :: W, h => by
    have ih := filter_or (P := P) (Q := Q) W fun v hv => h v (List.mem_cons_of_mem _ hv)
    have hw := h w (List.mem_cons_self ..)
    simp only [List.filter_cons]
    cases e1 : P w with
    | true =>
      rw [hw e1]
      simp only [Bool.true_or, if_true, Bool.false_eq_true, if_false, List.cons_append]
      exact ih.cons w
    | false =>
      cases e2 : Q w with
      | true =>
        simp only [Bool.false_or, if_true, Bool.false_eq_true, if_false]
        exact (ih.cons w).trans List.perm_middle.symm
      | false =>
        simp only [Bool.false_or, Bool.false_eq_true, if_false]
        exact ih
theorem FL.perm {p a : Int} {N n e : Nat} {β : Int → Int} {F : List Int} {W : List (Int × Int)} (hp : p ∈ primes) (hF : Un p F) (hu : ∀ w, w ∈ W → w.2 % p ≠ 0) (hb : ∀ w, w ∈ W → (w.2 * β w.2 - 1) % p ^ N = 0)
    (IH : ∀ {a : Int} {e : Nat} {s : List Int} {W : List (Int × Int)} {L : List Int}, Fct p s W → (∀ w, w ∈ W → (w.2 * β w.2 - 1) % p ^ N = 0) → Found p N n a e s L → L.Perm (W.map (vl p N β a e))) :
    ∀ {rs L : List Int}, FL p N (Found p N n) a e (PL F W) rs L → (∀ r, r ∈ rs → (0 ≤ r ∧ r < p) ∧ hits p r W ≠ []) → rs.Pairwise (· ≠ ·) → L.Perm ((W.filter fun w => rs.any fun r => decide ((w.2 * r - w.1) % p = 0)).map (vl p N β a e)) := by
  intro rs L fl
  have step : ∀ {rs L L1 : List Int} {r : Int}, (∀ r, r ∈ rs → (0 ≤ r ∧ r < p) ∧ hits p r W ≠ []) → rs.Pairwise (· ≠ ·) → (∀ s, s ∈ rs → s ≠ r) → (0 ≤ r ∧ r < p) → L.Perm ((W.filter fun w => rs.any fun r => decide ((w.2 * r - w.1) % p = 0)).map (vl p N β a e)) → L1.Perm ((hits p r W).map (vl p N β a e)) →
      (L ++ L1).Perm ((W.filter fun w => (rs ++ [r]).any fun r => decide ((w.2 * r - w.1) % p = 0)).map (vl p N β a e)) := fun {rs L L1 r} h1 h2 h3 h4 p1 p2 => by
    have e1 : (fun w : Int × Int => (rs ++ [r]).any fun r => decide ((w.2 * r - w.1) % p = 0)) = fun w => (rs.any fun r => decide ((w.2 * r - w.1) % p = 0)) || decide ((w.2 * r - w.1) % p = 0) := by
      funext w
      simp [List.any_append]
    rw [e1]
    have fo := filter_or (P := fun w : Int × Int => rs.any fun r => decide ((w.2 * r - w.1) % p = 0)) (Q := fun w => decide ((w.2 * r - w.1) % p = 0)) W fun w hw hP => by
      obtain ⟨s, hs, hd⟩ := List.any_eq_true.mp hP
      refine decide_eq_false fun z => h3 s hs ?_
      have z1 := of_decide_eq_true hd
      have := dvd_sub_of z1 z
      rw [show w.2 * s - w.1 - (w.2 * r - w.1) = w.2 * (s - r) by rw [Int.mul_sub]; ((try clear e1 h4 hP hd this z z1); omega)] at this
      exact rest_one (h1 s hs).1 h4 (euclid hp this (hu w hw))
    refine ((p1.append p2).trans ?_).trans (fo.map _).symm
    rw [List.map_append]
    exact .refl _
  induction fl with
  | nil => intro _ _; simp
  | @knot rs L L1 t r fl0 h1 h2 h3 ih =>
    intro hr hn
    obtain ⟨n1, _, n3⟩ := List.pairwise_append.mp hn
    have hr' : ∀ s, s ∈ rs → (0 ≤ s ∧ s < p) ∧ hits p s W ≠ [] := fun s hs => hr s (List.mem_append_left _ hs)
    have rr := hr r (by simp)
    refine step hr' n1 (fun s hs => n3 s hs r (by simp)) rr.1 (ih hr' n1) ?_
    have := IH (Fct.seen hp hF hu h2) (fun w hw => by
      obtain ⟨v, hv, rfl⟩ := List.mem_map.mp hw
      exact hb v (List.mem_filter.mp hv).1) h3
    rw [List.map_map] at this
    refine this.trans (List.Perm.of_eq (List.map_congr_left fun w hw => ?_))
    have hm := List.mem_filter.mp hw
    exact vl_shw (of_decide_eq_true hm.2) (hb w hm.1)
  | @leaf rs L r x fl0 h1 h2 ih =>
    intro hr hn
    obtain ⟨n1, _, n3⟩ := List.pairwise_append.mp hn
    have hr' : ∀ s, s ∈ rs → (0 ≤ s ∧ s < p) ∧ hits p s W ≠ [] := fun s hs => hr s (List.mem_append_left _ hs)
    have rr := hr r (by simp)
    refine step hr' n1 (fun s hs => n3 s hs r (by simp)) rr.1 (ih hr' n1) ?_
    have nk : ¬ 2 ≤ (hits p r W).length := fun z => h1 ((PL_knot hp hF hu rr.2).mpr z)
    obtain ⟨w, ew⟩ : ∃ w, hits p r W = [w] := by
      match e : hits p r W, rr.2, nk with
      | [w], _, _ => exact ⟨w, rfl⟩
      | _ :: _ :: _, _, nk => simp at nk
    have hw : w ∈ W := (List.mem_filter.mp (show w ∈ hits p r W by rw [ew]; simp)).1
    rw [ew, leaf_vl hp hF ew h2 (hb w hw)]
    exact .refl _
theorem restsP_ne (p : Int) (g : List Int) : (restsP p g).Pairwise (· ≠ ·) := by
  unfold restsP
  refine List.Pairwise.sublist List.filter_sublist (List.pairwise_map.mpr ?_)
  exact (List.nodup_range (n := p.toNat)).imp fun {i j} z w => z (by ((try clear z); omega))
theorem Fct.found {p : Int} {N : Nat} {β : Int → Int} (hp : p ∈ primes) : ∀ {n : Nat} {a : Int} {e : Nat} {s : List Int} {W : List (Int × Int)} {L : List Int}, Fct p s W → (∀ w, w ∈ W → (w.2 * β w.2 - 1) % p ^ N = 0) → Found p N n a e s L → L.Perm (W.map (vl p N β a e))
  | 0, _, _, _, _, _, _, _, h => h.elim
  | n + 1, a, e, s, W, L, h, hb, hf => by
    have p2 := primes_ge hp
    obtain ⟨c, F, hc, hF, eg⟩ := h.free hp
    obtain ⟨c', hc', fl⟩ := hf
    have ec := hc'.uniq (by ((try clear eg); omega)) hc
    subst ec
    rw [eg] at fl
    have := FL.perm (β := β) hp hF h.un hb (fun h hb hf => Fct.found hp h hb hf) fl (fun r hr => ?_) (restsP_ne _ _)
    · refine this.trans (List.Perm.of_eq ?_)
      congr 1
      refine List.filter_eq_self.mpr fun w hw => List.any_eq_true.mpr ?_
      obtain ⟨r, hr, hit⟩ := hit_ex hp (h.un w hw)
      refine ⟨r, (restsP_mem (by ((try clear eg hit hr); omega))).mpr ⟨hr, (PL_zero hp hF W).mpr fun z => ?_⟩, decide_eq_true hit⟩
      have : w ∈ hits p r W := List.mem_filter.mpr ⟨hw, decide_eq_true hit⟩
      rw [z] at this
      cases this
    · obtain ⟨h1, h2⟩ := (restsP_mem (by ((try clear eg); omega))).mp hr
      exact ⟨h1, (PL_zero hp hF W).mp h2⟩
theorem pev_noughts {y : Int} : ∀ {f : List Int}, (∀ x, x ∈ f → x = 0) → pev f y = 0
  | [], _ => rfl
  | a :: f, h => by
    simp only [pev]
    rw [h a (List.mem_cons_self ..), pev_noughts fun x hx => h x (List.mem_cons_of_mem _ hx)]
    simp
theorem seen_ne {f s : List Int} {r q : Int} (hq : q ≠ 0) (h : IsSeen f r q s) (hf : ∃ x, x ∈ f ∧ x ≠ 0) : ∃ x, x ∈ s ∧ x ≠ 0 := by
  refine Classical.byContradiction fun z => ?_
  have z0 : ∀ x, x ∈ s → x = 0 := fun x hx => Classical.byContradiction fun w => z ⟨x, hx, w⟩
  have t0 : ∀ j, (tay r f.length f).getD j 0 = 0 := fun j => by
    have e := seen_get h j
    have : s.getD j 0 = 0 := by
      rw [List.getD_eq_getElem?_getD]
      cases w : s[j]? with
      | none => rfl
      | some x => exact z0 x (List.mem_of_getElem? w)
    rw [this] at e
    exact (Int.mul_eq_zero.mp e.symm).resolve_left (Int.pow_ne_zero hq)
  have t1 : ∀ x, x ∈ tay r f.length f → x = 0 := fun x hx => by
    obtain ⟨i, hi, e⟩ := List.getElem_of_mem hx
    have := t0 i
    rw [List.getD_eq_getElem?_getD, List.getElem?_eq_getElem hi] at this
    rw [← e]
    exact this
  have e : f = List.replicate f.length 0 := pev_inj (by rw [List.length_replicate]) fun x => by
    rw [pev_zeros]
    have := tay_ev r (x - r) f.length f (Nat.le_refl _)
    rw [show r + (x - r) = x by ((try clear hq this z); omega)] at this
    rw [← this]
    exact pev_noughts t1
  obtain ⟨x, hx, x0⟩ := hf
  rw [e] at hx
  exact x0 (List.mem_replicate.mp hx).2
theorem contE {p : Int} (hp : 2 ≤ p) {f : List Int} (h : ∃ x, x ∈ f ∧ x ≠ 0) : ∃ c, IsCont p f c := by
  obtain ⟨x, hx, x0⟩ := h
  refine Classical.byContradiction fun z => ?_
  have all : ∀ c : Nat, ∀ y, y ∈ f → y % p ^ c = 0 := fun c => by
    induction c with
    | zero => intro y _; simp
    | succ c ih =>
      intro y hy
      refine Classical.byContradiction fun w => z ⟨c, ih, y, hy, fun v => w ?_⟩
      have e := Int.mul_ediv_add_emod y (p ^ c)
      rw [ih y hy] at e
      obtain ⟨k, ek⟩ := Int.dvd_of_emod_eq_zero v
      rw [ek] at e
      rw [Int.pow_succ, show y = p ^ c * p * k by rw [Int.mul_assoc]; ((try clear ek hp v w x0 z); omega)]
      simp
  obtain ⟨d, u, fc⟩ := fac hp x0
  have := (fc.dvd hp (d + 1)).mp (all (d + 1) x hx)
  ((try clear hp x0 z); omega)
theorem Deep.mul {p : Int} (hp : p ∈ primes) : ∀ {n : Nat} {f g r : List Int}, Deep p n f → (∃ x, x ∈ g ∧ x ≠ 0) → IsProd f g r → Deep p n r
  | 0, _, _, _, _, _, _ => trivial
  | n + 1, f, g, r, hd, hg, hr => by
    have p2 := primes_ge hp
    obtain ⟨c, d, t, hc, hd1, h1, h2, ht, hn⟩ := hd
    obtain ⟨c2, hc2⟩ := contE (p := p) (by ((try clear h1 h2 hd1); omega)) hg
    have hcr := hc.mul hp hc2 hr
    have q0 := pow_pos (p := p) (by ((try clear h1 h2 hd1); omega)) (c + c2)
    have f0 : 0 < f.length := by obtain ⟨x, hx, _⟩ := hc.one; exact List.length_pos_of_mem hx
    have g0 : 0 < g.length := by obtain ⟨x, hx, _⟩ := hc2.one; exact List.length_pos_of_mem hx
    have ev : ∀ x, pev (pdiv (p ^ (c + c2)) r) x = pev (pdiv (p ^ c) f) x * pev (pdiv (p ^ c2) g) x := fun x => by
      refine Int.eq_of_mul_eq_mul_left (show p ^ (c + c2) ≠ 0 by ((try clear f0 g0 h1 h2 hd1 p2); omega)) ?_
      rw [← pdiv_ev hcr.all, hr.ev, pdiv_ev hc.all, pdiv_ev hc2.all, pow_add']
      grind
    refine ⟨c + c2, d, sn d p (pdiv (p ^ (c + c2)) r), hcr, hd1, ?_, ?_, ⟨sn_len .., fun y => sn_ev ..⟩, ?_⟩
    · rw [ev]; exact dvd_mul_r _ h1
    · rw [pdv_mul ev]; exact dvd_add_of (dvd_mul_r _ h2) (dvd_mul_r _ h1)
    · refine Deep.mul hp (g := sn d p (pdiv (p ^ c2) g)) hn ?_ ⟨?_, fun y => ?_⟩
      · have : ∃ x, x ∈ pdiv (p ^ c2) g ∧ x ≠ 0 := by
          obtain ⟨x, hx, n0⟩ := hc2.one
          exact ⟨x / p ^ c2, List.mem_map_of_mem hx, fun z => n0 (by rw [z]; simp)⟩
        exact seen_ne (by ((try clear f0 g0 h1 h2 hd1 q0); omega)) ⟨sn_len .., fun y => sn_ev ..⟩ this
      · rw [sn_len, sn_len, pdiv_len, pdiv_len, ht.len, pdiv_len]
        exact hr.len
      · rw [sn_ev, sn_ev, ht.ev, ev]
theorem Deep.square {p : Int} (hp : p ∈ primes) : ∀ {n m : Nat} {s : List Int} {w u K : Int}, K ≠ 0 → s.length = 3 → (∀ y, pev s y = K * ((y - w) * (y - w) + p ^ m * u)) → 2 * n ≤ m + 1 → Deep p n s := by
  intro n
  induction n with
  | zero => intros; exact trivial
  | succ n ih =>
    intro m s w u K K0 hl ev hm
    have p2 := primes_ge hp
    have p2' : 2 ≤ p := by ((try clear K0 hl hm); omega)
    obtain ⟨c, k, fc⟩ := fac p2' K0
    have q0 := pow_pos p2' c
    have es : s = [K * (w * w + p ^ m * u), K * (-2 * w), K] := pev_inj hl fun y => by
      rw [ev]
      simp only [pev]
      generalize p ^ m = A
      grind
    have hc : IsCont p s c := by
      refine ⟨fun x hx => ?_, K, by rw [es]; simp, ?_⟩
      · have : ∃ z, x = K * z := by
          rw [es] at hx
          simp only [List.mem_cons, List.not_mem_nil, or_false] at hx
          rcases hx with h | h | h
          · exact ⟨_, h⟩
          · exact ⟨_, h⟩
          · exact ⟨1, by ((try clear K0 es hl hm p2 p2' q0); omega)⟩
        obtain ⟨z, rfl⟩ := this
        rw [fc.eq, show k * p ^ c * z = p ^ c * (k * z) by grind]
        simp
      · rw [fc.eq, Int.mul_ediv_cancel _ (by ((try clear K0 es hl hm p2 p2'); omega))]
        exact fc.un
    have gev : ∀ y, pev (pdiv (p ^ c) s) y = k * ((y - w) * (y - w) + p ^ m * u) := fun y => by
      refine Int.eq_of_mul_eq_mul_left (show p ^ c ≠ 0 by ((try clear K0 es hl hm p2 p2'); omega)) ?_
      rw [← pdiv_ev hc.all, ev, fc.eq]
      generalize (y - w) * (y - w) + p ^ m * u = X
      grind
    have gl : (pdiv (p ^ c) s).length = 3 := by rw [pdiv_len]; exact hl
    have eg : pdiv (p ^ c) s = [k * (w * w + p ^ m * u), k * (-2 * w), k] := pev_inj gl fun y => by
      rw [gev]
      simp only [pev]
      generalize p ^ m = A
      grind
    have r0 : 0 ≤ w % p := Int.emod_nonneg _ (by ((try clear K0 eg es gl hl hm p2' q0); omega))
    have r1 : w % p < p := Int.emod_lt_of_pos _ (by ((try clear K0 eg es gl hl hm p2' q0 r0); omega))
    have rw_ := rest_sub p w
    generalize w % p = r at r0 r1 rw_
    have pm : (p ^ m * u) % p = 0 := by
      have := pow_dv (p := p) (show 1 ≤ m by ((try clear K0 eg es gl hl p2 p2' q0 r0 r1 rw_); omega))
      rw [Int.pow_succ, Int.pow_zero, Int.one_mul] at this
      exact dvd_mul_r u this
    refine ⟨c, r, sn r p (pdiv (p ^ c) s), hc, ⟨r0, r1⟩, ?_, ?_, ⟨sn_len .., fun y => sn_ev ..⟩, ?_⟩
    · rw [gev]
      exact dvd_mul_l k (dvd_add_of (dvd_mul_l _ rw_) pm)
    · rw [eg]
      have e : pdv [k * (w * w + p ^ m * u), k * (-2 * w), k] r = 2 * k * (r - w) := by
        simp only [pdv, pev]
        generalize p ^ m = A
        grind
      rw [e]
      exact dvd_mul_l _ rw_
    · cases n with
      | zero => exact trivial
      | succ n =>
        obtain ⟨v, ev2⟩ := Int.dvd_of_emod_eq_zero rw_
        obtain ⟨m2, rfl⟩ : ∃ m2, m = m2 + 2 := ⟨m - 2, by ((try clear K0 eg es ev2 gl hl p2 p2' pm q0 r0 r1 rw_); omega)⟩
        refine ih (m := m2) (w := -v) (u := u) (K := k * p * p) ?_ ?_ (fun y => ?_) (by ((try clear K0 eg es ev2 gl hl p2 p2' pm q0 r0 r1 rw_); omega))
        · have k0 : k ≠ 0 := fun z => fc.un (by rw [z]; simp)
          exact Int.mul_ne_zero (Int.mul_ne_zero k0 (by ((try clear K0 eg es ev2 gl hl hm k0 p2' pm q0 r0 r1 rw_); omega))) (by ((try clear K0 eg es ev2 gl hl hm k0 p2' pm q0 r0 r1 rw_); omega))
        · rw [sn_len]; exact gl
        · rw [sn_ev, gev, show r + p * y - w = p * (y - -v) by rw [Int.mul_sub, Int.mul_neg]; ((try clear K0 eg es gl hl hm p2 p2' pm q0 r0 r1 rw_); omega), Int.pow_succ, Int.pow_succ]
          generalize p ^ m2 = A
          generalize y - -v = X
          grind
end Dr
namespace Dr
theorem FL.at {p a r : Int} {N e : Nat} {rec : Int → Nat → List Int → List Int → Prop} {g : List Int} : ∀ {rs L : List Int}, FL p N rec a e g rs L → r ∈ rs → ∃ L1, (∀ x, x ∈ L1 → x ∈ L) ∧ ((pdv g r % p = 0 ∧ ∃ t, IsSeen g r p t ∧ rec (a + r * p ^ e) (e + 1) t L1) ∨ (pdv g r % p ≠ 0 ∧ ∃ x, RootAt p g r (N - e) x ∧ L1 = [(a + p ^ e * x) % p ^ N])) := by
  intro rs L fl
  induction fl with
  | nil => intro h; cases h
  | @knot rs L L1 t s fl0 h1 h2 h3 ih =>
    intro h
    rcases List.mem_append.mp h with z | z
    · obtain ⟨K, hk, o⟩ := ih z
      exact ⟨K, fun x hx => List.mem_append_left _ (hk x hx), o⟩
    · obtain rfl := List.mem_singleton.mp z
      exact ⟨L1, fun x hx => List.mem_append_right _ hx, .inl ⟨h1, t, h2, h3⟩⟩
  | @leaf rs L s x fl0 h1 h2 ih =>
    intro h
    rcases List.mem_append.mp h with z | z
    · obtain ⟨K, hk, o⟩ := ih z
      exact ⟨K, fun x hx => List.mem_append_left _ (hk x hx), o⟩
    · obtain rfl := List.mem_singleton.mp z
      exact ⟨_, fun x hx => List.mem_append_right _ hx, .inr ⟨h1, x, h2, rfl⟩⟩
theorem Found.not_deep {p : Int} {N : Nat} (hp : 2 ≤ p) : ∀ {n : Nat} {a : Int} {e : Nat} {s L : List Int}, Found p N n a e s L → ¬ Deep p n s
  | 0, _, _, _, _, h, _ => h
  | n + 1, a, e, s, L, h, hd => by
    obtain ⟨c, hc, fl⟩ := h
    obtain ⟨c', r, t, hc', hr, h1, h2, ht, hn⟩ := hd
    have ec := hc'.uniq hp hc
    subst ec
    obtain ⟨L1, _, o⟩ := fl.at ((restsP_mem (by ((try clear h1 h2 hr); omega))).mpr ⟨hr, h1⟩)
    rcases o with ⟨_, t', ht', hf⟩ | ⟨n0, _⟩
    · rw [ht'.uniq ht] at hf
      exact hf.not_deep hp hn
    · exact n0 h2
theorem FL.len {p a : Int} {N n e : Nat} {g : List Int} (hp : 2 ≤ p) (IH : ∀ {a : Int} {e : Nat} {s L : List Int}, Found p N n a e s L → ∀ (c m : Nat), IsCont p s c → DegP p (pdiv (p ^ c) s) m → L.length ≤ m) : ∀ {rs L : List Int}, FL p N (Found p N n) a e g rs L → (∀ r, r ∈ rs → pev g r % p = 0) → ∃ R : List (Int × Nat), R.map (·.1) = rs ∧ L.length ≤ total R ∧ ∀ rk, rk ∈ R → Van p g rk.1 rk.2 := by
  intro rs L fl
  induction fl with
  | nil => intro _; exact ⟨[], rfl, by simp, fun _ h => nomatch h⟩
  | @knot rs L L1 t s fl0 h1 h2 h3 ih =>
    intro h
    obtain ⟨R, e1, e2, e3⟩ := ih fun r hr => h r (List.mem_append_left _ hr)
    obtain ⟨c, m, hc, hm, hl⟩ : ∃ c m, IsCont p t c ∧ DegP p (pdiv (p ^ c) t) m ∧ L1.length ≤ m := by
      have : ∃ c, IsCont p t c := by
        cases n with
        | zero => exact h3.elim
        | succ n => obtain ⟨c, hc, _⟩ := h3; exact ⟨c, hc⟩
      obtain ⟨c, hc⟩ := this
      obtain ⟨m, _, hm⟩ := degP_ex _ (cont_free hc)
      exact ⟨c, m, hc, hm, IH h3 c m hc hm⟩
    refine ⟨R ++ [(s, m)], by rw [List.map_append, e1]; rfl, ?_, fun rk hrk => ?_⟩
    · unfold total at e2 ⊢
      rw [List.length_append, List.map_append, List.sum_append]
      simp only [List.map_cons, List.map_nil, List.sum_cons, List.sum_nil]
      ((try clear e1 h1 hp); omega)
    · rcases List.mem_append.mp hrk with z | z
      · exact e3 rk z
      · rw [List.mem_singleton.mp z]
        exact seen_van hp h2 hc hm
  | @leaf rs L s x fl0 h1 h2 ih =>
    intro h
    obtain ⟨R, e1, e2, e3⟩ := ih fun r hr => h r (List.mem_append_left _ hr)
    refine ⟨R ++ [(s, 1)], by rw [List.map_append, e1]; rfl, ?_, fun rk hrk => ?_⟩
    · unfold total at e2 ⊢
      rw [List.length_append, List.map_append, List.sum_append]
      simp only [List.map_cons, List.map_nil, List.sum_cons, List.sum_nil, List.length_cons, List.length_nil]
      ((try clear e1 h1 hp); omega)
    · rcases List.mem_append.mp hrk with z | z
      · exact e3 rk z
      · rw [List.mem_singleton.mp z]
        exact ⟨h s (by simp), trivial⟩
theorem Found.len {p : Int} {N : Nat} (hp : p ∈ primes) : ∀ {n : Nat} {a : Int} {e : Nat} {s L : List Int}, Found p N n a e s L → ∀ (c m : Nat), IsCont p s c → DegP p (pdiv (p ^ c) s) m → L.length ≤ m
  | 0, _, _, _, _, h => h.elim
  | n + 1, a, e, s, L, h => fun c m hc hm => by
    have p2 := primes_ge hp
    obtain ⟨c', hc', fl⟩ := h
    have ec := hc'.uniq (by omega) hc
    subst ec
    obtain ⟨R, e1, e2, e3⟩ := FL.len (by omega) (fun h => Found.len hp h) fl fun r hr => ((restsP_mem (by omega)).mp hr).2
    have := noughts hp m _ R hm (by rw [e1]; exact rests_apart _ (by ((try clear e1 e2); omega))) e3
    ((try clear e1 p2); omega)
theorem Found.few {p : Int} {N n e : Nat} {a : Int} {s L : List Int} (hp : p ∈ primes) (h : Found p N n a e s L) : L.length < s.length := by
  obtain ⟨c, hc⟩ : ∃ c, IsCont p s c := by
    cases n with
    | zero => exact h.elim
    | succ n => obtain ⟨c, hc, _⟩ := h; exact ⟨c, hc⟩
  obtain ⟨m, hl, hm⟩ := degP_ex _ (cont_free hc)
  have := h.len hp c m hc hm
  rw [pdiv_len] at hl
  omega
structure Lim (p : Int) (s : List Int) (η : Nat → Int) : Prop where
  coh : ∀ M, (η (M + 1) - η M) % p ^ M = 0
  root : ∀ M, pev s (η M) % p ^ M = 0
noncomputable def sub1 (p r : Int) (η : Nat → Int) (M : Nat) : Int := (η (M + 1) - r) / p
noncomputable def lv (p : Int) (N : Nat) (a : Int) (e : Nat) (η : Nat → Int) : Int := (a + p ^ e * η (N - e)) % p ^ N
end Dr
namespace Dr
noncomputable def rho (p : Int) (f : List Int) (a y : Int) (d : Nat) : Nat → Int
  | 0 => a % p ^ (d + 1)
  | k + 1 => rho p f a y d k + -(pev f (rho p f a y d k) / p ^ (d + 1 + k + d)) * y % p * p ^ (d + 1 + k)
end Dr
namespace Dr
structure RootOf (p : Int) (f : List Int) (a : Int) (d N : Nat) (r : Int) : Prop where
  low : N ≤ d + 1 → r = a % p ^ N
  high : d + 1 < N → Root p f a d N r
theorem PL_snoc {F : List Int} (hF : 0 < F.length) (w : Int × Int) : ∀ W : List (Int × Int), PL F (W ++ [w]) = PL F (w :: W)
  | [] => rfl
  | v :: W => by
    rw [List.cons_append]
    refine pev_inj ?_ fun y => ?_
    · rw [PL_len hF, PL_len hF]
      simp
    · rw [PL_ev, PL_snoc hF w W, PL_ev, PL_ev, PL_ev]
      grind
theorem Fct.lin {p t b : Int} {f r : List Int} {W : List (Int × Int)} (h : Fct p f W) (hr : IsProd f [0 - t, b] r) (hb : b % p ≠ 0) : Fct p r (W ++ [(t, b)]) := by
  obtain ⟨K, F, K0, hF, rfl⟩ := h.ex
  refine ⟨⟨K, F, K0, hF, ?_⟩, fun w hw => ?_⟩
  · refine pev_inj ?_ fun x => ?_
    · have := hr.len
      rw [List.length_map, PL_len hF.1] at this ⊢
      simp only [List.length_append, List.length_cons, List.length_nil] at this ⊢
      ((try clear K0 hb); omega)
    · rw [hr.ev, pev_map, pev_map, PL_snoc hF.1, PL_ev]
      simp only [pev]
      grind
  · rcases List.mem_append.mp hw with z | z
    · exact h.un w z
    · rw [List.mem_singleton.mp z]
      exact hb
theorem Fct.start {p k : Int} (hp : 2 ≤ p) (hk : k ≠ 0) : Fct p [k] [] := by
  refine ⟨⟨k, [1], hk, ⟨by simp, fun y => ?_⟩, by simp [PL]⟩, fun w h => nomatch h⟩
  simp only [pev, Int.mul_zero, Int.add_zero]
  rw [Int.emod_eq_of_lt (by ((try clear hk hp); omega)) (by ((try clear hk); omega))]
  decide
noncomputable def turn (p : Int) (b : Int) : Int := Classical.epsilon fun y => (b * y - 1) % p ^ 64 = 0
noncomputable def rootless (p c : Nat) : Bool := (List.range p).all fun x => (x * x + x + c) % p != 0
noncomputable def rootlessAll : Bool := (primes.map Int.toNat).all fun p => (List.range p).any fun c => rootless p (c + 1)
end Dr
namespace L2
open PySem PySem.Spec PyProof.Rows
section
variable {X : Cx}
theorem op_mulW : OpR X (binaryOp .Mult) (rI IntMulOk fun i j => .int (i * j)) := opI fun _ _ _ _ _ _ _ hc q => mul_int q hc
noncomputable def CDivW (_ j : Int) : Prop := 0 < j ∧ j.natAbs.log2 < 9000
theorem op_fdivW : OpR X (binaryOp .FloorDiv) (rI CDivW fun i j => .int (i / j)) := opI fun i j _ _ _ _ _ hc q => by
  have h1 : (0 : Int) < j := hc.1
  exact floordiv_int (by omega) (by rw [Int.fdiv_eq_ediv_of_nonneg i (by omega)]; exact q) (.inl (PyProof.noPylong_of_log2 hc.2))
end
noncomputable def Itc (a c : Int) (n : Nat) : It := ⟨fun i _ => i < n, fun i H x H' => H' = H ∧ x = .int (a + i * c), fun i _ => n ≤ i⟩
section
variable {X : Cx} {tg : Expr}
noncomputable def turns (a b c : Int) : Nat := if a < b then ((b - a - 1) / c + 1).toNat else 0
noncomputable def iRng3 (ta : TA) : TI := fun σ H R => ta σ H fun vs H1 => ∃ i j c : Int, vs = [.int i, .int j, .int c] ∧ (-(2 ^ 60) ≤ i ∧ i < 2 ^ 60 ∧ -(2 ^ 60) ≤ j ∧ j < 2 ^ 60 ∧ 0 < c ∧ c < 1000) ∧ R (Itc i c (turns i j c)) H1
end
noncomputable def clsV : V → Value
  | .ty n => .type n
  | .ref a => .ref a
  | _ => .none
noncomputable def isCls : V → Bool
  | .ty _ => true
  | .ref _ => true
  | _ => false
section
variable {X : Cx}
mutual
inductive DatV (K : PySem.W.Frag) (H : Hp) : V → PyData → Prop
  | non : DatV K H .non .none
  | bl (b : Bool) : DatV K H (.bl b) (.bool b)
  | int (i : Int) : DatV K H (.int i) (.int i)
  | str (x : Str) : DatV K H (.str x) (.str x)
  | lst {a : Addr} {xs : List V} {ds : List PyData} : SqL K H a xs → DatVs K H xs ds → DatV K H (.ref a) (.list ds)
  | tup {a : Addr} {xs : List V} {ds : List PyData} : SqT K H a xs → DatVs K H xs ds → DatV K H (.ref a) (.tuple ds)
inductive DatVs (K : PySem.W.Frag) (H : Hp) : List V → List PyData → Prop
  | nil : DatVs K H [] []
  | cons {x : V} {d : PyData} {xs : List V} {ds : List PyData} : DatV K H x d → DatVs K H xs ds → DatVs K H (x :: xs) (d :: ds)
end
theorem DatVs.ints {K : PySem.W.Frag} {H : Hp} : ∀ ns : List Int, DatVs K H (ns.map V.int) (ns.map PyData.int)
  | [] => .nil
  | n :: r => .cons (.int n) (DatVs.ints r)
variable {pins : List (Addr × Obj)} {σ : St} {H : Hp} {s : Shared}
mutual
theorem reads_of (I : Inv X pins σ H s) : ∀ {x : V} {d : PyData} {u : Value}, DatV X.K H x d → RelV x u → ∃ as, Reads s.heap u d as
  | _, _, _, .non, r => by cases r; exact ⟨_, .none⟩
  | _, _, _, .bl b, r => by cases r; exact ⟨_, .bool b⟩
  | _, _, _, .int i, r => by obtain ⟨t, rfl⟩ := r; exact ⟨_, .int i t⟩
  | _, _, _, .str x, r => by obtain ⟨t, rfl⟩ := r; exact ⟨_, .str x t⟩
  | _, _, _, .lst h q, r => by
    cases r
    obtain ⟨its, rv, pl, _⟩ := I.list h
    obtain ⟨o, ho, hc, n, hd⟩ := pl.isList
    obtain ⟨as, ra⟩ := readsAll_of I q rv
    exact ⟨_, .list ho hc hd (by simpa using ra)⟩
  | _, _, _, .tup h q, r => by
    cases r
    obtain ⟨its, rv, pl, _⟩ := I.tuple h
    obtain ⟨o, ho, hc, n, hd⟩ := pl
    obtain ⟨as, ra⟩ := readsAll_of I q rv
    exact ⟨_, .tuple ho hc hd (by simpa using ra)⟩
theorem readsAll_of (I : Inv X pins σ H s) : ∀ {xs : List V} {ds : List PyData} {us : List Value}, DatVs X.K H xs ds → Vals xs us → ∃ as, ReadsAll s.heap us ds as
  | _, _, _, .nil, r => by cases r; exact ⟨_, .nil⟩
  | _, _, _, .cons h q, r => by
    cases r with
    | cons r rr =>
      obtain ⟨as, ra⟩ := reads_of I h r
      obtain ⟨bs, rb⟩ := readsAll_of I q rr
      exact ⟨_, .cons ra rb⟩
end
noncomputable def rEqD (K : PySem.W.Frag) (neg : Bool) : R2 := fun x y H Q => ∃ d e, DatV K H x d ∧ DatV K H y e ∧ SeqAt.shaped d = true ∧ SeqAt.shaped e = true ∧ Q (.bl (if neg then !PyData.eqv d e else PyData.eqv d e)) H
theorem op_neD (hu : X.A.units + 64 < cLine) : OpR X (compareOp .NotEq) (rEqD X.K true) := by
  intro pins s σ H x y v u Q I rx ry h
  obtain ⟨d, e, hd, he, sd, se, q⟩ := h
  obtain ⟨as, ra⟩ := reads_of I hd rx
  obtain ⟨bs, rb⟩ := reads_of I he ry
  exact ne_dataH ra rb sd se hu (fin_bl I q rfl)
theorem eqvAll_ints : ∀ ns ms : List Int, PyData.eqvAll (ns.map PyData.int) (ms.map PyData.int) = decide (ns = ms)
  | [], [] => by simp [PyData.eqvAll]
  | [], _ :: _ => by simp [PyData.eqvAll]
  | _ :: _, [] => by simp [PyData.eqvAll]
  | a :: r, b :: t => by
    simp only [List.map_cons, PyData.eqvAll, PyData.eqv, eqvAll_ints r t]
    by_cases h : a = b <;> by_cases h' : r = t <;> simp [h, h']
end
end L2
namespace Att
open PySem PySem.W PySem.Calls PyProof.Rows
theorem bits_of_lay {ns : List Int} (h : WData.layableAll [WData.list (ns.map WData.int)] = true) : ∀ n, n ∈ ns → Builtin.Int.intBits n ≤ 2 ^ 20 := fun n hn => by
  have h1 := layableW_arg h _ (List.mem_singleton.mpr rfl)
  have h2 := layableW_item h1 (.int n) (List.mem_map.mpr ⟨n, hn, rfl⟩)
  have h3 := (layableW_iff.mp h2).2.2
  simpa only [WData.weight, Builtin.Int.intBits] using h3
theorem attach_callB {l : OpenLaw} {n : Nat} {q : Program} {loose : List Str} {XP : (Str → Option Value) → Heap → Prop} {YP : World → Heap → Prop} {d : DefRec}
    (hn : l.most = some n) (hdf : d.params.defaults = [])
    (call : ∀ (w : World) (s₀ s₁ : Shared) (mg mb : Str → Option Value) (fa : Addr) (o : Obj) (pm cd doc : Value) (a : Addr) (vs : List Value) (ns : List Int),
      Ground q loose [] XP w s₀ mg mb s₁.heap → YP w s₁.heap →
      s₁.heap.get? fa = some o → o.data = .func (docDef d.name d.params d.body d.scope pm cd doc) → s₁.heap.CodeRec cd d.name → mg d.name = some (.ref fa) →
      s₁.heap.get? a = some { cls := .type "list", data := .seq vs.toArray } → IntsAre vs ns → ns.length ≤ n → (∀ n, n ∈ ns → Builtin.Int.intBits n ≤ 2 ^ 20) → s₁.gens = #[] →
      codeAny (model l.prog w) callerA (.call (.ref fa) ⟨[.ref a], []⟩) (fun r s' => r = .ok (.ret (.bool true)) ∧ OldK s₁.heap s'.heap ∧ s'.os = s₁.os ∧ AllBare s'.gens) s₁) :
    WalkO q loose XP YP l.row.toRowW d [] (fun f vs => PySem.call f vs) := by
  intro w s₀ s₁ mg mb G Y fa o pm cd doc dV kV ho hd hcd hD hmg hg args vals as hpre hlay hrd hwl hlo
  obtain rfl : dV = .none := Dflts.none hD hdf
  obtain rfl : kV = .none := Dflts.noKw hD
  obtain ⟨a, vs, ns, rfl, rfl, hobj, hints, hlen⟩ := script_of hn hpre hwl
  refine enter_call (codeAny_mono (call w s₀ s₁ mg mb fa o pm cd doc a vs ns G Y ho (fd_plain hd) hcd hmg hobj hints hlen (bits_of_lay hlay) hg) fun r s' hq => ?_)
  obtain ⟨rfl, h2, h3, h4⟩ := hq
  exact ⟨.inl ⟨.bool true, .bool true, [], rfl, fun _ => rfl, .bool true, post_true l _, fun _ => ⟨List.Pairwise.nil, fun _ hm => (nomatch hm)⟩⟩, h2, h3, h4⟩
end Att
namespace L2
open PySem PySem.Spec PyProof.Rows
noncomputable def spLaw (K : PySem.W.Frag) : Sp := fun vs H Q _ => ∃ (a : Addr) (ns : List Int), vs = [.ref a] ∧ SqL K H a (ns.map V.int) ∧ ns.length ≤ 63 ∧ (∀ n, n ∈ ns → Builtin.Int.intBits n ≤ 2 ^ 20) ∧ ∀ H', Q (.bl true) H'
theorem walk_law {l : PySem.W.OpenLaw} {k : Nat} {q : Program} {loose : List Str} {XP : (Str → Option Value) → Heap → Prop} {YP : World → Heap → Prop} {d : DefRec} {K : Params → PySem.W.Frag} {CX : World → CXT}
    (hn : l.most = some 63) (hdf : d.params.defaults = []) (hr : Room k callerA)
    (hY : ∀ (w : World) (h : Heap), YP w h → (K w.params).In h)
    (hCX : ∀ (w : World) (H : Hp) (s : Shared) (e : Value) (s' : Shared), CX w [] H s (fun _ _ _ => False) e s' → False)
    (F : ∀ (w : World) (mg : Str → Option Value) (fa : Addr) (h : Heap), (K w.params).In h → h.Ns mainGlobals mg → mg d.name = some (.ref fa) →
      ∃ fd : FuncData, (∀ (s : Shared) (u : Value), BindsTo s fd ⟨[u], []⟩ [("script", u)]) ∧
        ∀ base : Heap, (K w.params).In base → base.Ns mainGlobals mg → FnOk l.prog w (K w.params) mg base (CX w) k fa fd ["script"] (spLaw (K w.params))) :
    PySem.W.WalkO q loose XP YP l.row.toRowW d [] (fun f vs => PySem.call f vs) := by
  refine Att.attach_callB hn hdf fun w s₀ s₁ mg mb fa o pm cd doc a vs ns G Y ho hd hcd hmg hobj hints hlen hbits hg => ?_
  have KX := hY w _ Y
  obtain ⟨fd, hb, hF⟩ := F w mg fa _ KX G.T.g hmg
  exact law_call KX G.T.g G.T.b G.T.builtins G.T.nolimit hg hobj hints (Nat.le_trans hlen (by decide)) hr hF hb (fun H hO hS => ⟨a, ns, rfl, hS, hlen, hbits, fun _ => rfl⟩) fun H e s' => hCX w H s₁ e s'
end L2
namespace L2
open PySem PySem.Spec PyProof.Rows
theorem adr {a b : Addr} (h : @Ne Nat a b) : a ≠ b := h
theorem ltN {h : Heap} {b : Addr} {o : Obj} (e : h.get? b = some o) : @LT.lt Nat instLTNat b h.objs.size := Heap.lt_size e
noncomputable def ClOk (cells : List (Str × Addr)) : List (Str × Addr) → Prop
  | [] => True
  | y :: r => cells.lookup y.1 = some y.2 ∧ ClOk cells r
theorem ClOk.get {cells : List (Str × Addr)} : ∀ {cl : List (Str × Addr)}, ClOk cells cl → ∀ {x : Str} {c : Addr}, cl.lookup x = some c → cells.lookup x = some c
  | (y, d) :: r, ⟨h, hr⟩, x, c, e => by
    by_cases q : x = y
    · subst q
      simp only [List.lookup_cons, beq_self_eq_true] at e
      cases e
      exact h
    · have q' : (x == y) = false := by simpa using q
      simp only [List.lookup_cons, q'] at e
      exact ClOk.get hr e
noncomputable def CapsOk (X : Cx) (sc : Scope) (cl : List (Str × Addr)) : List Nat → List Str → Prop
  | [], [] => True
  | j :: js, x :: xs => X.N[j]? = some x ∧ X.env.scope.names.lookup x = some .cell ∧ sc.names.lookup x = some .cell ∧ (cl.lookup x).isSome = true ∧ CapsOk X sc cl js xs
  | _, _ => False
noncomputable def capV (caps : List Nat) (σ : St) : St := caps.map fun j => (σ[j]?).getD none
noncomputable def compCx (X : Cx) (N : List Str) (scope : Scope) (cl : List (Str × Addr)) (C : Addr) (s : Shared) (H : Hp) (fp : List Addr) : Cx where
  prog := X.prog
  w := X.w
  K := X.K
  mg := X.mg
  base := X.base
  A := X.A
  N := N
  s₀ := s
  H₀ := H
  env := compEnvC scope cl C X.env
  outer := X.stack
  stack := X.stack
  ex := fp
  fn := fun _ => false
  calm := X.calm
  pn := []
  xe := fun _ _ => False
theorem mem_of_lookup {α : Type} {x : Str} {k : α} : ∀ {l : List (Str × α)}, l.lookup x = some k → (x, k) ∈ l
  | (y, j) :: r, e => by
    by_cases q : x = y
    · subst q
      simp only [List.lookup_cons, beq_self_eq_true] at e
      cases e
      exact .head _
    · have q' : (x == y) = false := by simpa using q
      simp only [List.lookup_cons, q'] at e
      exact .tail _ (mem_of_lookup e)
section
variable {X : Cx} {pins : List (Addr × Obj)} {σ : St} {H : Hp} {s : Shared} {N : List Str} {scope : Scope} {cl : List (Str × Addr)} {C : Addr} {fp : List Addr} {caps : List Nat} {xs : List Str}
theorem comp_ok (I : Inv X pins σ H s) (hcl : ClOk X.env.cells cl) (hk : scope.kind = .function) (hfp : ∀ b ∈ fp, FpOk X pins H b) (hlt : ∀ b ∈ fp, b < s.heap.objs.size)
    (hhas : ((relabel scope X.env).names.all fun y => !(y.2 == .cell || y.2 == .free) || (cl.lookup y.1).isSome) = true) (hC : s.heap.objs.size ≤ C) : (compCx X N scope cl C s H fp).Ok where
  mod := I.ok.mod
  kind := hk
  glob := I.ok.glob
  blt := I.ok.blt
  above := hC
  inj := fun x y c h1 h2 => I.ok.inj x y c (hcl.get h1) (hcl.get h2)
  has := fun x h => by
    have key : ∀ k : NameKind, (k = .cell ∨ k = .free) → (relabel scope X.env).names.lookup x = some k → ∃ c, cl.lookup x = some c := fun k hk e => by
      have h1 := List.all_eq_true.mp hhas _ (mem_of_lookup e)
      have h2 : (cl.lookup x).isSome = true := by
        rcases hk with rfl | rfl <;> simpa using h1
      exact Option.isSome_iff_exists.mp h2
    rcases h with h | h
    · exact key _ (.inl rfl) h
    · exact key _ (.inr rfl) h
  cab := fun x c h => by cases h
  hd := I.ok.hd
  frames := I.ok.frames
  stk := .inl rfl
  exf := fun b hb => ⟨fun z => by
      have h1 : @LT.lt Nat instLTNat b s.heap.objs.size := hlt b hb
      have z' : @Eq Nat b C := z
      have hC' : @LE.le Nat _ s.heap.objs.size C := hC
      ((try clear hC' hhas hk z); omega), fun x c e => (hfp b hb).2.2.2.2.1 x c (hcl.get e)⟩
  bs := I.bs
  bsz := Nat.le_trans I.ok.bsz I.sz
  noex := fun b o e hb => by
    rcases (hfp b hb).2.2.2.1 with z | z
    · exact I.ok.noex b o e z
    · have h1 : @LT.lt Nat _ b X.base.objs.size := Heap.lt_size e
      have h2 := I.ok.bsz
      have z' : @LE.le Nat _ X.s₀.heap.objs.size b := z
      ((try clear e hC hhas hk z'); omega)
  exfs := fun b hb z => by
    have h1 := I.stkSub b z
    rcases List.mem_cons.mp h1 with q | q
    · exact (hfp b hb).2.1 q
    · exact (hfp b hb).2.2.1 q
  funs := I.stack
  frf := I.stkFree
theorem cap_get : ∀ {caps : List Nat} {xs : List Str}, CapsOk X (relabel scope X.env) cl caps xs → ∀ {i : Nat} {x : Str} {v : V}, xs[i]? = some x → (capV caps σ)[i]? = some (some v) →
    ∃ j : Nat, X.N[j]? = some x ∧ σ[j]? = some (some v) ∧ X.env.scope.names.lookup x = some .cell ∧ (relabel scope X.env).names.lookup x = some .cell ∧ ∃ c, cl.lookup x = some c
  | [], [], _, i, x, v, h, _ => by simp at h
  | j :: js, y :: ys, ⟨h1, h2, h3, h4, hr⟩, 0, x, v, h, e => by
    simp only [List.getElem?_cons_zero, Option.some.injEq] at h
    subst h
    have e' : (σ[j]?).getD none = some v := by simpa [capV] using e
    refine ⟨j, h1, ?_, h2, h3, Option.isSome_iff_exists.mp h4⟩
    cases q : σ[j]? with
    | none => rw [q] at e'; cases e'
    | some o => rw [q] at e'; exact congrArg some e'
  | j :: js, y :: ys, ⟨_, _, _, _, hr⟩, i + 1, x, v, h, e => cap_get hr (by simpa using h) (by simpa [capV] using e)
theorem comp_start (I : Inv X pins σ H s) (hcl : ClOk X.env.cells cl) (hk : scope.kind = .function) (hfp : ∀ b ∈ fp, FpOk X pins H b) (hlt : ∀ b ∈ fp, b < s.heap.objs.size)
    (hhas : ((relabel scope X.env).names.all fun y => !(y.2 == .cell || y.2 == .free) || (cl.lookup y.1).isSome) = true) (hC : s.heap.objs.size ≤ C)
    (hcap : CapsOk X (relabel scope X.env) cl caps xs) (hlen : caps.length = xs.length) {x : Str} {h₁ : Heap} {t : Nat} {m : Str → Option Value} (hn : h₁.Ns C m) (kp : ∀ b o, s.heap.get? b = some o → h₁.get? b = some o) :
    Inv (compCx X (x :: xs) scope cl C s H fp) [] (none :: capV caps σ) H { s with heap := h₁, toks := t } where
  ok := comp_ok I hcl hk hfp hlt hhas hC
  os := rfl
  bare := I.bare
  base := Un.kept kp
  loc := by
    refine ⟨m, hn, fun i y v h1 h2 _ => ?_⟩
    cases i with
    | zero => simp at h2
    | succ i =>
      obtain ⟨j, e1, e2, e3, e4, c, e5⟩ := cap_get (X := X) (scope := scope) hcap (i := i) (by simpa [compCx] using h1) (by simpa using h2)
      obtain ⟨m₀, _, hl⟩ := I.loc
      obtain ⟨u, r, lk⟩ := hl j y v e1 e2 (.inr (.inl e3))
      refine ⟨u, r, .inr ⟨.inl e4, c, e5, ?_⟩⟩
      rcases lk with ⟨z, _⟩ | ⟨_, c', q1, q2⟩
      · have z' : X.env.scope.names.lookup y = some .local := z
        rw [e3] at z'
        cases z'
      · rw [hcl.get e5] at q1
        cases q1
        obtain ⟨o, ho, hd⟩ := q2
        exact ⟨o, kp _ _ ho, hd⟩
  cell := fun y c e => by
    obtain ⟨v, o, ho, hd⟩ := I.cell y c (hcl.get e)
    exact ⟨v, o, kp _ _ ho, hd⟩
  free := I.hok.fresh hC
  freeC := fun y c e => I.freeC y c (hcl.get e)
  pin := fun p hp => by
    have hp' : p ∈ ([] : List (Addr × Obj)) := hp
    cases hp'
  hok := I.hok.kept kp
  len := by simp [compCx, capV, hlen]
end
noncomputable def PTs (X : Cx) (ifs : List Expr) (t : TT) : Prop :=
  ∀ (pins : List (Addr × Obj)) (s : Shared) (σ : St) (H : Hp) (Q : Bool → Hp → Prop), Inv X pins σ H s → t σ H Q →
    wpAny (model X.prog X.w) X.A (forIn ifs true fun c r => if r = true then do let ok ← isTrue c X.env (eval c X.env); pure (ForInStep.yield ok) else pure (ForInStep.yield r)) (TP X pins σ Q) X.xe s
theorem pts_nil {X : Cx} : PTs X [] (fun _ H Q => Q true H) := fun _ _ _ H _ I h => wpAny_tests_nil ⟨H, I, h⟩
theorem pts_one {X : Cx} {c : Expr} {t : TT} (h : PT X c t) : PTs X [c] t := fun pins s σ H Q I q => wpAny_tests_one (h pins s σ H Q I q)
noncomputable def tComp (caps : List Nat) (wi : TI) (tt : TT) (te : TE) : TE := fun σ H Q => wi σ H fun J H1 => ∃ (n : Nat) (W : Nat → List V → Hp → Prop), n ≤ sizeLine ∧ W 0 [] H1 ∧ ∀ i ys H2, W i ys H2 →
  (J.stop i H2 ∧ ∀ p, H2 p = none → Q (.ref p) (upd H2 p (.lst ys))) ∨
  (J.go i H2 ∧ i < n ∧ ∀ x H3, J.yld i H2 x H3 → tt (some x :: capV caps σ) H3 fun b H4 => if b = true then te (some x :: capV caps σ) H4 fun v H5 => W (i + 1) (ys ++ [v]) H5 else W (i + 1) ys H4)
section
variable {prog : Program} {w : World} {A : Around} {R : Result → Shared → Prop} {s : Shared}
theorem comp_loop {elt target iter : Expr} {ifs : List Expr} {scope : Scope} {pos : Pos} {it acc : Value} {env : Env} (I : Nat → Shared → Prop)
    (turn : ∀ n s, I n s → wpAny (model prog w) A (pyNext it) (fun r s₁ => match r with
      | none => R (.ok .next) s₁
      | some v => wpAny (model prog w) A (letOwnedTupleGo target it v) (fun _ s₁ => wpAny (model prog w) A (assign target env v) (fun _ s₂ =>
          wpAny (model prog w) A (forIn ifs true fun c r => if r = true then do let ok ← isTrue c env (eval c env); pure (ForInStep.yield ok) else pure (ForInStep.yield r)) (fun ok s₃ =>
            if ok = true then wpAny (model prog w) A (eval elt env) (fun x s₄ =>
              wpAny (model prog w) A (call (.builtin "list.append") [acc, x]) (fun _ s₅ => ∃ m, m < n ∧ I m s₅) (fun _ _ => False) s₄) (fun _ _ => False) s₃
            else ∃ m, m < n ∧ I m s₃) (fun _ _ => False) s₂) (fun _ _ => False) s₁) (fun _ _ => False) s₁) (fun _ _ => False) s)
    (n : Nat) (h : I n s) :
    codeAny (model prog w) A (.compLoop (.ListComp elt [⟨target, iter, ifs, 0⟩] scope pos) 0 it acc env) R s := by
  refine codeAny_loop rfl I (fun n s hI => ?_) n h
  show wpAny _ A ((compTurn (.ListComp elt [⟨target, iter, ifs, 0⟩] scope pos) 0 it acc env).onRaise (fun x => do noteFrame x env; theTreesLotGoes x)) _ _ s
  refine wpAny_noted ?_
  rw [compTurn_list]
  refine wpAny_bind (wpAny_standAt (wpAny_bind (wpAny_mono (turn n s hI) (fun r s₁ h₁ => ?_) fun _ _ h' => h'.elim)))
  cases r with
  | none => exact wpAny_pure h₁
  | some v =>
    refine wpAny_bind (wpAny_mono h₁ (fun _ s₁ h₁ => ?_) fun _ _ h' => h'.elim)
    refine wpAny_bind (wpAny_mono h₁ (fun _ s₂ h₂ => wpAny_bind (wpAny_mono h₂ (fun ok s₃ h₃ => ?_) fun _ _ h' => h'.elim)) fun _ _ h' => h'.elim)
    cases ok with
    | false => exact wpAny_pure ⟨rfl, h₃⟩
    | true =>
      exact wpAny_bind (wpAny_bind (wpAny_mono h₃ (fun x s₄ h₄ => wpAny_bind (wpAny_mono h₄ (fun _ s₅ h₅ => wpAny_pure (wpAny_pure ⟨rfl, h₅⟩)) fun _ _ h' => h'.elim)) fun _ _ h' => h'.elim))
end
noncomputable def Loose (X : Cx) (pins : List (Addr × Obj)) (H : Hp) (C : Addr) : Prop :=
  H C = none ∧ C ≠ X.env.locals ∧ X.s₀.heap.objs.size ≤ C ∧ (∀ x c, X.env.cells.lookup x = some c → c ≠ C) ∧ ∀ p ∈ X.pn ++ pins, p.1 ≠ C
theorem Inv.letGo {X : Cx} {pins : List (Addr × Obj)} {σ : St} {H : Hp} {s : Shared} {C : Addr} {h' : Heap} (I : Inv X pins σ H s) (l : Loose X pins H C) (k : Heap.SameBut C s.heap h') : Inv X pins σ H { s with heap := h' } :=
  I.turned (it := C) (t' := s.toks) (fun b o hb e => k.extBut b o hb e) l.1 l.2.1 (.inr l.2.2.1) l.2.2.2.1 l.2.2.2.2
section
variable {X : Cx}
theorem comp_block {elt iter : Expr} {x : Str} {px pos : Pos} {ifs : List Expr} {scope : Scope} {cl : List (Str × Addr)} {caps : List Nat} {xs : List Str} {tt : TT} {te : TE}
    (hc : X.calm = true) (hcl : ClOk X.env.cells cl) (hcap : CapsOk X (relabel scope X.env) cl caps xs) (hlen : caps.length = xs.length)
    (hkind : scope.kind = .function) (hcell : ∀ y ∈ scope.names, y.2 ≠ .cell)
    (hhas : ((relabel scope X.env).names.all fun y => !(y.2 == .cell || y.2 == .free) || (cl.lookup y.1).isSome) = true)
    (hx : (relabel scope X.env).names.lookup x = some .local) (hN : (x :: xs).Nodup)
    (ht : ∀ C s H fp, PTs (compCx X (x :: xs) scope cl C s H fp) ifs tt) (he : ∀ C s H fp, PE (compCx X (x :: xs) scope cl C s H fp) elt te)
    {pins : List (Addr × Obj)} {σ : St} {H1 : Hp} {s2 : Shared} {it : Addr} {fp : List Addr} {tn : Nat → Heap → Prop} {J : It} {Q : VK}
    (I2 : Inv X pins σ H1 s2) (T : Turn X.prog X.w X.K (.Name x px) J fp it tn) (st0 : tn 0 s2.heap) (hfp : ∀ b ∈ fp, FpOk X pins H1 b)
    (hq : ∃ (n : Nat) (W : Nat → List V → Hp → Prop), n ≤ sizeLine ∧ W 0 [] H1 ∧ ∀ i ys H2, W i ys H2 →
      (J.stop i H2 ∧ ∀ p, H2 p = none → Q (.ref p) (upd H2 p (.lst ys))) ∨
      (J.go i H2 ∧ i < n ∧ ∀ x H3, J.yld i H2 x H3 → tt (some x :: capV caps σ) H3 fun b H4 => if b = true then te (some x :: capV caps σ) H4 fun v H5 => W (i + 1) (ys ++ [v]) H5 else W (i + 1) ys H4))
    {RR : Value → Addr → Result → Shared → Prop}
    (hRR : ∀ s1 D C m H', Inv X pins σ H' s1 → s1.heap.Ns C m → Loose X pins H' C → Q (.ref D) H' → RR (.ref D) C (.ok .next) s1) :
    wpAny (model X.prog X.w) X.A (newList []) (fun acc s₃ => wpAny (model X.prog X.w) X.A (newFunctionEnv scope X.env.globals cl [] X.env.qual none .none (some X.env)) (fun cenv s₄ =>
      codeAny (model X.prog X.w) X.A (.compStart (.ListComp elt [⟨.Name x px, iter, ifs, 0⟩] scope pos) 0 (.ref it) acc { cenv with scope := relabel scope X.env }) (RR acc cenv.locals) s₄) X.xe s₃) X.xe s2 := by
  obtain ⟨n, W, hn, w0, hW⟩ := hq
  have hlt : ∀ b ∈ fp, b < s2.heap.objs.size := fun b hb => by
    obtain ⟨o, ho, _⟩ := T.obj 0 s2.heap st0 b hb
    exact Heap.lt_size ho
  refine wpAny_newObj_type (wpAny_newFunctionEnv hcell (by intro y hy; simp at hy) (fun h₁ hns₁ hsb₁ => ?_) hkind)
  dsimp only at hns₁ hsb₁ ⊢
  generalize hH2 : s2.heap.push { cls := .type "list", dict := none, data := .seq ([] : List Value).toArray } = G at hns₁ hsb₁ ⊢
  have hC : G.objs.size = s2.heap.objs.size + 1 := by rw [← hH2, Heap.size_push]
  have hDC : s2.heap.objs.size ≠ G.objs.size := by ((try clear hH2 hc hhas hkind hlen hn hx); omega)
  have old : ∀ b o, s2.heap.get? b = some o → h₁.get? b = some o := fun b o e => hsb₁.extBut b o (adr (by have h1 : @LT.lt Nat _ b s2.heap.objs.size := Heap.lt_size e; ((try clear e hDC hH2 hc hhas hkind hlen hn hx); omega))) (Heap.get?_push_of_some _ (hH2 ▸ Heap.get?_push_of_some _ e))
  have hacc : h₁.get? s2.heap.objs.size = some { cls := .type "list", dict := none, data := .seq ([] : List Value).toArray } :=
    hsb₁.extBut _ _ hDC (Heap.get?_push_of_some _ (hH2 ▸ Heap.get?_push_size _ rfl))
  have I3 : Inv (compCx X (x :: xs) scope cl G.objs.size s2 H1 fp) [] (none :: capV caps σ) H1 { s2 with heap := h₁, toks := s2.toks + ([] : List (Str × Value)).length } :=
    comp_start I2 hcl hkind hfp hlt hhas (by ((try clear hDC hH2 hacc hc hhas hkind hlen hn hx); omega)) hcap hlen hns₁ old
  have st1 : tn 0 h₁ := T.keep 0 _ _ st0 fun b hb o e => old b o e
  have fpX : ∀ {pins' : List (Addr × Obj)} {H' : Hp} (b : Addr), b ∈ fp → H' b = none → (∀ p ∈ pins', p.1 ≠ b) → FpOk (compCx X (x :: xs) scope cl G.objs.size s2 H1 fp) pins' H' b := fun b hb hh hp =>
    ⟨hh, fun z => by have h1 : @LT.lt Nat _ b s2.heap.objs.size := hlt b hb; have z' : @Eq Nat b G.objs.size := z; ((try clear hDC hH2 hacc hc hh hhas hkind hlen hn hx z); omega), fun z => by
      rcases List.mem_cons.mp (I2.stkSub b z) with q | q
      · exact (hfp b hb).2.1 q
      · exact (hfp b hb).2.2.1 q, .inl hb, fun y c e => (hfp b hb).2.2.2.2.1 y c (hcl.get e), fun p hp' => hp p hp'⟩
  let XC := compCx X (x :: xs) scope cl G.objs.size s2 H1 fp
  have loop : ∀ s3 : Shared, s3 = { s2 with heap := h₁, toks := s2.toks + ([] : List (Str × Value)).length } →
      codeAny (model X.prog X.w) X.A (.compLoop (.ListComp elt [⟨.Name x px, iter, ifs, 0⟩] scope pos) 0 (.ref it) (.ref s2.heap.objs.size) (compEnvC scope cl G.objs.size X.env))
        (RR (.ref s2.heap.objs.size) G.objs.size) s3 := by
    rintro s3 rfl
    refine comp_loop (fun m s' => ∃ (i : Nat) (ys : List V) (Hn : Hp) (its : List Value) (k : Nat) (v0 : Option V), m = n + 1 - i ∧ i ≤ n ∧ ys.length ≤ i ∧ W i ys Hn ∧ Vals ys its ∧ tn i s'.heap ∧ (∀ b ∈ fp, Hn b = none) ∧
      Inv XC [(s2.heap.objs.size, { cls := .type "list", data := .seq its.toArray k })] (v0 :: capV caps σ) Hn s') ?_ (n + 1) ?_
    · rintro m s' ⟨i, ys, Hn, its, k, v0, rfl, hin, hyl, w, rv, st, hfn, J'⟩
      have pD := J'.pin _ (List.mem_append_right _ (List.mem_singleton.mpr rfl))
      have neD : ∀ b ∈ fp, ∀ p ∈ [((s2.heap.objs.size, ({ cls := .type "list", data := .seq its.toArray k } : Obj)))], p.1 ≠ b := fun b hb p hp z => by
        have h1 : @LT.lt Nat instLTNat b s2.heap.objs.size := hlt b hb
        rw [List.mem_singleton.mp hp] at z
        have z' : @Eq Nat s2.heap.objs.size b := z
        ((try clear hC hDC hH2 hacc hc hhas hin hkind hlen hn hx hyl pD z'); omega)
      rcases hW i ys Hn w with ⟨hstop, fin⟩ | ⟨hgo, hi', hgo'⟩
      · -- it stops
        refine wpAny_mono (T.done XC rfl rfl rfl hc i _ s' _ Hn (fun _ _ => False) J' (fun b hb => fpX b hb (hfn b hb) (neD b hb)) st hstop) (fun r s1 hr => ?_) fun _ _ z => z
        obtain ⟨rfl, J1⟩ := hr
        obtain ⟨mC, hnC, _⟩ := J1.loc
        have pD1 := J1.pin _ (List.mem_append_right _ (List.mem_singleton.mpr rfl))
        have hD' : s1.heap.get? s2.heap.objs.size = some { cls := .type "list", data := .seq its.toArray k } := pD1.1
        have hHD : Hn s2.heap.objs.size = none := pD1.2.1
        have hHC : Hn G.objs.size = none := J1.free
        have un : Un (frs X.stack) fp H1 (upd Hn s2.heap.objs.size (.lst ys)) s2.heap s1.heap := by
          have u := J1.base
          have lt2 : ∀ b o, s2.heap.get? b = some o → b ≠ G.objs.size ∧ b ≠ s2.heap.objs.size := fun b o e => by
            have h1 := ltN e
            exact ⟨adr (by ((try clear e hD' hDC hH2 hHC hHD hacc hc hhas hin hkind hlen hn hx hyl pD pD1); omega)), adr (by ((try clear e hC hD' hDC hH2 hHC hHD hacc hc hhas hin hkind hlen hn hx hyl pD pD1); omega))⟩
          refine ⟨u.keep, u.slot, fun b o e n1 n2 => ?_, u.there, fun b zs e => ?_, fun b o u' e => ?_, fun b ps e => ?_⟩
          · rw [upd_ne (lt2 b o e).2]
            exact u.free b o e n1 n2
          · have q := u.tups b zs e
            rw [upd_ne (fun z => by rw [z, hHD] at q; cases q)]
            exact q
          · have q := u.frzs b o u' e
            rw [upd_ne (fun z => by rw [z, hHD] at q; cases q)]
            exact q
          · obtain ⟨more, q⟩ := u.tbls b ps e
            refine ⟨more, ?_⟩
            rw [upd_ne (fun z => by rw [z, hHD] at q; cases q)]
            exact q
        have hok : HOk X.prog X.w (upd Hn s2.heap.objs.size (.lst ys)) s1.heap := fun a o e => by
          by_cases ha : a = s2.heap.objs.size
          · subst ha
            rw [upd_same] at e
            cases e
            exact ⟨by ((try clear hC hD' hDC hH2 hHC hHD hacc hc hhas hkind hlen hx pD pD1); omega), its, k, rv, hD'⟩
          · rw [upd_ne ha] at e
            have q : ObjOk X.prog X.w Hn s1.heap a o := J1.hok a o e
            refine q.stay (fun b u' hb e' => e') (fun b e' => ?_) fun b zs e' => ?_
            · rw [upd_ne (fun z => by rw [z, hHD] at e'; cases e')]; exact e'
            · rw [upd_ne (fun z => by rw [z, hHD] at e'; cases e')]; exact e'
        have I4 : Inv X pins σ (upd Hn s2.heap.objs.size (.lst ys)) s1 :=
          I2.call' (ch := fp) J1.os un hok J1.bare fun b hb => ⟨(hfp b hb).2.2.2.1, (hfp b hb).2.1, (hfp b hb).2.2.2.2.1, (hfp b hb).2.2.2.2.2⟩
        refine hRR s1 _ _ mC _ I4 hnC ⟨by rw [upd_ne (Ne.symm hDC)]; exact hHC, fun z => ?_, by have := I2.sz; ((try clear hD' hDC hH2 hHC hHD hacc hc hhas hin hkind hlen hn hx hyl pD pD1); omega), fun y c e z => ?_, fun p hp z => ?_⟩ (fin _ hHD)
        · have h1 : @LT.lt Nat instLTNat X.env.locals s2.heap.objs.size := I2.lt
          have z' : @Eq Nat G.objs.size X.env.locals := z
          ((try clear hD' hDC hH2 hHC hHD hacc hc hhas hin hkind hlen hn hx hyl pD pD1 z); omega)
        · obtain ⟨v', o', ho', _⟩ := I2.cell y c e
          have h1 := ltN ho'
          have z' : @Eq Nat c G.objs.size := z
          ((try clear e hD' hDC hH2 hHC hHD hacc hc hhas hin hkind hlen hn ho' hx hyl pD pD1 z); omega)
        · have h1 := ltN (I2.pin p hp).1
          have z' : @Eq Nat p.1 G.objs.size := z
          ((try clear hD' hDC hH2 hHC hHD hacc hc hhas hin hkind hlen hn hx hyl pD pD1 z); omega)
      · -- a turn
        refine wpAny_mono (T.item XC rfl rfl rfl hc i _ s' _ Hn (fun _ _ => False) J' (fun b hb => fpX b hb (hfn b hb) (neD b hb)) st hgo) (fun r s1 hr => ?_) fun _ _ z => z
        obtain ⟨u, rfl, hr⟩ := hr
        refine wpAny_mono hr (fun _ s2' h2 => ?_) fun _ _ z => z
        obtain ⟨v, H3, J1, ru, hy, st1', hf3⟩ := h2
        refine wpAny_assign_Name ?_
        refine store_ok2 (v := v) J1 hN (i := 0) rfl (.inl hx) ru (fun s4 J2 hsb => ?_) (.inr hx)
        have st4 : tn (i + 1) s4.heap := by
          obtain ⟨a, hsa, ha⟩ := hsb
          refine T.keep _ _ _ st1' fun b hb o e => hsa.extBut b o (fun z => ?_) e
          rcases ha with ha | ha
          · have h1 : @LT.lt Nat instLTNat b s2.heap.objs.size := hlt b hb
            have ha' : @Eq Nat a G.objs.size := ha
            have z' : @Eq Nat b a := z
            ((try clear e hDC hH2 ha hacc hc hhas hi' hin hkind hlen hn hx hyl pD z); omega)
          · exact (hfp b hb).2.2.2.2.1 x a (hcl.get ha) z.symm
        have J2' : Inv XC [(s2.heap.objs.size, { cls := .type "list", data := .seq its.toArray k })] (some v :: capV caps σ) H3 s4 := J2
        have ob4 : ∀ b ∈ fp, ∃ o, s4.heap.get? b = some o ∧ ∀ v, o.data ≠ .cell v := fun b hb => T.obj _ _ st4 b hb
        have J3 := J2'.pinned (fun b hb => fpX b hb (hf3 b hb) (neD b hb)) ob4
        have tnAt : ∀ {σ' : St} {H' : Hp} {s'' : Shared}, Inv XC ([(s2.heap.objs.size, ({ cls := .type "list", data := .seq its.toArray k } : Obj))] ++ pinsAt fp s4.heap) σ' H' s'' → tn (i + 1) s''.heap ∧ ∀ b ∈ fp, H' b = none := fun J4 =>
          ⟨T.keep _ _ _ st4 fun b hb o e => (J4.pin (b, o) (List.mem_append_right _ (List.mem_append_right _ (mem_pinsAt hb e)))).1, fun b hb => by
            obtain ⟨o, e, _⟩ := ob4 b hb
            exact (J4.pin (b, o) (List.mem_append_right _ (List.mem_append_right _ (mem_pinsAt hb e)))).2.1⟩
        refine thn (ht _ _ _ _ _ s4 _ H3 _ J3 (hgo' v H3 hy)) fun ok s5 ⟨H4, J4, q4⟩ => ?_
        cases ok with
        | false =>
          rw [if_neg (by simp)]
          have q4' : W (i + 1) ys H4 := q4
          obtain ⟨a1, a2⟩ := tnAt J4
          exact ⟨n + 1 - (i + 1), by ((try clear hC hDC hH2 hacc hc hhas hin hkind hlen hn hx hyl pD); omega), i + 1, ys, H4, its, k, some v, rfl, by ((try clear hC hDC hH2 hacc hc hhas hin hkind hlen hn hx hyl pD); omega), by ((try clear hC hDC hH2 hacc hc hhas hi' hin hkind hlen hn hx pD); omega), q4', rv, a1, a2, J4.unpinned⟩
        | true =>
          rw [if_pos rfl]
          have q4' : te (some v :: capV caps σ) H4 fun v H5 => W (i + 1) (ys ++ [v]) H5 := q4
          refine thn (he _ _ _ _ _ s5 _ H4 _ J4 q4') fun uv s6 ⟨y, H5, J5, ry, q5⟩ => ?_
          obtain ⟨a1, a2⟩ := tnAt J5
          have pD6 := J5.pin _ (List.mem_append_right _ (List.mem_append_left _ (List.mem_singleton.mpr rfl)))
          have hl6 := rv.length
          refine call_meets F.slot_list_append ⟨_, pD6.1, rfl⟩ F.entry_list_append (F.args_list_append_2 _ _) (PySem.list_append s2.heap.objs.size its.toArray k uv (by rw [List.size_toArray]; ((try clear hC hDC hH2 hacc hc hhas hin hkind hlen hx pD pD6); omega))) ⟨pD6.1, ?_⟩
          have J6 : Inv XC [] (some v :: capV caps σ) H5 s6 := J5.pins_of fun p hp => by cases hp
          have ne6 : s2.heap.objs.size ∉ fp := fun z => by have h1 : @LT.lt Nat instLTNat s2.heap.objs.size s2.heap.objs.size := hlt _ z; ((try clear hC hDC hH2 hacc hc hhas hi' hin hkind hl6 hlen hn hx hyl pD pD6); omega)
          have J7 : Inv XC [] (some v :: capV caps σ) H5 { s6 with heap := s6.heap.update s2.heap.objs.size (Obj.mapSeq fun xs => xs.push uv), toks := s6.toks } :=
            J6.turned (it := s2.heap.objs.size) (fun b o hb e => by rw [Heap.get?_update_other _ _ (Ne.symm hb)]; exact e) pD6.2.1 (fun z => hDC z) (.inr (Nat.le_refl _)) (fun y c e z => by
              have e1 := I2.cell y c (hcl.get e)
              obtain ⟨v', o', ho', _⟩ := e1
              have h1 := ltN ho'
              have z' : @Eq Nat c s2.heap.objs.size := z
              ((try clear e hC hDC hH2 hacc hc hhas hi' hin hkind hl6 hlen hn ho' hx hyl ne6 pD pD6 z); omega)) (fun p hp => by cases hp)
          refine ⟨n + 1 - (i + 1), by ((try clear hC hDC hH2 hacc hc hhas hin hkind hl6 hlen hn hx hyl ne6 pD pD6); omega), i + 1, ys ++ [y], H5, its ++ [uv], k + 1, some v, rfl, by ((try clear hC hDC hH2 hacc hc hhas hin hkind hl6 hlen hn hx hyl ne6 pD pD6); omega), by rw [List.length_append, List.length_singleton]; ((try clear hC hDC hH2 hacc hc hhas hi' hin hkind hlen hn hx ne6 pD pD6); omega), q5, rv.append (.cons ry .nil), ?_, a2, ?_⟩
          · refine T.keep _ _ _ a1 fun b hb o e => ?_
            show (s6.heap.update s2.heap.objs.size _).get? b = some o
            rw [Heap.get?_update_other _ _ (fun z => ne6 (by rw [z]; exact hb))]
            exact e
          · refine J7.pins_of fun p hp => ?_
            rw [List.mem_singleton.mp hp]
            refine ⟨?_, pD6.2.1, fun z => hDC z, pD6.2.2.2.1, fun v' z => ?_⟩
            · show (s6.heap.update s2.heap.objs.size _).get? s2.heap.objs.size = _
              rw [Heap.get?_update_self _ pD6.1 rfl]
              simp only [Obj.mapSeq, List.push_toArray]
              rw [if_neg (by simp)]
            · have z' : Data.seq _ _ = Data.cell v' := z
              cases z'
    · exact ⟨0, [], H1, [], 0, none, by ((try clear hC hDC hH2 hacc hc hhas hkind hlen hn hx); omega), by ((try clear hC hDC hH2 hacc hc hhas hkind hlen hn hx); omega), by simp, w0, .nil, st1, fun b hb => (hfp b hb).1, I3.pins_of fun p hp => by
        rw [List.mem_singleton.mp hp]
        refine ⟨hacc, I2.hok.fresh (Nat.le_refl _), fun z => hDC z, fun z => ?_, fun v' z => ?_⟩
        · have := I2.stkFree _ z
          rcases List.mem_cons.mp (I2.stkSub _ z) with q | q
          · have h1 : @LT.lt Nat instLTNat X.env.locals s2.heap.objs.size := I2.lt
            have z' : @Eq Nat s2.heap.objs.size X.env.locals := q
            ((try clear hC hDC hH2 hacc hc hhas hkind hlen hn hx q this); omega)
          · exact I2.nofs (Nat.le_refl _) q
        · have z' : Data.seq _ _ = Data.cell v' := z
          cases z'⟩
  exact codeAny_compStart_list (loop _ rfl) (T.self X.A 0 _ _ _ st1 (loop _ rfl))
theorem pe_comp {elt iter : Expr} {x : Str} {px pos : Pos} {ifs : List Expr} {scope : Scope} {cl : List (Str × Addr)} (caps : List Nat) (xs : List Str) {wi : TI} {tt : TT} {te : TE}
    (hc : X.calm = true) (hclos : closureFor scope X.env = pure cl) (hcl : ClOk X.env.cells cl) (hcap : CapsOk X (relabel scope X.env) cl caps xs) (hlen : caps.length = xs.length)
    (hkind : scope.kind = .function) (hcell : ∀ y ∈ scope.names, y.2 ≠ .cell) (hnames : ∀ y ∈ scope.names, y.2 = .local → scope.names.lookup y.1 = some .local)
    (hhas : ((relabel scope X.env).names.all fun y => !(y.2 == .cell || y.2 == .free) || (cl.lookup y.1).isSome) = true)
    (hx : (relabel scope X.env).names.lookup x = some .local) (hN : (x :: xs).Nodup)
    (hi : PI X (.Name x px) iter wi) (ht : ∀ C s H fp, PTs (compCx X (x :: xs) scope cl C s H fp) ifs tt) (he : ∀ C s H fp, PE (compCx X (x :: xs) scope cl C s H fp) elt te)
    (hs : ∀ v, foldedSetIterable iter X.env v = pure v := by intro _; rfl) : PE X (.ListComp elt [⟨.Name x px, iter, ifs, 0⟩] scope pos) (tComp caps wi tt te) := by
  intro pins s σ H Q I h
  rw [eval_ListComp]
  refine wpAny_comprehension_free (use := none) rfl hs hclos hkind hnames (wpAny_mono (hi pins s σ H _ I h) (fun v s1 h1 => wpAny_mono h1 (fun itv s2 h2 => ?_) fun _ _ e => e) fun _ _ e => e)
  obtain ⟨it, fp, tn, J, H1, rfl, I2, T, st0, hfp, hq⟩ := h2
  refine comp_block (RR := fun acc C => compPost (model X.prog X.w) X.A X.xe none (EP X pins σ Q) acc C) hc hcl hcap hlen hkind hcell hhas hx hN ht he I2 T st0 hfp hq ?_
  intro s1 D C m H' I4 hn l q
  exact ⟨m, hn, fun h' hsb => ⟨.ref D, H', I4.letGo l hsb, rfl, q⟩⟩
theorem ps_comp {elt iter : Expr} {x y : Str} {px py pos spos : Pos} {ifs : List Expr} {scope : Scope} {cl : List (Str × Addr)} {k : Nat} (caps : List Nat) (xs : List Str) {wi : TI} {tt : TT} {te : TE}
    (hsw : swapsWith (.ListComp elt [⟨.Name x px, iter, ifs, 0⟩] scope pos) (some (.Name y py)) spos.line X.env = pure true)
    (hNX : X.N.Nodup) (hk : X.N[k]? = some y) (hy : X.env.scope.names.lookup y = some .local)
    (hc : X.calm = true) (hclos : closureFor scope X.env = pure cl) (hcl : ClOk X.env.cells cl) (hcap : CapsOk X (relabel scope X.env) cl caps xs) (hlen : caps.length = xs.length)
    (hkind : scope.kind = .function) (hcell : ∀ y ∈ scope.names, y.2 ≠ .cell) (hnames : ∀ y ∈ scope.names, y.2 = .local → scope.names.lookup y.1 = some .local)
    (hhas : ((relabel scope X.env).names.all fun y => !(y.2 == .cell || y.2 == .free) || (cl.lookup y.1).isSome) = true)
    (hx : (relabel scope X.env).names.lookup x = some .local) (hN : (x :: xs).Nodup)
    (hi : PI X (.Name x px) iter wi) (ht : ∀ C s H fp, PTs (compCx X (x :: xs) scope cl C s H fp) ifs tt) (he : ∀ C s H fp, PE (compCx X (x :: xs) scope cl C s H fp) elt te)
    (hs : ∀ v, foldedSetIterable iter X.env v = pure v := by intro _; rfl) : PS X (.Assign [.Name y py] (.ListComp elt [⟨.Name x px, iter, ifs, 0⟩] scope pos) spos) (tAsg (tComp caps wi tt te) (gName k)) := by
  intro pins s σ H D I h
  rw [exec_Assign_Name_used _ _ _ _ hsw]
  refine wpAny_bind (wpAny_standAt (wpAny_bind ?_))
  show wpAny _ X.A (do let _ ← comprehension (.ListComp elt [⟨.Name x px, iter, ifs, 0⟩] scope pos) scope X.env _ (newList []) false (eval iter X.env) (some (assign (.Name y py) X.env))) _ _ s
  refine wpAny_bind (wpAny_mono (wpAny_comprehension_free (use := some (assign (.Name y py) X.env)) (Q := fun _ s' => SP X pins D .next s') rfl hs hclos hkind hnames
    (wpAny_mono (hi pins s σ H _ I h) (fun xv s₁ h₁ => wpAny_mono h₁ (fun itv s2 h2 => ?_) fun _ _ e => e) fun _ _ e => e)) (fun _ s' hq => wpAny_pure (wpAny_pure hq)) fun _ _ e => e)
  obtain ⟨it, fp, tn, J, H1, rfl, I2, T, st0, hfp, hq⟩ := h2
  refine comp_block (Q := fun v H1 => gName k v σ H1 D.nx) (RR := fun acc C => compPost (model X.prog X.w) X.A X.xe (some (assign (.Name y py) X.env)) (fun _ s' => SP X pins D .next s') acc C) hc hcl hcap hlen hkind hcell hhas hx hN ht he I2 T st0 hfp hq ?_
  intro s1 Da C m H' I4 hn l q
  show wpAny _ X.A (assign (.Name y py) X.env (.ref Da)) _ _ s1
  refine wpAny_assign_Name (store_ok2 (v := .ref Da) I4 hNX hk (.inl hy) rfl (fun s4 I5 hsb => ?_) (.inr hy))
  obtain ⟨a, hsa, ha⟩ := hsb
  have hCa : C ≠ a := by
    rcases ha with ha | ha
    · rw [ha]; exact l.2.1
    · exact Ne.symm (l.2.2.2.1 y a ha)
  refine ⟨m, hn.sameBut hsa hCa, fun h' hsb => ⟨_, H', I5.letGo l hsb, q⟩⟩
end
end L2
namespace L2
open PySem PySem.Spec PyProof.Rows
theorem same_new {H : Hp} {p : Addr} (h : H p = none) (o : HO) : Same H (upd H p o) := fun b u q => by rw [upd_ne (ne_of_none q h)]; exact q
structure Def (P : Program) (w : World) (K : PySem.W.Frag) (mg : Str → Option Value) (base : Heap) (x : Str) (k : Nat) (ps : List Str) (sp : Sp) : Prop where
  ex : ∃ (f : Addr) (fd : FuncData), FnOk P w K mg base CX0 k f fd ps sp ∧ Binds K fd ps [] ∧ PySem.W.keepIn K (.ref f) = true ∧ mg x = some (.ref f)
theorem def_mk {P : Program} {w : World} {K : PySem.W.Frag} {mg : Str → Option Value} {base : Heap} {x qual : Str} {st : Stmt} {f : Addr} {fd : FuncData} {k : Nat} {ps : List Str} {sp : Sp} (F : Fun K x qual st f fd)
    (ok : FnOk P w K mg base CX0 k f fd ps sp) (b : Binds K fd ps []) (m : mg x = some (.ref f)) : Def P w K mg base x k ps sp := ⟨⟨f, fd, ok, b, F.kp, m⟩⟩
section
variable {X : Cx} {x : Str} {j k : Nat} {ps : List Str} {sp : Sp} {p pos : Pos} {e : Expr} {es : List Expr} {t : TA}
theorem pe_def (D : Def X.prog X.w X.K X.mg X.base x j ps sp) (hr : Room k X.A) (hg : Gl X x) (ha : PA X (e :: es) t) (hjk : j ≤ k := by decide) (hdb : (x == ("__debug__" : Str)) = false := by decide)
    (he : starEach (e :: es) X.env = (false, eval e X.env) :: starEach es X.env := by rfl) (hpl : (backTo pos (starEach es X.env)).any (·.1) = false := by rfl) :
    PE X (.Call (.Name x p) (e :: es) [] pos) (tCall sp [] E0 t) := by
  obtain ⟨f, fd, ok, b, kp, m⟩ := D.ex
  exact pe_call ok (hr.mono hjk) hg m kp b .nil pass0 ha hdb he hpl
end
end L2
namespace L2
open PySem PySem.Spec PyProof.Rows
noncomputable def tJoin (t : TS) : TS := fun D σ H => ∃ R : St → Hp → Prop, (∀ σ' H', R σ' H' → D.nx σ' H') ∧ t { D with nx := R } σ H
theorem ps_join {X : Cx} {st : Stmt} {t : TS} (h : PS X st t) : PS X st (tJoin t) := by
  intro pins s σ H D I ⟨R, hR, q⟩
  refine thn (h pins s σ H _ I q) fun f s' hq => ?_
  cases f with
  | next =>
    obtain ⟨σ', H', I', r⟩ := hq
    exact ⟨σ', H', I', hR _ _ r⟩
  | brk => exact hq
  | cont => exact hq
  | ret v => exact hq
end L2
namespace L2
open PySem PySem.Spec PyProof.Rows
theorem bt_isinstance : bootBuiltins "isinstance" = some (.builtin "isinstance") := by decide +kernel
theorem bt_min : bootBuiltins "min" = some (.builtin "min") := by decide +kernel
theorem bt_max : bootBuiltins "max" = some (.builtin "max") := by decide +kernel
theorem bt_int : bootBuiltins "int" = some (.type "int") := by decide +kernel
theorem bt_list : bootBuiltins "list" = some (.type "list") := by decide +kernel
theorem bt_reversed : bootBuiltins "reversed" = some (.type "reversed") := by decide +kernel
theorem bt_ValueError : bootBuiltins "ValueError" = some (.type "ValueError") := by decide +kernel
noncomputable def cInts : List Expr → Option (List Int)
  | [] => some []
  | .Constant (.int i) _ _ :: r => (cInts r).map (i :: ·)
  | _ => none
theorem pa_ints {X : Cx} : ∀ {es : List Expr} {ns : List Int}, cInts es = some ns → PA X es (fun _ H Q => Q (ns.map V.int) H)
  | [], ns, h => by
    simp only [cInts, Option.some.injEq] at h
    subst h
    exact pa_nil
  | e :: es, ns, h => by
    cases e with
    | Constant c k p =>
      cases c with
      | int i =>
        simp only [cInts, Option.map_eq_some_iff] at h
        obtain ⟨ms, h1, rfl⟩ := h
        have q := pa_cons (X := X) (e := .Constant (.int i) k p) pe_int (pa_ints h1) rfl
        exact q
      | _ => simp [cInts] at h
    | _ => simp [cInts] at h
theorem int_pow_le {a b : Int} (h0 : 0 ≤ a) (h : a ≤ b) : ∀ n : Nat, a ^ n ≤ b ^ n
  | 0 => by simp
  | n + 1 => by
    rw [Int.pow_succ, Int.pow_succ]
    have h1 := int_pow_le h0 h n
    have h2 : 0 ≤ a ^ n := Int.pow_nonneg h0
    exact Int.mul_le_mul h1 h h0 (Int.le_trans h2 h1)
end L2
namespace L2
open PySem PySem.Spec PyProof.Rows
theorem ps_eq {X : Cx} {st st' : Stmt} {t : TS} (e : st = st') (h : PS X st' t) : PS X st t := by subst e; exact h
theorem ps_setInts {X : Cx} {st : Stmt} {i : Nat} {x : Str} {es : List Expr} {ns : List Int} {p1 p2 pos : Pos} (e : st = .Assign [.Name x p1] (.List es p2) pos) (hc : cInts es = some ns) (hN : X.N.Nodup) (hi : X.N[i]? = some x) (hx : Loc X.env.scope x)
    (hf : X.fn x = true ∨ X.env.scope.names.lookup x = some .local) : PS X st (tAsg (tLst fun _ H Q => Q (ns.map V.int) H) (gName i)) := by
  subst e
  exact ps_set hN hi hx (pe_lst (pa_ints hc)) rfl hf
end L2
namespace L2
open PySem PySem.Spec PyProof.Rows
noncomputable def ForIt (J : It) (g : TG) (tb : TS) (D : Ends) (σ : St) (H : Hp) : Prop := ∃ W : Nat → Nat → St → Hp → Prop, (∃ m, W 0 m σ H) ∧ ∀ i m σ H, W i m σ H →
  (J.stop i H ∧ D.nx σ H) ∨ (J.go i H ∧ ∃ N : St → Hp → Prop, (∀ σ' H', N σ' H' → ∃ m', m' < m ∧ W (i + 1) m' σ' H') ∧ ∀ x H', J.yld i H x H' → g x σ H' fun σ2 H2 => tb { D with nx := N, ct := N, bk := D.nx } σ2 H2)
theorem w_for {wi : TI} {g : TG} {tb : TS} {D : Ends} {σ : St} {H : Hp} : tFor wi g tb D σ H = wi σ H fun J H1 => ForIt J g tb D σ H1 := rfl
section
variable {lo c : Int} {n : Nat} {K : PySem.W.Frag} {a : Addr} {xs : List V} {g : TG} {tb : TS} {D : Ends} {σ : St} {H : Hp}
theorem forR (Pv : Nat → St → Hp → Prop) (h0 : Pv 0 σ H)
    (hs : ∀ i σ H, i < n → Pv i σ H → g (.int (lo + i)) σ H fun σ2 H2 => tb { D with nx := Pv (i + 1), ct := Pv (i + 1), bk := D.nx } σ2 H2) (hd : ∀ σ H, Pv n σ H → D.nx σ H) : ForIt (Itr lo n) g tb D σ H := for_range Pv h0 hs hd
theorem forL (xs : List V) (Pv : Nat → St → Hp → Prop) (h0 : Pv 0 σ H) (hl : ∀ i σ H, i ≤ xs.length → Pv i σ H → SqL K H a xs)
    (hs : ∀ i x σ H, xs[i]? = some x → Pv i σ H → g x σ H fun σ2 H2 => tb { D with nx := Pv (i + 1), ct := Pv (i + 1), bk := D.nx } σ2 H2) (hd : ∀ σ H, Pv xs.length σ H → D.nx σ H) : ForIt (Itl K a) g tb D σ H := for_list Pv h0 hl hs hd
theorem forI (ns : List Int) (Pv : Nat → St → Hp → Prop) (h0 : Pv 0 σ H) (hl : ∀ i σ H, Pv i σ H → SqL K H a (ns.map V.int))
    (hs : ∀ i (x : Int) σ H, ns[i]? = some x → Pv i σ H → g (.int x) σ H fun σ2 H2 => tb { D with nx := Pv (i + 1), ct := Pv (i + 1), bk := D.nx } σ2 H2) (hd : ∀ σ H, Pv ns.length σ H → D.nx σ H) : ForIt (Itl K a) g tb D σ H := by
  refine forL (ns.map V.int) Pv h0 (fun i σ H _ h => hl i σ H h) (fun i v σ H hv p => ?_) (fun σ H p => hd σ H (by rw [List.length_map] at p; exact p))
  rw [List.getElem?_map] at hv
  cases z : ns[i]? with
  | none => rw [z] at hv; cases hv
  | some x =>
    rw [z] at hv
    cases hv
    exact hs i x σ H z p
end
theorem whB {c : TT} {tb : TS} {D : Ends} {σ : St} {H : Hp} (W : Nat → St → Hp → Prop) (m : Nat) (h0 : W m σ H) (hs : ∀ m σ H, W m σ H →
    c σ H fun b H1 => if b = true then ∃ N : St → Hp → Prop, (∀ σ' H', N σ' H' → ∃ m', m' < m ∧ W m' σ' H') ∧ tb { D with nx := N, ct := N, bk := D.nx } σ H1 else D.nx σ H1) : tWhile c tb D σ H := ⟨W, ⟨m, h0⟩, hs⟩
theorem Same.up {H H' : Hp} (g : Same H H') {p : Addr} (hp : H p = none) (o : HO) : Same H (upd H' p o) := fun b u q => by rw [upd_ne (ne_of_none q hp)]; exact g b u q
theorem joinB {t : TS} {D : Ends} {σ : St} {H : Hp} (R : St → Hp → Prop) (h : t { D with nx := R } σ H) (hR : ∀ σ' H', R σ' H' → D.nx σ' H') : tJoin t D σ H := ⟨R, hR, h⟩
theorem sc_ii {a b : Int} : scal (.int a) (.int b) = true := rfl
theorem sc_bb {a b : Bool} : scal (.bl a) (.bl b) = true := rfl
theorem sc_in {a : Int} : scal (.int a) .non = true := rfl
theorem sc_ni {a : Int} : scal .non (.int a) = true := rfl
theorem sc_ss {a b : Str} : scal (.str a) (.str b) = true := rfl
theorem sc_nn : scal .non .non = true := rfl
theorem sc_bn {a : Bool} : scal (.bl a) .non = true := rfl
theorem sc_is {a : Int} {b : Str} : scal (.int a) (.str b) = true := rfl
noncomputable abbrev bnames : List String := ["int", "bool", "str", "list", "tuple", "dict"]
noncomputable def isiT (a b : String) : Option Bool := if b ∈ bnames then some (a == b || (a == "bool" && b == "int")) else none
noncomputable def isiV : V → String → Option Bool
  | .int _, n => isiT "int" n
  | .bl _, n => isiT "bool" n
  | .non, n => isiT "NoneType" n
  | .str _, n => isiT "str" n
  | _, _ => none
noncomputable def isiO : HO → String → Option Bool
  | .lst _, n => isiT "list" n
  | .tup _, n => isiT "tuple" n
  | .dK _, n => isiT "dict" n
  | _, _ => none
section
variable {X : Cx}
end
theorem isv_int_int {i : Int} : isiV (.int i) "int" = some true := (by decide : isiT "int" "int" = _)
theorem isv_int_bool {i : Int} : isiV (.int i) "bool" = some false := (by decide : isiT "int" "bool" = _)
theorem isv_int_str {i : Int} : isiV (.int i) "str" = some false := (by decide : isiT "int" "str" = _)
theorem isv_int_list {i : Int} : isiV (.int i) "list" = some false := (by decide : isiT "int" "list" = _)
theorem isv_int_tuple {i : Int} : isiV (.int i) "tuple" = some false := (by decide : isiT "int" "tuple" = _)
theorem isv_int_dict {i : Int} : isiV (.int i) "dict" = some false := (by decide : isiT "int" "dict" = _)
theorem isv_bool_int {i : Bool} : isiV (.bl i) "int" = some true := (by decide : isiT "bool" "int" = _)
theorem isv_bool_bool {i : Bool} : isiV (.bl i) "bool" = some true := (by decide : isiT "bool" "bool" = _)
theorem isv_bool_str {i : Bool} : isiV (.bl i) "str" = some false := (by decide : isiT "bool" "str" = _)
theorem isv_bool_list {i : Bool} : isiV (.bl i) "list" = some false := (by decide : isiT "bool" "list" = _)
theorem isv_bool_tuple {i : Bool} : isiV (.bl i) "tuple" = some false := (by decide : isiT "bool" "tuple" = _)
theorem isv_bool_dict {i : Bool} : isiV (.bl i) "dict" = some false := (by decide : isiT "bool" "dict" = _)
theorem isv_NoneType_int  : isiV (.non) "int" = some false := by decide
theorem isv_NoneType_bool  : isiV (.non) "bool" = some false := by decide
theorem isv_NoneType_str  : isiV (.non) "str" = some false := by decide
theorem isv_NoneType_list  : isiV (.non) "list" = some false := by decide
theorem isv_NoneType_tuple  : isiV (.non) "tuple" = some false := by decide
theorem isv_NoneType_dict  : isiV (.non) "dict" = some false := by decide
theorem isv_str_int {i : Str} : isiV (.str i) "int" = some false := (by decide : isiT "str" "int" = _)
theorem isv_str_bool {i : Str} : isiV (.str i) "bool" = some false := (by decide : isiT "str" "bool" = _)
theorem isv_str_str {i : Str} : isiV (.str i) "str" = some true := (by decide : isiT "str" "str" = _)
theorem isv_str_list {i : Str} : isiV (.str i) "list" = some false := (by decide : isiT "str" "list" = _)
theorem isv_str_tuple {i : Str} : isiV (.str i) "tuple" = some false := (by decide : isiT "str" "tuple" = _)
theorem isv_str_dict {i : Str} : isiV (.str i) "dict" = some false := (by decide : isiT "str" "dict" = _)
theorem iso_list_int {xs : List V} : isiO (.lst xs) "int" = some false := (by decide : isiT "list" "int" = _)
theorem iso_list_bool {xs : List V} : isiO (.lst xs) "bool" = some false := (by decide : isiT "list" "bool" = _)
theorem iso_list_str {xs : List V} : isiO (.lst xs) "str" = some false := (by decide : isiT "list" "str" = _)
theorem iso_list_list {xs : List V} : isiO (.lst xs) "list" = some true := (by decide : isiT "list" "list" = _)
theorem iso_list_tuple {xs : List V} : isiO (.lst xs) "tuple" = some false := (by decide : isiT "list" "tuple" = _)
theorem iso_list_dict {xs : List V} : isiO (.lst xs) "dict" = some false := (by decide : isiT "list" "dict" = _)
theorem iso_tuple_int {xs : List V} : isiO (.tup xs) "int" = some false := (by decide : isiT "tuple" "int" = _)
theorem iso_tuple_bool {xs : List V} : isiO (.tup xs) "bool" = some false := (by decide : isiT "tuple" "bool" = _)
theorem iso_tuple_str {xs : List V} : isiO (.tup xs) "str" = some false := (by decide : isiT "tuple" "str" = _)
theorem iso_tuple_list {xs : List V} : isiO (.tup xs) "list" = some false := (by decide : isiT "tuple" "list" = _)
theorem iso_tuple_tuple {xs : List V} : isiO (.tup xs) "tuple" = some true := (by decide : isiT "tuple" "tuple" = _)
theorem iso_tuple_dict {xs : List V} : isiO (.tup xs) "dict" = some false := (by decide : isiT "tuple" "dict" = _)
theorem iso_dict_int {xs : List (Key × V)} : isiO (.dK xs) "int" = some false := (by decide : isiT "dict" "int" = _)
theorem iso_dict_bool {xs : List (Key × V)} : isiO (.dK xs) "bool" = some false := (by decide : isiT "dict" "bool" = _)
theorem iso_dict_str {xs : List (Key × V)} : isiO (.dK xs) "str" = some false := (by decide : isiT "dict" "str" = _)
theorem iso_dict_list {xs : List (Key × V)} : isiO (.dK xs) "list" = some false := (by decide : isiT "dict" "list" = _)
theorem iso_dict_tuple {xs : List (Key × V)} : isiO (.dK xs) "tuple" = some false := (by decide : isiT "dict" "tuple" = _)
theorem iso_dict_dict {xs : List (Key × V)} : isiO (.dK xs) "dict" = some true := (by decide : isiT "dict" "dict" = _)
end L2
namespace L2
open PySem PySem.Spec PyProof.Rows
noncomputable def CompIt (J : It) (caps : List Nat) (tt : TT) (te : TE) (σ : St) (H : Hp) (Q : VK) : Prop := ∃ (n : Nat) (W : Nat → List V → Hp → Prop), n ≤ sizeLine ∧ W 0 [] H ∧ ∀ i ys H2, W i ys H2 →
  (J.stop i H2 ∧ ∀ p, H2 p = none → Q (.ref p) (upd H2 p (.lst ys))) ∨
  (J.go i H2 ∧ i < n ∧ ∀ x H3, J.yld i H2 x H3 → tt (some x :: capV caps σ) H3 fun b H4 => if b = true then te (some x :: capV caps σ) H4 fun v H5 => W (i + 1) (ys ++ [v]) H5 else W (i + 1) ys H4)
theorem w_comp {caps : List Nat} {wi : TI} {tt : TT} {te : TE} {σ : St} {H : Hp} {Q : VK} : tComp caps wi tt te σ H Q = wi σ H fun J H1 => CompIt J caps tt te σ H1 Q := rfl
section
variable {lo : Int} {n : Nat} {K : PySem.W.Frag} {a : Addr} {caps : List Nat} {tt : TT} {te : TE} {σ : St} {H : Hp} {Q : VK}
theorem compR (Pv : Nat → List V → Hp → Prop) (hn : n ≤ sizeLine) (h0 : Pv 0 [] H)
    (hs : ∀ i ys H, i < n → Pv i ys H → tt (some (.int (lo + i)) :: capV caps σ) H fun b H4 => if b = true then te (some (.int (lo + i)) :: capV caps σ) H4 fun v H5 => Pv (i + 1) (ys ++ [v]) H5 else Pv (i + 1) ys H4)
    (hd : ∀ ys H, Pv n ys H → ∀ p, H p = none → Q (.ref p) (upd H p (.lst ys))) : CompIt (Itr lo n) caps tt te σ H Q := by
  refine ⟨n, fun i ys H => i ≤ n ∧ Pv i ys H, hn, ⟨Nat.zero_le _, h0⟩, ?_⟩
  rintro i ys H2 ⟨hi, p⟩
  by_cases hlt : i < n
  · refine .inr ⟨hlt, hlt, ?_⟩
    rintro x H3 ⟨rfl, rfl⟩
    have key := hs i ys H3 hlt p
    have e1 : ∀ H5 zs, Pv (i + 1) zs H5 → i + 1 ≤ n ∧ Pv (i + 1) zs H5 := fun _ _ h => ⟨hlt, h⟩
    have e2 : (fun (b : Bool) (H4 : Hp) => if b = true then te (some (.int (lo + i)) :: capV caps σ) H4 fun v H5 => Pv (i + 1) (ys ++ [v]) H5 else Pv (i + 1) ys H4) = fun b H4 => if b = true then te (some (.int (lo + i)) :: capV caps σ) H4 fun v H5 => i + 1 ≤ n ∧ Pv (i + 1) (ys ++ [v]) H5 else i + 1 ≤ n ∧ Pv (i + 1) ys H4 := by
      funext b H4
      have z : i + 1 ≤ n := hlt
      simp only [z, true_and]
    rw [e2] at key
    exact key
  · have e : i = n := by ((try clear hn); omega)
    subst e
    exact .inl ⟨Nat.le_refl _, hd ys H2 p⟩
theorem compI (ns : List Int) (Pv : Nat → List V → Hp → Prop) (hn : ns.length ≤ sizeLine) (h0 : Pv 0 [] H) (hl : ∀ i ys H, Pv i ys H → SqL K H a (ns.map V.int))
    (hs : ∀ i (x : Int) ys H, ns[i]? = some x → Pv i ys H → tt (some (.int x) :: capV caps σ) H fun b H4 => if b = true then te (some (.int x) :: capV caps σ) H4 fun v H5 => Pv (i + 1) (ys ++ [v]) H5 else Pv (i + 1) ys H4)
    (hd : ∀ ys H, Pv ns.length ys H → ∀ p, H p = none → Q (.ref p) (upd H p (.lst ys))) : CompIt (Itl K a) caps tt te σ H Q := by
  refine ⟨ns.length, fun i ys H => i ≤ ns.length ∧ Pv i ys H, hn, ⟨Nat.zero_le _, h0⟩, ?_⟩
  rintro i ys H2 ⟨hi, p⟩
  have hS := hl i ys H2 p
  by_cases hlt : i < ns.length
  · obtain ⟨x, hx⟩ : ∃ x, ns[i]? = some x := ⟨ns[i], List.getElem?_eq_getElem hlt⟩
    have hv : (ns.map V.int)[i]? = some (.int x) := by rw [List.getElem?_map, hx]; rfl
    refine .inr ⟨⟨_, _, hS, hv⟩, hlt, ?_⟩
    rintro y H3 ⟨rfl, hy⟩
    have hxy : y = .int x := (Option.some.inj (hv.symm.trans (hy _ hS))).symm
    subst hxy
    have key := hs i x ys H3 hx p
    have e2 : (fun (b : Bool) (H4 : Hp) => if b = true then te (some (.int x) :: capV caps σ) H4 fun v H5 => Pv (i + 1) (ys ++ [v]) H5 else Pv (i + 1) ys H4) = fun b H4 => if b = true then te (some (.int x) :: capV caps σ) H4 fun v H5 => i + 1 ≤ ns.length ∧ Pv (i + 1) (ys ++ [v]) H5 else i + 1 ≤ ns.length ∧ Pv (i + 1) ys H4 := by
      funext b H4
      have z : i + 1 ≤ ns.length := hlt
      simp only [z, true_and]
    rw [e2] at key
    exact key
  · have e : i = ns.length := by ((try clear hn); omega)
    subst e
    exact .inl ⟨⟨_, hS, by rw [List.length_map]; exact Nat.le_refl _⟩, hd ys H2 p⟩
end
theorem cx_K {CX : CXT} {P : Program} {w : World} {K : PySem.W.Frag} {mg : Str → Option Value} {base : Heap} {N : List Str} {qual : Str} {scope : Scope} {f : Addr} {cd : Value} {A : Around} {outer : List Env} {s : Shared} {H : Hp} {E : XK} : (cxOf CX P w K mg base N qual scope f cd A outer s H E).K = K := rfl
theorem cc_K {X : Cx} {N : List Str} {scope : Scope} {cl : List (Str × Addr)} {C : Addr} {s : Shared} {H : Hp} {fp : List Addr} : (compCx X N scope cl C s H fp).K = X.K := rfl
end L2
namespace Rv
open PySem PySem.Spec PyProof.Rows
section
variable {prog : Program} {w : World} {A : Around} {E : Value → Shared → Prop} {s : Shared}
end
section
variable {prog : Program} {w : World} {A : Around} {E : Value → Shared → Prop} {s : Shared}
end
end Rv
namespace L2
open PySem PySem.Spec PyProof.Rows
noncomputable def Itv (K : PySem.W.Frag) (a : Addr) (n : Nat) : It :=
  ⟨fun i H => i < n ∧ ∃ xs, SqL K H a xs ∧ xs.length = n, fun i H x H' => H' = H ∧ ∀ xs, SqL K H a xs → xs[n - 1 - i]? = some x, fun i _ => n ≤ i⟩
theorem turn_rev {P : Program} {w : World} {K : PySem.W.Frag} {tg : Expr} (a it : Addr) (n : Nat) : Turn P w K tg (Itv K a n) [it] it (fun i h => i ≤ n ∧ h.IsRevIter it a ((n : Int) - 1 - (i : Int))) where
  mem := by simp
  obj := fun i h st b hb => by
    have e : b = it := by simpa using hb
    subst e
    obtain ⟨_, o, e, c, d⟩ := st
    exact ⟨o, e, fun v z => by rw [d] at z; cases z⟩
  keep := fun i h h' st k => ⟨st.1, st.2.at fun o e => k it (by simp) o e⟩
  item := by
    intro X hP hw hK hc i pins s σ H E I hf st hg
    subst hP hw hK
    obtain ⟨hi, xs, hq, hn⟩ := hg
    obtain ⟨its, rv, p, hz⟩ := I.list hq
    have hlt : n - 1 - i < xs.length := by ((try clear hc hz st); omega)
    have hx : xs[n - 1 - i]? = some xs[n - 1 - i] := List.getElem?_eq_getElem hlt
    obtain ⟨u, hu, ru⟩ := rv.get hx
    obtain ⟨f0, f1, f2, f3, f4, f5⟩ := hf it (by simp)
    have st2 := st.2
    rw [show (n : Int) - 1 - (i : Int) = ((n - 1 - i : Nat) : Int) by ((try clear f0 f1 f2 f3 hc hu hx hz st); omega)] at st2
    refine wpAny_pyNext_rev_item st2 p.isList (x := u) (by simpa using hu) fun h' st' sb => ?_
    have I1 : Inv X pins σ H { s with heap := h' } := I.turned (t' := s.toks) (fun b o hb e => (sb.2 b hb).trans e) f0 f1 f3 f4 f5
    rw [show ((n - 1 - i : Nat) : Int) - 1 = (n : Int) - 1 - ((i + 1 : Nat) : Int) by ((try clear f0 f1 f2 f3 hc hu hx hz st); omega)] at st'
    obtain ⟨o, e, c, d⟩ := id st'
    exact ⟨u, rfl, go_of (s := { s with heap := h' }) e c d (by decide) ⟨_, H, I1, ru, ⟨rfl, fun ys hy => by rw [I.list_inj hy hq]; exact hx⟩, ⟨hi, st'⟩, fun b hb => (hf b hb).1⟩⟩
  done := by
    intro X hP hw hK hc i pins s σ H E I hf st hg
    subst hP hw hK
    obtain ⟨f0, f1, f2, f3, f4, f5⟩ := hf it (by simp)
    have hg' : n ≤ i := hg
    have st2 := st.2
    rw [show (n : Int) - 1 - (i : Int) = -1 by have := st.1; ((try clear f0 f1 f2 f3 hc this); omega)] at st2
    exact wpAny_pyNext_rev_end (I.ok.hd hc) st2 fun h' eb => ⟨rfl, I.turned (t' := s.toks) (fun b o hb e => eb b o hb e) f0 f1 f3 f4 f5⟩
  self := fun _ _ _ _ _ st h => wpAny_pyIter_revIter st.2 h
section
variable {X : Cx} {tg e : Expr} {te : TE} {p p2 pos pos2 : Pos}
theorem ev_rev {pins : List (Addr × Obj)} {σ : St} {H : Hp} {s : Shared} {R : Addr → List V → Hp → Prop} (hg : Gl X "reversed") (hm : X.mg "reversed" = none) (he : PE X e te) (I : Inv X pins σ H s)
    (h : te σ H fun x H1 => ∃ a xs, x = .ref a ∧ SqL X.K H1 a xs ∧ R a xs H1)
    (hs : starEach [e] X.env = (false, eval e X.env) :: starEach [] X.env := by rfl) :
    wpAny (model X.prog X.w) X.A (eval (.Call (.Name "reversed" p) [e] [] pos) X.env) (fun v s1 => ∃ it a xs H1, v = .ref it ∧ Inv X pins σ H1 s1 ∧ s1.heap.IsRevIter it a ((xs.length : Int) - 1) ∧ FpOk X pins H1 it ∧ SqL X.K H1 a xs ∧ a ≠ it ∧ R a xs H1) X.xe s := by
  refine wpAny_Call_Name_kw (ld_blt I hg hm bt_reversed ?_ (by decide) (by decide))
  refine PyProof.Rows.callWith_type1 (thn (pa_cons he pa_nil hs pos pins s σ H (fun vs H1 => ∃ a xs, vs = [.ref a] ∧ SqL X.K H1 a xs ∧ R a xs H1) I ?_) fun us s1 ⟨vs, H1, I1, r1, q1⟩ => ?_) hs rfl
  · show te σ H _
    have e2 : (fun x H1 => tNil σ H1 fun xs H2 => (fun vs H1 => ∃ a ys, vs = [V.ref a] ∧ SqL X.K H1 a ys ∧ R a ys H1) (x :: xs) H2) = fun x H1 => ∃ a xs, x = V.ref a ∧ SqL X.K H1 a xs ∧ R a xs H1 := by
      funext x H1
      simp only [tNil, List.cons.injEq, and_true]
    have := h
    rw [← e2] at this
    exact this
  · obtain ⟨a, xs, rfl, hq, hR⟩ := q1
    obtain ⟨u, rfl, ru⟩ := vals1 r1
    cases ru
    obtain ⟨its, rv, pl, hz⟩ := I1.list hq
    refine call_reversed_list pl.isList ?_
    have hl := rv.length
    obtain ⟨o, ho, _⟩ := id pl.isList
    refine ⟨s1.heap.objs.size, a, xs, H1, rfl, I1.kept (t' := s1.toks) fun b o e => Heap.get?_push_of_some _ e, ⟨_, Heap.get?_push_size _ rfl, rfl, ?_⟩, I1.fpOk (Nat.le_refl _) (I1.hok.fresh (Nat.le_refl _)), hq, Nat.ne_of_lt (Heap.lt_size ho), hR⟩
    simp only [revObj, List.size_toArray]
    rw [← hl]
noncomputable def iRev (K : PySem.W.Frag) (tl : TE) : TI := fun σ H R => tl σ H fun x H1 => ∃ a xs, x = .ref a ∧ SqL K H1 a xs ∧ R (Itv K a xs.length) H1
theorem pi_rev (hg : Gl X "reversed") (hm : X.mg "reversed" = none) (he : PE X e te) (hs : starEach [e] X.env = (false, eval e X.env) :: starEach [] X.env := by rfl) : PI X tg (.Call (.Name "reversed" p) [e] [] pos) (iRev X.K te) := by
  intro pins s σ H R I h
  refine thn (ev_rev hg hm he I h hs) fun v s1 ⟨it, a, xs, H1, hv, I1, hit, hf, hq, hne, hR⟩ => ?_
  subst hv
  refine wpAny_pyIter_revIter hit ?_
  refine ⟨it, [it], _, _, H1, rfl, I1, turn_rev a it xs.length, ⟨Nat.zero_le _, by simpa using hit⟩, fun b hb => ?_, hR⟩
  have e : b = it := by simpa using hb
  subst e
  exact hf
noncomputable def tListRev (K : PySem.W.Frag) (te : TE) : TE := fun σ H Q => te σ H fun x H1 => ∃ a xs, x = .ref a ∧ SqL K H1 a xs ∧ ∀ l, H1 l = none → Q (.ref l) (upd H1 l (.lst xs.reverse))
end
theorem forV {K : PySem.W.Frag} {a : Addr} {g : TG} {tb : TS} {D : Ends} {σ : St} {H : Hp} (ns : List Int) (Pv : Nat → St → Hp → Prop) {n : Nat} (hn : n = ns.length) (h0 : Pv 0 σ H) (hl : ∀ i σ H, Pv i σ H → SqL K H a (ns.map V.int))
    (hs : ∀ i (x : Int) σ H, ns.reverse[i]? = some x → Pv i σ H → g (.int x) σ H fun σ2 H2 => tb { D with nx := Pv (i + 1), ct := Pv (i + 1), bk := D.nx } σ2 H2) (hd : ∀ σ H, Pv ns.length σ H → D.nx σ H) : ForIt (Itv K a n) g tb D σ H := by
  subst hn
  refine ⟨fun i m σ H => m = ns.length - i ∧ i ≤ ns.length ∧ Pv i σ H, ⟨ns.length, by simp, Nat.zero_le _, h0⟩, ?_⟩
  rintro i m σ H ⟨rfl, hi, p⟩
  have q := hl i σ H p
  by_cases hlt : i < ns.length
  · refine .inr ⟨⟨hlt, _, q, by simp⟩, Pv (i + 1), fun σ' H' p' => ⟨ns.length - (i + 1), by ((try clear hi); omega), rfl, hlt, p'⟩, fun x H' y => ?_⟩
    obtain ⟨e, y⟩ := y
    subst e
    have y' := y _ q
    rw [List.getElem?_map] at y'
    have hr : ns.reverse[i]? = ns[ns.length - 1 - i]? := List.getElem?_reverse hlt
    cases z : ns[ns.length - 1 - i]? with
    | none => rw [z] at y'; cases y'
    | some v =>
      rw [z] at y'
      cases y'
      exact hs i v σ _ (hr.trans z) p
  · have e : i = ns.length := by omega
    subst e
    exact .inl ⟨Nat.le_refl _, hd σ H p⟩
theorem newH {H H1 : Hp} {p : Addr} {o : HO} (e : upd H p o = H1) (n : H p = none) : Same H H1 ∧ H1 p = some o := by
  subst e
  exact ⟨same_new n o, upd_same⟩
theorem w_tyl {K : PySem.W.Frag} {p : Addr} {H : Hp} : tyV K "list" (.ref p) H = ∃ xs, SqL K H p xs := by
  unfold tyV
  simp
section
variable {K : PySem.W.Frag} {H : Hp} {a b : Addr} {ns ms : List Int} {Q : VK}
theorem eqv_il : PyData.eqv (.list (ns.map PyData.int)) (.list (ms.map PyData.int)) = decide (ns = ms) := by
  rw [← eqvAll_ints]
  simp only [PyData.eqv]
theorem canLay_ints : ∀ ns : List Int, PyData.canLayAll0 (ns.map PyData.int) = true
  | [] => by simp [PyData.canLayAll0]
  | n :: r => by simp [PyData.canLayAll0, PyData.canLay0, canLay_ints r]
theorem depth_ints : ∀ ns : List Int, PyData.depthAll (ns.map PyData.int) = 0
  | [] => by simp [PyData.depthAll]
  | n :: r => by simp [PyData.depthAll, PyData.depth, depth_ints r]
theorem shaped_l (ns : List Int) : SeqAt.shaped (.list (ns.map PyData.int)) = true := by
  unfold SeqAt.shaped
  simp [PyData.canLay0, PyData.depth, canLay_ints, depth_ints]
theorem neL (h : SqL K H a (ns.map V.int)) (h' : SqL K H b (ms.map V.int)) (q : Q (.bl (!decide (ns = ms))) H) : rEqD K true (.ref a) (.ref b) H Q := by
  refine ⟨_, _, .lst h (DatVs.ints ns), .lst h' (DatVs.ints ms), shaped_l ns, shaped_l ms, ?_⟩
  rw [if_pos rfl, eqv_il]
  exact q
theorem neL1 (h : SqL K H a (ns.map V.int)) (h' : SqL K H b (ns.map V.int)) (q : Q (.bl false) H) : rEqD K true (.ref a) (.ref b) H Q := neL h h' (by rw [decide_eq_true rfl]; exact q)
end
theorem seqI {t u : TS} {D : Ends} {σ : St} {H : Hp} (h : t { D with nx := u D } σ H) : tSeq t u D σ H := h
section
variable {X : Cx}
theorem call_intB : CallR X (.type "int") (fun xs H Q => ∃ k, xs = [.bl k] ∧ Q (.int (if k = true then 1 else 0)) H) := fun pins s σ H xs us Q I r ⟨k, e, q⟩ => call_int1 pins s σ H xs us Q I r (.inr ⟨k, e, q⟩)
end
end L2
namespace Ul
open PySem PySem.Spec PyProof.Rows
section
variable {prog : Program} {w : World} {A : Around} {E : Value → Shared → Prop}
variable {s : Shared}
end
end Ul
namespace L2
open PySem PySem.Spec PyProof.Rows
section
variable {X : Cx} {pos : Pos}
noncomputable def gLst (K : PySem.W.Frag) (n : Nat) (t : TGs) : TG := fun v σ H Q => ∃ a xs, v = .ref a ∧ SqL K H a xs ∧ xs.length = n ∧ t xs σ H Q
end
end L2
namespace L2
open PySem PySem.Spec PyProof.Rows
noncomputable def CXE (P : Program) (w : World) : CXT := fun outer H s E e s' => ∃ (ea t : Addr) (C : Value) (vs : List Value) (B : Heap) (H' : Hp), e = .ref ea ∧ s'.os = s.os ∧ AllBare s'.gens ∧ Heap.FlyingW B outer ea C (.ref t) s'.heap ∧ s'.heap.TupAt t vs ∧ B.get? t = none ∧
  HOk P w H' B ∧ (∀ b o, s.heap.get? b = some o → H b = none → b ∉ frs outer → B.get? b = some o) ∧ (∀ b o, s.heap.get? b = some o → b ∉ frs outer → ∃ o', B.get? b = some o') ∧ Un (frs outer) [] H H' s.heap s'.heap ∧ E C none H'
section
variable {X : Cx} {pins : List (Addr × Obj)} {σ : St} {H H1 : Hp} {s s1 : Shared}
theorem frs_cons {env : Env} {L : Addr} {l : List Env} (h : env.frame = some L) {b : Addr} : b ∈ frs (env :: l) ↔ b = L ∨ b ∈ frs l := by
  unfold frs
  rw [List.filterMap_cons, h]
  exact List.mem_cons
theorem Inv.old (I : Inv X pins σ H s) {b : Addr} {o : Obj} (e : X.s₀.heap.get? b = some o) : b ≠ X.env.locals := fun z => by
  have h1 : @LT.lt Nat instLTNat b X.s₀.heap.objs.size := Heap.lt_size e
  have h2 : @LE.le Nat _ X.s₀.heap.objs.size X.env.locals := I.ok.above
  have z' : @Eq Nat b X.env.locals := z
  ((try clear e z); omega)
theorem hid_ok {fs : List Addr} (I : Inv X pins σ H s) (hf : ∀ b ∈ fs, H b = none) : HOk X.prog X.w H (PySem.W.hideAll s.heap fs) := fun a o e => by
  have q : ObjOk X.prog X.w H s.heap a o := I.hok a o e
  refine q.stay (fun c u hc e' => PySem.W.hideAll_get _ e' fun z => ?_) (fun c e' => e') fun c zs e' => e'
  have h0 := hf c z
  rcases hc with hc | hc
  · rw [hc, e] at h0; cases h0
  · rw [hc] at h0; cases h0
theorem thr {M : Model} {h' : Heap} {ea : Addr} {C : Value} {vs : List Value} {E : XK} {EE : Value → Shared → Prop} (hst : X.stack = X.env :: X.outer) (hfr : X.env.frame = some X.env.locals) (hex : X.ex = []) (I : Inv X pins σ H s)
    (hx : Heap.MadeExcOf s.heap h' ea C vs) (hE : E C none H) :
    wpAny M X.A (leaving X.env (.ref ea)) (fun _ s'' => CXE X.prog X.w X.outer X.H₀ X.s₀ E (.ref ea) s'') EE { s with heap := h' } := by
  have hA : X.A.frames = some (X.env :: X.outer) := by rw [← hst]; exact I.ok.frames
  have fstk : ∀ b ∈ frs (X.env :: X.outer), H b = none := by rw [← hst]; exact I.stkFree
  have hfun : s.heap.FunFrames X.base (X.env :: X.outer) := by rw [← hst]; exact I.stack
  have hin : ∀ env ∈ (X.env :: X.outer), ∀ b, env.frame = some b → b ∈ frs (X.env :: X.outer) := fun env he b hb => List.mem_filterMap.mpr ⟨env, he, hb⟩
  refine wpAny_leaves_madeW (base := PySem.W.hideAll s.heap (frs (X.env :: X.outer))) hA hfr (fun b o q => PySem.W.of_hideAll _ q) (PySem.W.funFrames_hide hfun hin) hx fun h2 t fly tup tn up => ?_
  have u := I.base
  rw [hex] at u
  have keepB : ∀ b o, X.s₀.heap.get? b = some o → X.H₀ b = none → b ∉ frs X.outer → (PySem.W.hideAll s.heap (frs (X.env :: X.outer))).get? b = some o := fun b o e n nf => by
    refine PySem.W.hideAll_get _ (u.keep b o e n nf (by simp)) fun z => ?_
    rcases (frs_cons hfr).mp z with z | z
    · exact I.old e z
    · exact nf z
  have slots : ∀ b o, s.heap.get? b = some o → b ∈ frs (X.env :: X.outer) → ∃ sl, h2.get? b = some { o with slots := sl } := fun b o e hb => by
    obtain ⟨_, o', ho', hd⟩ := hfun.mem hb
    rw [e] at ho'
    cases ho'
    exact up b o (hx.keeps _ _ e) hd
  have thereB : ∀ b o, X.s₀.heap.get? b = some o → b ∉ frs X.outer → ∃ o', (PySem.W.hideAll s.heap (frs (X.env :: X.outer))).get? b = some o' := fun b o e nf => by
    obtain ⟨o', e1⟩ := u.there b o e (by simp)
    refine ⟨o', PySem.W.hideAll_get _ e1 fun z => ?_⟩
    rcases (frs_cons hfr).mp z with z | z
    · exact I.old e z
    · exact nf z
  refine ⟨ea, t, C, vs, _, H, rfl, I.os, I.bare, fly, tup, tn, hid_ok I fstk, keepB, thereB, ?_, hE⟩
  refine ⟨fun b o e n nf _ => fly.1 _ _ (keepB b o e n nf), fun b o e n hb _ => ?_, fun b o e n _ => u.free b o e n (by simp), fun b o e _ => ?_, u.tups, u.frzs, u.tbls⟩
  · obtain ⟨sl, e1⟩ := u.slot b o e n hb (by simp)
    obtain ⟨sl', e2⟩ := slots b _ e1 ((frs_cons hfr).mpr (.inr hb))
    exact ⟨sl', e2⟩
  · obtain ⟨o', e1⟩ := u.there b o e (by simp)
    by_cases hb : b ∈ frs (X.env :: X.outer)
    · obtain ⟨sl, e2⟩ := slots b _ e1 hb
      exact ⟨_, e2⟩
    · exact ⟨o', fly.1 _ _ (PySem.W.hideAll_get _ e1 hb)⟩
theorem pas {M : Model} {e : Value} {s' : Shared} {E : XK} {EE : Value → Shared → Prop} (hst : X.stack = X.env :: X.outer) (hfr : X.env.frame = some X.env.locals) (hex : X.ex = []) (I : Inv X pins σ H s)
    (hc : CXE X.prog X.w X.stack H s E e s') : wpAny M X.A (leaving X.env e) (fun _ s'' => CXE X.prog X.w X.outer X.H₀ X.s₀ E e s'') EE s' := by
  have hA : X.A.frames = some (X.env :: X.outer) := by rw [← hst]; exact I.ok.frames
  rw [hst] at hc
  obtain ⟨ea, t, C, vs, B, H', rfl, os, bare, fly, tup, tn, hok, kB, tB, un, hE⟩ := hc
  refine wpAny_leaves_onW hA hfr fly fun h2 fly2 up => ?_
  have u := I.base
  rw [hex] at u
  have n2 : ∀ b o, X.s₀.heap.get? b = some o → b ∉ frs X.outer → b ∉ frs (X.env :: X.outer) := fun b o e nf z => by
    rcases (frs_cons hfr).mp z with z | z
    · exact I.old e z
    · exact nf z
  have keepB : ∀ b o, X.s₀.heap.get? b = some o → X.H₀ b = none → b ∉ frs X.outer → B.get? b = some o := fun b o e n nf =>
    kB b o (u.keep b o e n nf (by simp)) (u.free b o e n (by simp)) (n2 b o e nf)
  have thereB : ∀ b o, X.s₀.heap.get? b = some o → b ∉ frs X.outer → ∃ o', B.get? b = some o' := fun b o e nf => by
    obtain ⟨o', e1⟩ := u.there b o e (by simp)
    exact tB b o' e1 (n2 b o e nf)
  have slots : ∀ b o, s'.heap.get? b = some o → b ∈ frs X.outer → ∃ sl, h2.get? b = some { o with slots := sl } := fun b o e hb => by
    obtain ⟨_, o', ho', hd⟩ := fly.2.2.1.mem (show b ∈ (X.env :: X.outer).filterMap (·.frame) from (frs_cons hfr).mpr (.inr hb))
    rw [e] at ho'
    cases ho'
    exact up b o e hd
  refine ⟨ea, t, C, vs, B, H', rfl, by rw [os]; exact I.os, bare, fly2, tup.of_slots up, tn, hok, keepB, thereB, ?_, hE⟩
  refine ⟨fun b o e n nf _ => fly2.1 _ _ (keepB b o e n nf), fun b o e n hb _ => ?_, fun b o e n _ => ?_, fun b o e _ => ?_, fun b zs e => un.tups b zs (u.tups b zs e), fun b o v e => un.frzs b o v (u.frzs b o v e), fun b ps e => ?_⟩
  · obtain ⟨sl, e1⟩ := u.slot b o e n hb (by simp)
    have n1 := u.free b o e n (by simp)
    obtain ⟨sl2, e2⟩ := un.slot b _ e1 n1 ((frs_cons hfr).mpr (.inr hb)) (by simp)
    obtain ⟨sl3, e3⟩ := slots b _ e2 hb
    exact ⟨sl3, e3⟩
  · have n1 := u.free b o e n (by simp)
    obtain ⟨o', e1⟩ := u.there b o e (by simp)
    exact un.free b o' e1 n1 (by simp)
  · obtain ⟨o', e1⟩ := u.there b o e (by simp)
    obtain ⟨o2, e2⟩ := un.there b o' e1 (by simp)
    by_cases hb : b ∈ frs X.outer
    · obtain ⟨sl, e3⟩ := slots b _ e2 hb
      exact ⟨_, e3⟩
    · obtain ⟨o3, e3⟩ := thereB b o e hb
      exact ⟨o3, fly2.1 _ _ e3⟩
  · obtain ⟨m1, e1⟩ := u.tbls b ps e
    obtain ⟨m2, e2⟩ := un.tbls b _ e1
    exact ⟨m1 ++ m2, by rw [e2, Array.append_assoc]⟩
end
noncomputable abbrev bmV : List Value := [.type "ValueError", .type "Exception", .type "BaseException", .type "object"]
noncomputable abbrev ExcK (K : PySem.W.Frag) (C : Addr) : Prop := PySem.W.excIn K C bmV "ValueError.__new__" = true
theorem own_at {K : PySem.W.Frag} {h : Heap} {mg : Str → Option Value} {x : Str} {C : Addr} (X : K.In h) (e : mg x = some (.ref C)) (q : ExcK K C) : OwnCls x C bmV "ValueError.__new__" mg h := by
  refine ⟨e, ?_⟩
  unfold ExcK PySem.W.excIn at q
  split at q
  · rename_i dd cd sl ho
    split at q
    · rename_i C' bm k0 k1 k2 k3 n k5 hm hs
      simp only [Bool.and_eq_true, beq_iff_eq, Bool.not_eq_true'] at q
      obtain ⟨⟨⟨⟨⟨rfl, rfl⟩, hdel⟩, ht⟩, hok⟩, hni⟩ := q
      obtain ⟨nm, bs, mro, ns, qn, hd, sn, sub, ab, col, del⟩ := cd
      dsimp only at hm hdel hok hni
      subst hm hdel
      have hsl : sl = #[k0, k1, k2, k3, some (.builtin "ValueError.__new__"), k5] := by
        obtain ⟨l⟩ := sl
        simp only at hs
        rw [hs]
      subst hsl
      exact ⟨bm, ns, nm, qn, bs, hd, sn, sub, ab, col, dd, k0, k1, k2, k3, k5, _, X _ _ ho, .of_isNs (PySem.W.isNs_of_in X hok), PySem.W.nsMap_none_of_in X hok hni, PySem.W.tail_of_in X ht⟩
    · cases q
  · cases q
noncomputable def Thr (X : Cx) (E : XK) : Prop := ∀ (pins : List (Addr × Obj)) (σ : St) (H : Hp) (s : Shared) (h' : Heap) (ea : Addr) (C : Value) (vs : List Value), Inv X pins σ H s → Heap.MadeExcOf s.heap h' ea C vs → E C none H → X.xe (.ref ea) { s with heap := h' }
noncomputable def tRaise (C : Addr) (E : XK) (ta : TA) : TS := fun _ σ H => ta σ H fun vs H1 => vs.length ≤ sizeLine ∧ E (.ref C) none H1
section
variable {X : Cx} {x : Str} {C : Addr} {np cpos pos : Pos} {e : Expr} {es : List Expr} {ta : TA} {E : XK}
theorem ps_raise (hT : Thr X E) (hc : X.calm = true) (hg : Gl X x) (hm : X.mg x = some (.ref C)) (q : ExcK X.K C) (ha : PA X (e :: es) ta)
    (he : starEach (e :: es) X.env = (false, eval e X.env) :: starEach es X.env := by rfl) (hpl : (backTo cpos (starEach es X.env)).any (·.1) = false := by rfl) (hdb : (x == ("__debug__" : Str)) = false := by decide) :
    PS X (.Raise (some (.Call (.Name x np) (e :: es) [] cpos)) none pos) (tRaise C E ta) := by
  intro pins s σ H D I h
  have O := own_at I.ok.mod.kin hm q
  obtain ⟨tl, N, nm, qq, bs, hdct, sn, sub, ab, col, dd, k0, k1, k2, k3, k5, mN, hC, hN, hni, T⟩ := O.obj
  refine wpAny_Raise_call_subT (C := C) (nm := nm) (q := qq) (N := N) (bs := bs) (bm := tl) (hdct := hdct) (sn := sn) (sub := sub) (ab := ab) (col := col) (dd := dd) (k0 := k0) (k1 := k1) (k2 := k2) (k3 := k3) (k5 := k5)
    PySem.F.excBase_ValueError (mN := mN) (T.hasType PySem.F.excBase_ValueError.hasBase) (I.ok.hd hc) (by rw [he]; show (false || (backTo cpos (starEach es X.env)).any (·.1)) = false; rw [hpl]; rfl) hni (ld_glob I hg hm ⟨rfl, ?_⟩ hdb)
  have ha' := ha cpos pins s σ H _ I h
  rw [he] at ha' ⊢
  exact Calls.evalArgs_plain (thn ha' fun us s2 ⟨vs, H1, I1, r, z, hE⟩ => ⟨rfl, by rw [← r.length]; exact z, I1.bk _ _ hC, hN.keeps I1.bk, T.keeps I1.bk, fun h' ea hx => hT pins σ H1 s2 h' ea _ us I1 hx hE⟩)
end
section
variable {P : Program} {w : World} {K : PySem.W.Frag} {mg : Str → Option Value} {base : Heap}
theorem Fun.okE {x qual : Str} {st : Stmt} {f : Addr} {fd : FuncData} {N ps : List Str} {k : Nat} {sp : Sp} (F : Fun K x qual st f fd) (S : FnScope N ps (defScope st)) (len : ∀ vs H Q E, sp vs H Q E → vs.length = ps.length)
    (hbody : ∀ (cdv : Value) (A : Around) (outer : List Env) (s : Shared) (H : Hp) (vs : List V) (Q : VK) (E : XK), Room k (A.deeper (envOfC qual (defScope st) s.heap.objs.size f cdv)) → sp vs H Q E →
      ∃ t, PSs (cxOf (CXE P w) P w K mg base N qual (defScope st) f cdv A outer s H E) (defBody st) t ∧ t { nx := fun _ H' => Q .non H', rt := Q } (start N vs) H) : FnOk P w K mg base (CXE P w) (k + 1) f fd ps sp := by
  obtain ⟨oc, od, kV, doc, pm, an, cdv, ct, osl, rfl, lk, hcd⟩ := F.ex
  refine fn_of lk hcd S len fun A outer s H vs Q E hr hsp => ?_
  obtain ⟨t, h, q⟩ := hbody cdv A outer s H vs Q E hr hsp
  exact ⟨t, h, q⟩
variable {N : List Str} {qual : Str} {scope : Scope} {f : Addr} {cd : Value} {A : Around} {outer : List Env} {s : Shared} {H : Hp} {E : XK}
theorem passE : Passes (CXE P w) (cxOf (CXE P w) P w K mg base N qual scope f cd A outer s H E) E := fun _ _ _ _ _ _ I hc => pas rfl rfl rfl I hc
theorem thrE : Thr (cxOf (CXE P w) P w K mg base N qual scope f cd A outer s H E) E := fun _ _ _ _ _ _ _ _ I hx hE => thr rfl rfl rfl I hx hE
end
theorem pass00 {P : Program} {w : World} {X : Cx} : Passes (CXE P w) X E0 := fun _ _ _ _ _ _ _ hc => by
  obtain ⟨_, _, _, _, _, _, _, _, _, _, _, _, _, _, _, _, hE⟩ := hc
  exact hE.elim
structure DefE (P : Program) (w : World) (K : PySem.W.Frag) (mg : Str → Option Value) (base : Heap) (x : Str) (k : Nat) (ps : List Str) (sp : Sp) : Prop where
  ex : ∃ (f : Addr) (fd : FuncData), FnOk P w K mg base (CXE P w) k f fd ps sp ∧ Binds K fd ps [] ∧ PySem.W.keepIn K (.ref f) = true ∧ mg x = some (.ref f)
theorem defE_mk {P : Program} {w : World} {K : PySem.W.Frag} {mg : Str → Option Value} {base : Heap} {x qual : Str} {st : Stmt} {f : Addr} {fd : FuncData} {k : Nat} {ps : List Str} {sp : Sp} (F : Fun K x qual st f fd)
    (ok : FnOk P w K mg base (CXE P w) k f fd ps sp) (b : Binds K fd ps []) (m : mg x = some (.ref f)) : DefE P w K mg base x k ps sp := ⟨⟨f, fd, ok, b, F.kp, m⟩⟩
section
variable {X : Cx} {x : Str} {j k : Nat} {ps : List Str} {sp : Sp} {p pos : Pos} {e : Expr} {es : List Expr} {t : TA} {E : XK}
theorem pe_defE (hx : Passes (CXE X.prog X.w) X E) (D : DefE X.prog X.w X.K X.mg X.base x j ps sp) (hr : Room k X.A) (hg : Gl X x) (ha : PA X (e :: es) t) (hjk : j ≤ k := by decide) (hdb : (x == ("__debug__" : Str)) = false := by decide)
    (he : starEach (e :: es) X.env = (false, eval e X.env) :: starEach es X.env := by rfl) (hpl : (backTo pos (starEach es X.env)).any (·.1) = false := by rfl) :
    PE X (.Call (.Name x p) (e :: es) [] pos) (tCall sp [] E t) := by
  obtain ⟨f, fd, ok, b, kp, m⟩ := D.ex
  exact pe_call ok (hr.mono hjk) hg m kp b .nil hx ha hdb he hpl
theorem ps_nox {st : Stmt} {t : TS} (h : PS X.nox st t) : PS X st t := fun pins s σ H D I hw =>
  wpAny_mono (h pins s σ H D (I.wish _) hw) (fun _ _ q => SP.unwish q) fun _ _ z => z.elim
end
end L2
namespace L2
open PySem PySem.Spec PyProof.Rows
noncomputable abbrev Cx.inTry (X : Cx) (E : Value → Shared → Prop) (pn : List (Addr × Obj)) : Cx := { X with xe := E, pn := pn }
noncomputable abbrev Cx.inExc (X : Cx) (e : Value) : Cx := { X with A := X.A.mark (some e), calm := false, xe := fun _ _ => False }
section
variable {X : Cx} {pins pins' : List (Addr × Obj)} {σ : St} {H H1 H' : Hp} {s s1 s' : Shared} {E : Value → Shared → Prop}
theorem Inv.inTry (I : Inv X pins σ H s) (E : Value → Shared → Prop) : Inv (X.inTry E (X.pn ++ pins)) [] σ H s :=
  ⟨⟨I.ok.mod, I.ok.kind, I.ok.glob, I.ok.blt, I.ok.above, I.ok.inj, I.ok.has, I.ok.cab, I.ok.hd, I.ok.frames, I.ok.stk, I.ok.exf, I.ok.bs, I.ok.bsz, I.ok.noex, I.ok.exfs, I.ok.funs, I.ok.frf⟩, I.os, I.bare, I.base, I.loc, I.cell, I.free, I.freeC,
    fun p hp => I.pin p (by simpa using hp), I.hok, I.len⟩
theorem Inv.outTry (I : Inv (X.inTry E (X.pn ++ pins)) pins' σ H s) : Inv X pins σ H s :=
  ⟨⟨I.ok.mod, I.ok.kind, I.ok.glob, I.ok.blt, I.ok.above, I.ok.inj, I.ok.has, I.ok.cab, I.ok.hd, I.ok.frames, I.ok.stk, I.ok.exf, I.ok.bs, I.ok.bsz, I.ok.noex, I.ok.exfs, I.ok.funs, I.ok.frf⟩, I.os, I.bare, I.base, I.loc, I.cell, I.free, I.freeC,
    fun p hp => I.pin p (List.mem_append_left _ hp), I.hok, I.len⟩
theorem Inv.inExc (I : Inv X pins σ H s) (e : Value) : Inv (X.inExc e) pins σ H s :=
  ⟨⟨I.ok.mod, I.ok.kind, I.ok.glob, I.ok.blt, I.ok.above, I.ok.inj, I.ok.has, I.ok.cab, fun z => (by cases z), I.ok.frames, I.ok.stk, I.ok.exf, I.ok.bs, I.ok.bsz, I.ok.noex, I.ok.exfs, I.ok.funs, I.ok.frf⟩, I.os, I.bare, I.base, I.loc, I.cell, I.free, I.freeC,
    I.pin, I.hok, I.len⟩
theorem Inv.outExc {hd : X.calm = true → X.A.handled = none} {fr : X.A.frames = some X.stack} {e : Value} (I : Inv (X.inExc e) pins σ H s) : Inv X pins σ H s :=
  ⟨⟨I.ok.mod, I.ok.kind, I.ok.glob, I.ok.blt, I.ok.above, I.ok.inj, I.ok.has, I.ok.cab, hd, fr, I.ok.stk, I.ok.exf, I.ok.bs, I.ok.bsz, I.ok.noex, I.ok.exfs, I.ok.funs, I.ok.frf⟩, I.os, I.bare, I.base, I.loc, I.cell, I.free, I.freeC,
    I.pin, I.hok, I.len⟩
theorem land {ea t : Addr} {C : Value} {B h5 : Heap} (I : Inv X pins σ H1 s1) (os : s'.os = s1.os) (bare : AllBare s'.gens) (fly : Heap.FlyingW B X.stack ea C (.ref t) s'.heap) (stay : B.StaysIn h5) (up : s'.heap.UpToSlots h5)
    (hok : HOk X.prog X.w H' B) (kB : ∀ b o, s1.heap.get? b = some o → H1 b = none → b ∉ frs X.stack → B.get? b = some o) (tB : ∀ b o, s1.heap.get? b = some o → b ∉ frs X.stack → ∃ o', B.get? b = some o')
    (un : Un (frs X.stack) [] H1 H' s1.heap s'.heap) : Inv X pins σ H' { s' with heap := h5 } := by
  have slots : ∀ b o, s'.heap.get? b = some o → b ∈ frs X.stack → ∃ sl, h5.get? b = some { o with slots := sl } := fun b o e hb => by
    obtain ⟨_, o', ho', hd⟩ := fly.2.2.1.mem hb
    rw [e] at ho'
    cases ho'
    exact up b o e hd
  have un5 : Un (frs X.stack) [] H1 H' s1.heap h5 := by
    refine ⟨fun b o e n nf _ => stay _ _ (kB b o e n nf), fun b o e n hb _ => ?_, un.free, fun b o e _ => ?_, un.tups, un.frzs, un.tbls⟩
    · obtain ⟨sl, e1⟩ := un.slot b o e n hb (by simp)
      obtain ⟨sl2, e2⟩ := slots b _ e1 hb
      exact ⟨sl2, e2⟩
    · by_cases hb : b ∈ frs X.stack
      · obtain ⟨o', e1⟩ := un.there b o e (by simp)
        obtain ⟨sl, e2⟩ := slots b _ e1 hb
        exact ⟨_, e2⟩
      · obtain ⟨o', e1⟩ := tB b o e hb
        exact ⟨o', stay _ _ e1⟩
  exact I.call' (s' := { s' with heap := h5 }) (ch := []) os un5 (hok.kept stay) bare fun b hb => by cases hb
theorem typ_exc {M : Model} {h : Heap} {e : Addr} {o : Obj} {c : Value} (h1 : h.get? e = some o) (h2 : o.cls = c) : PySem.W.Looks M h (typeOf (.ref e)) c := by
  intro A Q E s k q
  unfold typeOf
  exact wpAny_bind (wpAny_loadPart (k _ _ h1) (wpAny_pure (by rw [h2]; exact q)))
noncomputable def PassX (X : Cx) (EE : St → XK) : Prop := ∀ (pins : List (Addr × Obj)) (σ : St) (H : Hp) (s : Shared) (e : Value) (s' : Shared), Inv X pins σ H s → CXE X.prog X.w X.stack H s (EE σ) e s' → X.xe e s'
noncomputable def tCallX (sp : Sp) (EE : St → XK) (t : TA) : TE := fun σ H Q => t σ H fun vs H1 => sp vs H1 Q (EE σ)
end
section
variable {X : Cx} {x : Str} {j k : Nat} {ps : List Str} {sp : Sp} {p pos : Pos} {e : Expr} {es : List Expr} {t : TA} {EE : St → XK}
theorem pe_defX (hx : PassX X EE) (D : DefE X.prog X.w X.K X.mg X.base x j ps sp) (hr : Room k X.A) (hg : Gl X x) (ha : PA X (e :: es) t) (hjk : j ≤ k := by decide) (hdb : (x == ("__debug__" : Str)) = false := by decide)
    (he : starEach (e :: es) X.env = (false, eval e X.env) :: starEach es X.env := by rfl) (hpl : (backTo pos (starEach es X.env)).any (·.1) = false := by rfl) :
    PE X (.Call (.Name x p) (e :: es) [] pos) (tCallX sp EE t) := by
  obtain ⟨f, fd, F, hb, kp, m⟩ := D.ex
  intro pins s σ H Q I h
  refine wpAny_Call_Name_kw (ld_glob I hg m ?_ hdb)
  refine PySem.W.callWith_K (h₀ := X.base) I.ok.mod.kin kp (thn (ha pos pins s σ H _ I h) fun us s1 ⟨vs, H1, I1, r, q⟩ => ⟨I1.kIn, ?_⟩) he hpl
  have hl : us.length = ps.length := by rw [← r.length]; exact F.len _ _ _ _ q
  have hbs : BindsTo s1 fd ⟨us, []⟩ (ps.zip us) := by
    have := hb s1 us I1.kIn (by rw [List.append_nil]; exact hl)
    rwa [List.append_nil] at this
  refine wpAny_call (codeAny_mono (F.run X.A X.stack s1 H1 ⟨us, []⟩ us vs Q (EE σ) (hr.mono hjk) I1.env0 hbs r q) fun r s' hq => ?_)
  cases r with
  | error e => exact hx pins σ H1 s1 e s' I1 hq
  | ok fl =>
    cases fl with
    | ret u => exact I1.after hq
    | next => exact False.elim hq
    | brk => exact False.elim hq
    | cont => exact False.elim hq
end
section
variable {X : Cx} {body suite : List Stmt} {b₀ : Stmt} {D : Addr} {cx : Str} {np hpos pos : Pos} {tb : (St → XK) → TS} {ts : TS}
noncomputable def tTry (K : PySem.W.Frag) (D : Addr) (tb : (St → XK) → TS) (ts : TS) : TS := fun En σ H => tb (fun σ1 C _ H1 => PySem.W.exmOne K C (.ref D) = some true ∧ ts En σ1 H1) En σ H
end
noncomputable def clK (K : PySem.W.Frag) (x : Str) : Addr := match PySem.W.nsIn K mainGlobals x with
  | some (some (.ref C)) => C
  | _ => 0
theorem clK_of {K : PySem.W.Frag} {x : Str} {C : Addr} (h : PySem.W.nsIn K mainGlobals x = some (some (.ref C))) : clK K x = C := by
  unfold clK
  rw [h]
end L2
namespace Xc
open PySem PySem.W PySem.Spec PySem.Calls PyProof.Rows Builtin.ObjectAttr
structure ExcC (K : Frag) (C : Addr) : Prop where
  ga : findIn K (.ref C) "__getattribute__" = some (some (.builtin "BaseException.__getattribute__"))
  gh : findIn K (.ref C) "__getattr__" = some none
  ca : findIn K (.ref C) "__class__" = some (some (.builtin "object.__class__"))
  gg : specialIn K (.builtin "object.__class__") "__get__" = some (some (.builtin "getset_descriptor.__get__"))
  tk : takesIn K (.builtin "object.__class__") = some true
  mo : mroIn K C (.type "object") = some true
  mb : mroIn K C (.type "BaseException") = some true
  hd : hasDictIn K C = true
section
variable {prog : Program} {w : World} {A : Around} {E : Value → Shared → Prop} {s : Shared} {K : Frag} {x C : Addr} {ox : Obj} {odo : Option Obj}
theorem typ {M : Model} {h : Heap} (hx : h.get? x = some ox) (hc : ox.cls = .ref C) : Looks M h (typeOf (.ref x)) (.ref C) := hc ▸ (Looks.ld hx).andThen .now
theorem exc_found {M : Model} {h : Heap} (F : ExcC K C) (X : K.In h) : Looks M h (find (.ref x) (.ref C) "__class__") (.bind (.builtin "getset_descriptor.__get__") (.builtin "object.__class__")) := by
  have L1 := looks_findIn (M := M) X F.ca
  have L2 : Looks M h (getOf (some (.builtin "object.__class__"))) (some (.builtin "getset_descriptor.__get__")) := looks_specialIn X F.gg
  have L3 := looks_takesIn (M := M) X F.tk
  refine L1.andThen (L2.andThen ?_)
  exact (show Looks M h (dataDescriptor? (some (.builtin "object.__class__")) (some (.builtin "getset_descriptor.__get__"))) (some (.builtin "getset_descriptor.__get__", .builtin "object.__class__")) from L3.andThen .now).andThen (Looks.tag .now)
open Builtin Builtin.Getset_descriptor in
theorem exc_get {tp : Value} {R : Result → Shared → Prop} (X : K.In s.heap) (hx : s.heap.get? x = some ox) (hc : ox.cls = .ref C) (hm : mroIn K C (.type "object") = some true)
    (h : R (.ok (.ret (.ref C))) s) : codeAny (model prog w) A (.call (.builtin "getset_descriptor.__get__") ⟨[.builtin "object.__class__", .ref x, tp], []⟩) R s := by
  obtain ⟨hh, g, dr, t, os⟩ := s
  have L0 := typ (M := model prog w) hx hc
  have L1 := looks_mroIn (M := model prog w) X hm
  refine codeAny_call_builtin KF.slot_gs.plain KF.entry_gs (KF.slot_gs.check _ _ _ _ _ _ _ _ KF.type_class (KF.args_gs _ _ _) ?_)
  unfold Builtin.«getset_descriptor.__get__» descrGet
  rw [dga_obj]
  refine wpAny_bind (wpAny_pure ?_)
  unfold descrGetter descrCheckInstance descrNameAndClass isInstance
  simp only [KF.owner_class]
  repeat lk
  refine ⟨Code.quiet_builtin _ (by decide +kernel), codeAny_builtin KF.entry_class ?_⟩
  unfold Builtin.«object.__class__» shownTypeOf
  repeat lk
  exact h
theorem exc_check {nameV : Value} {Q : Unit → Shared → Prop} (F : ExcC K C) (X : K.In s.heap) (hx : s.heap.get? x = some ox) (hc : ox.cls = .ref C) (hq : Q () s) :
    wpAny (model prog w) A (checkBuiltinCall "BaseException.__getattribute__" ⟨[.ref x, nameV], []⟩) Q E s := by
  have hk : builtinKind "BaseException.__getattribute__" = some .slot := by decide +kernel
  have hsplit : splitId "BaseException.__getattribute__" = some ("BaseException", "__getattribute__") := by decide +kernel
  have LI : Looks (model prog w) s.heap (isInstance (.ref x) (.type "BaseException")) true := (typ (M := model prog w) hx hc).andThen (looks_mroIn X F.mb)
  have ha := PySem.F.args_bexc_ga (.ref x) nameV
  obtain ⟨hh, g, d, t, os⟩ := s
  simp only [checkBuiltinCall, hk, hsplit]
  refine wpAny_bind (LI.at ?_)
  repeat (first | assumption | wp_step)
  all_goals exact hq
theorem exc_entry {tk : Tok} {Q : Fin → Shared → Prop} (F : ExcC K C) (X : K.In s.heap) (hx : s.heap.get? x = some ox) (hc : ox.cls = .ref C) (hq : Q (.done (.ret (.ref C))) s) :
    wpAny (model prog w) A (Builtin.«object.__getattribute__» ⟨[.ref x, .str "__class__" tk], []⟩) Q E s := by
  have L0 := typ (M := model prog w) hx hc
  have L1 := exc_found (M := model prog w) (x := x) F X
  obtain ⟨hh, g, d, t, os⟩ := s
  unfold Builtin.«object.__getattribute__»
  refine wpAny_bind (wpAny_pure ?_)
  refine wpAny_bind (wpAny_pure ?_)
  refine wpAny_bind (L0.at ?_)
  refine wpAny_bind (L1.at ?_)
  show wpAny _ _ (holding [Value.builtin "object.__class__"] (call (.builtin "getset_descriptor.__get__") [.builtin "object.__class__", .ref x, .ref C]) >>= ret) _ _ _
  exact wpAny_bind (wpAny_holding (wpAny_call (exc_get X hx hc F.mo (wpAny_pure hq))))
theorem exc_class {Q : Option Value → Shared → Prop} (F : ExcC K C) (X : K.In s.heap) (hx : s.heap.get? x = some ox) (hc : ox.cls = .ref C) (h : Q (some (.ref C)) { s with toks := s.toks + 1 }) : wpAny (model prog w) A (getAttr? (.ref x) "__class__") Q E s := by
  have L0 := typ (M := model prog w) hx hc
  have L1 := looks_findIn (M := model prog w) X F.ga
  have L2 := looks_findIn (M := model prog w) X F.gh
  have B := PySem.F.attrBase_ValueError
  obtain ⟨hh, g, d, t, os⟩ := s
  unfold getAttr? getAttrBy? getAttrBy
  refine wpAny_bind (wpAny_mkText (wpAny_bind (wpAny_attempt (wpAny_holding (wpAny_bind (L0.at (wpAny_bind (L1.at ?_))))))))
  have hx2 : (Value.builtin "BaseException.__getattribute__" == Value.builtin "object.__getattribute__") = false := by decide +kernel
  have hx1 : (onTheHeap (Value.ref C) && Value.builtin "BaseException.__getattribute__" == Value.builtin "object.__getattribute__") = false := by rw [hx2]; rfl
  show wpAny _ _ (if (onTheHeap (Value.ref C) && Value.builtin "BaseException.__getattribute__" == Value.builtin "object.__getattribute__") = true then _ else getAttrByItsOwn (.ref x) _ (.ref C) (.builtin "BaseException.__getattribute__") false false) _ _ _
  rw [hx1, if_neg (by decide)]
  unfold getAttrByItsOwn
  refine wpAny_bind ?_
  show wpAny _ _ (typeLookup (.ref C) "__getattr__") _ _ _
  refine L2.at ?_
  refine wpAny_bind (wpAny_attempt (wpAny_holding ?_))
  show wpAny _ _ (boundAndCalled (.builtin "BaseException.__getattribute__") (.ref x) _) _ _ _
  unfold boundAndCalled
  refine wpAny_bind (wpAny_of_eq (B.ga.bind (.ref x)) ?_)
  refine wpAny_call (codeAny_call_builtin B.ga.plain PySem.F.entry_bexc_ga (exc_check F (s := ⟨hh, g, d, t + 1, os⟩) X hx hc (exc_entry F (s := ⟨hh, g, d, t + 1, os⟩) X hx hc ?_)))
  show wpAny _ _ (handedOut (.ref C)) _ _ _
  exact handed_on rfl (wpAny_pure h)
theorem kitx_exc (F : ExcC K C) : KitX K (.ref x) (.ref C) (fun h => ∃ ox, h.get? x = some ox ∧ ox.cls = .ref C) where
  ty := fun _ _ _ ⟨_, hx, hc⟩ => typ hx hc
  it := fun _ _ X _ => by
    obtain ⟨cdD, hcD, _⟩ := any_some F.hd
    unfold clsIn at hcD
    split at hcD
    · rename_i c' d' cd' sl' ho
      intro A' Q' E' s' k q
      unfold isType loadHead
      exact wpAny_bind (wpAny_loadPart (k _ _ (X _ _ ho)) (wpAny_pure q))
    · cases hcD
  ne := fun h tp dd its n sl X htp => by
    obtain ⟨cdD, hcD, _⟩ := any_some F.hd
    refine Bool.eq_false_iff.mpr fun q => ?_
    have e : C = tp := Value.ref.inj (beq_iff_eq.mp q)
    subst e
    unfold clsIn at hcD
    split at hcD
    · rename_i c' d' cd' sl' ho
      have z := (X _ _ ho).symm.trans htp
      cases z
    · cases hcD
  ca := fun X ⟨_, hx, hc⟩ k => exc_class F X hx hc k
end
end Xc
namespace L2
open PySem PySem.Spec PyProof.Rows
noncomputable def ExcO (a C : Addr) : HO := .ext fun h => ∃ ox : Obj, h.get? a = some ox ∧ ox.cls = .ref C
section
variable {X : Cx} {pins : List (Addr × Obj)} {σ : St} {H H1 H' : Hp} {s s1 s' : Shared}
theorem objOk_there {P : Program} {w : World} {H : Hp} {h : Heap} {a : Addr} {o : HO} (x : ObjOk P w H h a o) : ∃ ob, h.get? a = some ob := by
  cases o with
  | lst xs => obtain ⟨_, _, _, _, e⟩ := x; exact ⟨_, e⟩
  | tup xs => obtain ⟨_, _, _, p⟩ := x; obtain ⟨o, e, _⟩ := p; exact ⟨o, e⟩
  | dK kvs => obtain ⟨_, _, _, _, o, _, _, e, _⟩ := x; exact ⟨_, e⟩
  | dT kvs => obtain ⟨_, _, _, _, o, _, _, e, _⟩ := x; exact ⟨_, e⟩
  | set S n => obtain ⟨o, _, _, _, e, _⟩ := x; exact ⟨_, e⟩
  | ins C dx fs => obtain ⟨_, _, _, e, _⟩ := x; exact ⟨_, e⟩
  | own y => obtain ⟨_, e⟩ := x; exact ⟨_, e⟩
  | xd fs => obtain ⟨_, ⟨_, _, _, e, _⟩, _⟩ := x; exact ⟨_, e⟩
  | rng lo hi => obtain ⟨_, _, _, e⟩ := x; exact ⟨_, e⟩
  | frz ob u => obtain ⟨e, _⟩ := x; exact ⟨_, e⟩
  | tbl ps => exact ⟨_, show h.get? a = some _ from x⟩
  | met f y => exact ⟨_, show h.get? a = some _ from x⟩
  | ext φ => obtain ⟨_, ⟨_, e⟩, _⟩ := x; exact ⟨_, e⟩
theorem landX {ea t Ca : Addr} {B h5 : Heap} (I : Inv X pins σ H1 s1) (os : s'.os = s1.os) (bare : AllBare s'.gens) (fly : Heap.FlyingW B X.stack ea (.ref Ca) (.ref t) s'.heap) (fly5 : Heap.FlyingW B X.stack ea (.ref Ca) (.ref t) h5) (up : s'.heap.UpToSlots h5)
    (hok : HOk X.prog X.w H' B) (kB : ∀ b o, s1.heap.get? b = some o → H1 b = none → b ∉ frs X.stack → B.get? b = some o) (tB : ∀ b o, s1.heap.get? b = some o → b ∉ frs X.stack → ∃ o', B.get? b = some o')
    (un : Un (frs X.stack) [] H1 H' s1.heap s'.heap) : H' ea = none ∧ Inv X pins σ (upd H' ea (ExcO ea Ca)) { s' with heap := h5 } := by
  have stay := fly5.1
  have hn : H' ea = none := by
    cases q : H' ea with
    | none => rfl
    | some o =>
      have h1 := (hok ea o q).lt
      obtain ⟨ob, hob⟩ : ∃ ob, B.get? ea = some ob := by
        have := hok ea o q
        exact objOk_there this
      rw [fly.2.1] at hob
      cases hob
  have new : ∀ b o, s1.heap.get? b = some o → b ≠ ea := fun b o e z => by
    subst z
    by_cases hb : b ∈ frs X.stack
    · obtain ⟨_, o', ho', hd⟩ := fly.2.2.1.mem hb
      obtain ⟨oe, vs, h1, _, h2, _⟩ := fly.first
      rw [h1] at ho'
      cases ho'
      exact hd _ h2
    · obtain ⟨o', e1⟩ := tB b o e hb
      rw [fly.2.1] at e1
      cases e1
  have slots : ∀ b o, s'.heap.get? b = some o → b ∈ frs X.stack → ∃ sl, h5.get? b = some { o with slots := sl } := fun b o e hb => by
    obtain ⟨_, o', ho', hd⟩ := fly.2.2.1.mem hb
    rw [e] at ho'
    cases ho'
    exact up b o e hd
  have un5 : Un (frs X.stack) [] H1 (upd H' ea (ExcO ea Ca)) s1.heap h5 := by
    refine ⟨fun b o e n nf _ => stay _ _ (kB b o e n nf), fun b o e n hb _ => ?_, fun b o e n hx => by rw [upd_ne (new b o e)]; exact un.free b o e n hx, fun b o e _ => ?_,
      fun b zs e => by have q := un.tups b zs e; rw [upd_ne (ne_of_none q hn)]; exact q, fun b o v e => by have q := un.frzs b o v e; rw [upd_ne (ne_of_none q hn)]; exact q, fun b ps e => ?_⟩
    · obtain ⟨sl, e1⟩ := un.slot b o e n hb (by simp)
      obtain ⟨sl2, e2⟩ := slots b _ e1 hb
      exact ⟨sl2, e2⟩
    · by_cases hb : b ∈ frs X.stack
      · obtain ⟨o', e1⟩ := un.there b o e (by simp)
        obtain ⟨sl, e2⟩ := slots b _ e1 hb
        exact ⟨_, e2⟩
      · obtain ⟨o', e1⟩ := tB b o e hb
        exact ⟨o', stay _ _ e1⟩
    · obtain ⟨more, q⟩ := un.tbls b ps e
      exact ⟨more, by rw [upd_ne (ne_of_none q hn)]; exact q⟩
  have hok5 : HOk X.prog X.w (upd H' ea (ExcO ea Ca)) h5 := fun a o e => by
    by_cases ha : a = ea
    · subst ha
      rw [upd_same] at e
      cases e
      obtain ⟨oe, vs, h1, h2, _⟩ := fly5.first
      exact ⟨⟨oe, h1, h2⟩, ⟨oe, h1⟩, fun h1 h2 ⟨ox, e1, e2⟩ k => ⟨ox, k ox e1, e2⟩⟩
    · rw [upd_ne ha] at e
      have q : ObjOk X.prog X.w H' B a o := hok a o e
      refine q.stay (fun c u hc e' => stay _ _ e') (fun c e' => ?_) fun c zs e' => ?_
      · rw [upd_ne (ne_of_none e' hn)]; exact e'
      · rw [upd_ne (ne_of_none e' hn)]; exact e'
  exact ⟨hn, I.call' (s' := { s' with heap := h5 }) (ch := []) os un5 hok5 bare fun b hb => by cases hb⟩
theorem del_ok {M : Model} {A : Around} {E : Value → Shared → Prop} {i : Nat} {x : Str} {pos : Pos} {Q : Unit → Shared → Prop} {v : V} (I : Inv X pins σ H s) (hN : X.N.Nodup) (hi : X.N[i]? = some x) (hk : X.env.scope.names.lookup x = some .local) (hv : σ[i]? = some (some v))
    (h : ∀ s', Inv X pins (σ.set i none) H s' → Q () s') : wpAny M A (unbindBehindTheSuite X.env x pos) Q E s := by
  obtain ⟨m, hn, hl⟩ := id I.loc
  have hcls : (X.env.scope.kind == .class || (X.env.scope.kind == .module && X.env.locals != X.env.globals)) = false := by rw [I.ok.kind]; rfl
  have hiσ : i < σ.length := by rw [I.len]; exact (List.getElem?_eq_some_iff.mp hi).1
  have cne := I.cne
  obtain ⟨u, _, lk⟩ := hl i x v hi hv (.inl hk)
  have hmx : m x = some u := by
    rcases lk with ⟨_, e⟩ | ⟨z, _⟩
    · exact e
    · have hk' : X.env.kindOf x = some .local := hk
      rw [hk'] at z
      rcases z with z | z <;> cases z
  have tracked : ∀ {a : Addr} {h' : Heap}, (∃ o, s.heap.get? a = some o ∧ H a = none) → Heap.SameBut a s.heap h' → HOk X.prog X.w H h' := fun {a h'} ha hs b ob e => by
    obtain ⟨_, _, hfree⟩ := ha
    refine (I.hok b ob e).stay (fun c w' hc q => (hs.2 c ?_).trans q) (fun _ q => q) fun _ _ q => q
    rintro rfl
    rcases hc with rfl | hc
    · rw [hfree] at e; cases e
    · rw [hfree] at hc; cases hc
  unfold unbindBehindTheSuite
  refine wpAny_onRaise (wpAny_unbindName_local hk hn hmx hcls fun h' u' hn' hs => ?_)
  obtain ⟨oL, _, _, hoL, _⟩ := id hn
  refine h _ ⟨I.ok, I.os, I.bare, ⟨fun b o e n hb hx => ?_, fun b o e n hb hx => ?_, I.base.free, fun b o e hx => ?_, I.base.tups, I.base.frzs, I.base.tbls⟩, ⟨_, hn', fun j y v' e1 e2 e3 => ?_⟩, fun y c e => ?_, I.free, I.freeC, fun p hp => ?_, tracked ⟨oL, hoL, I.free⟩ hs, by simpa using I.len⟩
  · exact (hs.2 b (Nat.ne_of_lt (Nat.lt_of_lt_of_le (Heap.lt_size e) I.ok.above))).trans (I.base.keep b o e n hb hx)
  · obtain ⟨sl, e1⟩ := I.base.slot b o e n hb hx
    exact ⟨sl, (hs.2 b (Nat.ne_of_lt (Nat.lt_of_lt_of_le (Heap.lt_size e) I.ok.above))).trans e1⟩
  · obtain ⟨o', e1⟩ := I.base.there b o e hx
    exact ⟨o', (hs.2 b (Nat.ne_of_lt (Nat.lt_of_lt_of_le (Heap.lt_size e) I.ok.above))).trans e1⟩
  · by_cases hj : j = i
    · subst hj
      rw [List.getElem?_set_self hiσ] at e2
      cases e2
    · rw [List.getElem?_set_ne (Ne.symm hj)] at e2
      obtain ⟨u2, r', q⟩ := hl j y v' e1 e2 e3
      refine ⟨u2, r', ?_⟩
      rcases q with ⟨k, e⟩ | ⟨k, c, e, z⟩
      · refine .inl ⟨k, ?_⟩
        have : y ≠ x := fun e => hj (nodup_ix hN e1 (e ▸ hi))
        simp [this, e]
      · exact .inr ⟨k, c, e, z.sameBut hs (cne y c e)⟩
  · obtain ⟨w', z⟩ := I.cell y c e
    exact ⟨w', z.sameBut hs (cne y c e)⟩
  · obtain ⟨e, n, ne, nf, d⟩ := I.pin p hp
    exact ⟨(hs.2 p.1 ne).trans e, n, ne, nf, d⟩
theorem call_isiX {K : PySem.W.Frag} (hK : X.K = K) : CallR X (.builtin "isinstance") (fun xs H Q => ∃ a y, xs = [.ref a, y] ∧ isCls y = true ∧ ∃ C, H a = some (ExcO a C) ∧ Xc.ExcC K C ∧ ∃ b, PySem.W.kitOne K (.ref C) (clsV y) = some b ∧ Q (.bl b) H) := by
  subst hK
  intro pins s σ H xs us Q I r h
  obtain ⟨a, y, rfl, hy, C, ho, F, b, e, q⟩ := h
  obtain ⟨u, w', rfl, rx, ry⟩ := vals2 r
  have ec : w' = clsV y := by
    cases y <;> first
      | (simp [isCls] at hy; done)
      | exact ry
  subst ec
  cases (show u = Value.ref a from rx)
  obtain ⟨⟨ox, h1, h2⟩, _⟩ := (show ObjOk X.prog X.w H s.heap a (ExcO a C) from I.hok a _ ho)
  exact PySem.W.kia_one (Xc.kitx_exc F) I.kIn ⟨ox, h1, h2⟩ e (fun z => nomatch z) fun tk => ⟨.bl b, H, I.tok tk, rfl, q⟩
end
section
variable {X : Cx} {body suite : List Stmt} {b₀ : Stmt} {D : Addr} {cx n : Str} {i : Nat} {np hpos pos : Pos} {tb : (St → XK) → TS} {ts : TS}
noncomputable def Ends.gone (En : Ends) (i : Nat) : Ends := ⟨fun σ H => En.nx (σ.set i none) H, En.rt, fun σ H => En.bk (σ.set i none) H, fun σ H => En.ct (σ.set i none) H⟩
noncomputable def tTryAs (K : PySem.W.Frag) (D : Addr) (i : Nat) (tb : (St → XK) → TS) (ts : TS) : TS := fun En σ H =>
  tb (fun σ1 C _ H1 => PySem.W.exmOne K C (.ref D) = some true ∧ ∃ Ca, C = .ref Ca ∧ ∀ ea, H1 ea = none → ts (En.gone i) (σ1.set i (some (.ref ea))) (upd H1 ea (ExcO ea Ca))) En σ H
theorem ps_tryAs (hst : X.stack = X.env :: X.outer) (hfr : X.env.frame = some X.env.locals) (hg : Gl X cx) (hm : X.mg cx = some (.ref D)) (hN : X.N.Nodup) (hi : X.N[i]? = some n) (hk : X.env.scope.names.lookup n = some .local)
    (hb : ∀ E pn EE, PassX (X.inTry E pn) EE → PSs (X.inTry E pn) body (tb EE)) (hs : ∀ e, PSs (X.inExc e) (b₀ :: suite) ts) (hdb : (cx == ("__debug__" : Str)) = false := by decide) :
    PS X (.Try body [.ExceptHandler (some (.Name cx np)) (some n) (b₀ :: suite) hpos] [] [] pos) (tTryAs X.K D i tb ts) := by
  intro pins s σ H En I h
  refine wpAny_Try_except (wpAny_mono (hb (fun e s₁ => wpAny (model X.prog X.w) X.A (noteFrame e X.env) (fun _ s₂ => wpAny (model X.prog X.w) X.A (setFlight e none) (fun _ s₃ =>
    wpAny (model X.prog X.w) X.A (handleBy e X.env [.ExceptHandler (some (.Name cx np)) (some n) (b₀ :: suite) hpos]) (SP X pins En) X.xe s₃) X.xe s₂) X.xe s₁) (X.pn ++ pins) _ ?_ [] s σ H En (I.inTry _) h) (fun f s1 hq => ?_) fun e s1 hq => hq)
  · intro pins' σ1 H1 s1 e s' I1 hc
    have J := I1.outTry
    obtain ⟨ea, t, C, vs, B, H', rfl, os, bare, fly, tup, tn, hok, kB, tB, un, hmt, Ca, rfl, hts⟩ := hc
    have fly' : Heap.FlyingW B (X.env :: X.outer) ea (.ref Ca) (.ref t) s'.heap := by rw [← hst]; exact fly
    refine wpAny_looks_onW (by rw [← hst]; exact I.ok.frames) hfr fly' fun h4 held4 up4 => ?_
    refine wpAny_landsW held4 fun h5 fly5 up5 => ?_
    have up := up4.trans up5
    have J5 : Inv X pins σ1 H' { s' with heap := h5 } := land J os bare fly fly5.1 up hok kB tB un
    obtain ⟨ob, hob, hobc⟩ := fly5.there
    refine wpAny_handleBy_cons (codeAny_handlers_test (ld_glob (J5.inExc (.ref ea)) hg hm ?_ hdb)) (by intro q; cases q)
    refine (PySem.W.exm_one J5.kIn (typ_exc hob hobc) hmt).at ?_
    refine codeAny_handlers_suite_as ?_
    refine lands_againW fly5 fun h6 fly6 up6 => ?_
    obtain ⟨hn, J6⟩ := landX J os bare fly (by rw [hst]; exact fly6) (up.trans up6) hok kB tB un
    refine store_ok (v := .ref ea) J6 hN hi (.inl hk) rfl (fun s6 J7 => ?_) (.inr hk)
    refine wpAny_mono (hs (.ref ea) pins s6 _ _ (En.gone i) (J7.inExc _) (hts ea hn)) (fun f s7 h7 => ?_) fun _ _ z => z.elim
    show wpAny _ X.A (do bindName X.env n .none; unbindBehindTheSuite X.env n hpos) (fun _ s₃ => SP X pins En f s₃) X.xe s7
    have fin : ∀ (σ7 : St) (H7 : Hp) (R : Shared → Prop), Inv (X.inExc (.ref ea)) pins σ7 H7 s7 → (∀ s8, Inv X pins (σ7.set i none) H7 s8 → R s8) → wpAny (model X.prog X.w) X.A (do bindName X.env n .none; unbindBehindTheSuite X.env n hpos) (fun _ s8 => R s8) X.xe s7 := fun σ7 H7 R I7 k => by
      have I8 := I7.outExc (hd := I.ok.hd) (fr := I.ok.frames)
      refine wpAny_bind (wpAny_bindName (store_ok (v := .non) I8 hN hi (.inl hk) rfl (fun s8 I9 => ?_) (.inr hk)))
      have hil : i < σ7.length := by rw [I8.len]; exact (List.getElem?_eq_some_iff.mp hi).1
      refine del_ok I9 hN hi hk (v := .non) (by rw [List.getElem?_set_self hil]) fun s9 I10 => k s9 ?_
      rw [List.set_set] at I10
      exact I10
    cases f with
    | next => obtain ⟨σ7, H7, I7, q7⟩ := h7; exact fin σ7 H7 _ I7 fun s8 I8 => ⟨_, H7, I8, q7⟩
    | brk => obtain ⟨σ7, H7, I7, q7⟩ := h7; exact fin σ7 H7 _ I7 fun s8 I8 => ⟨_, H7, I8, q7⟩
    | cont => obtain ⟨σ7, H7, I7, q7⟩ := h7; exact fin σ7 H7 _ I7 fun s8 I8 => ⟨_, H7, I8, q7⟩
    | ret u => obtain ⟨v, σ7, H7, I7, r7, q7⟩ := h7; exact fin σ7 H7 _ I7 fun s8 I8 => ⟨v, _, H7, I8, r7, q7⟩
  · cases f with
    | next => obtain ⟨σ7, H7, I7, q7⟩ := hq; exact wpAny_execs_nil ⟨σ7, H7, I7.outTry, q7⟩
    | brk => obtain ⟨σ7, H7, I7, q7⟩ := hq; exact ⟨σ7, H7, I7.outTry, q7⟩
    | cont => obtain ⟨σ7, H7, I7, q7⟩ := hq; exact ⟨σ7, H7, I7.outTry, q7⟩
    | ret u => obtain ⟨v, σ7, H7, I7, r7, q7⟩ := hq; exact ⟨v, σ7, H7, I7.outTry, r7, q7⟩
end
theorem DatVs.bls {K : PySem.W.Frag} {H : Hp} : ∀ bs : List Bool, DatVs K H (bs.map V.bl) (bs.map PyData.bool)
  | [] => .nil
  | b :: r => .cons (.bl b) (DatVs.bls r)
theorem canLay_bls : ∀ bs : List Bool, PyData.canLayAll0 (bs.map PyData.bool) = true
  | [] => by simp [PyData.canLayAll0]
  | b :: r => by simp [PyData.canLayAll0, PyData.canLay0, canLay_bls r]
theorem depth_bls : ∀ bs : List Bool, PyData.depthAll (bs.map PyData.bool) = 0
  | [] => by simp [PyData.depthAll]
  | b :: r => by simp [PyData.depthAll, PyData.depth, depth_bls r]
theorem eqvAll_bls : ∀ bs : List Bool, PyData.eqvAll (bs.map PyData.bool) (bs.map PyData.bool) = true
  | [] => by simp [PyData.eqvAll]
  | b :: r => by simp [PyData.eqvAll, PyData.eqv, eqvAll_bls r]
theorem eqLB {K : PySem.W.Frag} {H : Hp} {a b : Addr} {Q : VK} (bs : List Bool) (h : SqL K H a (bs.map V.bl)) (h' : SqL K H b (bs.map V.bl)) (q : Q (.bl true) H) : rEqD K false (.ref a) (.ref b) H Q := by
  have sh : SeqAt.shaped (.list (bs.map PyData.bool)) = true := by
    unfold SeqAt.shaped
    simp [PyData.canLay0, PyData.depth, canLay_bls, depth_bls]
  refine ⟨_, _, .lst h (DatVs.bls bs), .lst h' (DatVs.bls bs), sh, sh, ?_⟩
  rw [if_neg (by decide)]
  have e : PyData.eqv (.list (bs.map PyData.bool)) (.list (bs.map PyData.bool)) = true := by
    simp only [PyData.eqv]
    exact eqvAll_bls bs
  rw [e]
  exact q
end L2
namespace L2
open PySem PySem.Spec PyProof.Rows
section
variable {X : Cx} {pins : List (Addr × Obj)} {σ : St} {H : Hp} {s : Shared} {h' : Heap}
theorem Inv.turned2 {t' : Nat} {a e it : Addr} {o : HO} (I : Inv X pins σ H s) (k : ∀ b u, b ≠ e → b ≠ it → s.heap.get? b = some u → h'.get? b = some u) (ha : a = s.heap.objs.size) (new : ObjOk X.prog X.w (upd H a o) h' a o) (fe : FpOk X pins H e) (fi : FpOk X pins H it) :
    Inv X pins σ (upd H a o) { s with heap := h', toks := t' } := by
  have hnone : H a = none := I.hok.fresh (by rw [ha]; exact Nat.le_refl _)
  have lts : ∀ b u, s.heap.get? b = some u → b ≠ a := fun b u q => by rw [ha]; exact Nat.ne_of_lt (Heap.lt_size q)
  have nin : ∀ b, b ∉ [e, it] → b ≠ e ∧ b ≠ it := fun b hb => ⟨fun z => hb (by simp [z]), fun z => hb (by simp [z])⟩
  have ntr : ∀ b u, H b = some u → b ≠ e ∧ b ≠ it := fun b u q => ⟨ne_of_none q fe.1, ne_of_none q fi.1⟩
  refine I.step (g' := s.gens) (d' := s.drawn) (ch := [e, it]) (fun b hb => ?_) (fun b u _ _ hc q _ => k b u (nin b hc).1 (nin b hc).2 q) (fun b u _ _ hc q _ => ⟨u.slots, k b u (nin b hc).1 (nin b hc).2 q⟩) (fun b u _ q n => by rw [upd_ne (lts b u q)]; exact n)
    (fun b u hc q => ⟨u, k b u (nin b hc).1 (nin b hc).2 q⟩) (fun b zs q => by rw [upd_ne (ne_of_none q hnone)]; exact q) (fun b u v q => by rw [upd_ne (ne_of_none q hnone)]; exact q) (fun b ps q => ⟨#[], by rw [upd_ne (ne_of_none q hnone), q]; simp⟩) (fun m hm => ?_) (fun b u q => ?_) I.bare
  · have fb : FpOk X pins H b := by
      rcases List.mem_cons.mp hb with z | z
      · rw [z]; exact fe
      · rw [List.mem_singleton.mp z]; exact fi
    obtain ⟨f0, f1, f2, f3, f4, f5⟩ := fb
    exact ⟨f3, f1, f4, f5⟩
  · obtain ⟨u, es, ep, ho, r⟩ := hm
    exact ⟨u, es, ep, k _ u (Ne.symm fe.2.1) (Ne.symm fi.2.1) ho, r⟩
  · by_cases hb : b = a
    · subst hb
      rw [upd_same] at q
      cases q
      exact new
    · rw [upd_ne hb] at q
      have w : ObjOk X.prog X.w H s.heap b u := I.hok b u q
      have ntr' : ∀ c, (c = b ∨ ∃ u, H c = some u) → c ≠ e ∧ c ≠ it := fun c hc => by
        rcases hc with z | ⟨_, z⟩
        · rw [z]; exact ntr b u q
        · exact ntr c _ z
      refine w.stay (fun c v hc q' => k c v (ntr' c ?_).1 (ntr' c ?_).2 q') (fun c q' => ?_) fun c zs q' => ?_
      · rcases hc with z | z
        · exact .inl z
        · exact .inr ⟨_, z⟩
      · rcases hc with z | z
        · exact .inl z
        · exact .inr ⟨_, z⟩
      · rw [upd_ne (ne_of_none q' hnone)]; exact q'
      · rw [upd_ne (ne_of_none q' hnone)]; exact q'
end
noncomputable def Ite (K : PySem.W.Frag) (a : Addr) : It :=
  ⟨fun i H => ∃ xs x, SqL K H a xs ∧ xs[i]? = some x, fun i H x H' => ∃ y t, (∀ xs, SqL K H a xs → xs[i]? = some y) ∧ H t = none ∧ x = .ref t ∧ H' = upd H t (.tup [.int (i : Int), y]), fun i H => ∃ xs, SqL K H a xs ∧ xs.length ≤ i⟩
theorem turn_enum {P : Program} {w : World} {K : PySem.W.Frag} {elts : List Expr} {x1} {tp : Pos} (a e it : Addr) (hne : e ≠ it) : Turn P w K (.Tuple elts x1 tp) (Ite K a) [e, it] e (fun i h => (∃ old, IsEnum h e it ((i : Nat) : Int) old) ∧ h.IsListIter it a i) where
  mem := by simp
  obj := fun i h st b hb => by
    obtain ⟨⟨old, he⟩, o, ho, c, d⟩ := st
    rcases List.mem_cons.mp hb with z | z
    · subst z
      exact ⟨_, he, fun v z => by
        have z' : Data.fields _ = Data.cell v := z
        cases z'⟩
    · rw [List.mem_singleton.mp z]
      exact ⟨o, ho, fun v z => by rw [d] at z; cases z⟩
  keep := fun i h h' st k => by
    obtain ⟨⟨old, he⟩, hi⟩ := st
    exact ⟨⟨old, k e (by simp) _ he⟩, hi.at fun o q => k it (by simp) o q⟩
  item := by
    intro X hP hw hK hc i pins s σ H E I hf st hg
    subst hP hw hK
    obtain ⟨xs, x, hq, hx⟩ := hg
    obtain ⟨its, rv, p, hz⟩ := I.list hq
    obtain ⟨u, hu, ru⟩ := rv.get hx
    obtain ⟨⟨old, he⟩, hit⟩ := st
    have fe := hf e (by simp)
    have fi := hf it (by simp)
    have hel : e < s.heap.objs.size := Heap.lt_size he
    refine wpAny_pyNext_enum_item he hit p.isList (x := u) (by simpa using hu) hne fun h1 he1 hit1 ht1 hz1 hk1 => ⟨_, rfl, ?_⟩
    refine wpAny_letOwnedTupleGo_enum he1 fun h2 he2 hs2 => ?_
    have hs2' : Heap.SameBut e h1 h2 := hs2
    have hnone : H s.heap.objs.size = none := I.hok.fresh (Nat.le_refl _)
    refine ⟨.ref s.heap.objs.size, upd H s.heap.objs.size (.tup [.int (i : Int), x]), I.turned2 (t' := s.toks + 1) (e := e) (it := it) (fun b o hb1 hb2 q => (hs2'.2 b hb1).trans (hk1 b o hb1 hb2 q)) rfl ?_ fe fi, rfl, ⟨x, _, fun ys hy => by rw [I.list_inj hy hq]; exact hx, hnone, rfl, rfl⟩, ⟨⟨_, by rw [Int.natCast_add]; exact he2⟩, hit1.extBut hs2'.extBut (Ne.symm hne)⟩, fun b hb => ?_⟩
    · exact ⟨by show 2 ≤ sizeLine; decide, [.int i s.toks, u], .cons ⟨_, rfl⟩ (.cons ru .nil), ⟨_, (hs2'.2 _ (Nat.ne_of_gt hel)).trans ht1, rfl, _, rfl⟩⟩
    · have hb0 : H b = none := (hf b hb).1
      have hbl : b < s.heap.objs.size := by
        rcases List.mem_cons.mp hb with z | z
        · rw [z]; exact hel
        · rw [List.mem_singleton.mp z]
          obtain ⟨o, ho, _⟩ := id hit
          exact Heap.lt_size ho
      rw [upd_ne (Nat.ne_of_lt hbl)]
      exact hb0
  done := by
    intro X hP hw hK hc i pins s σ H E I hf st hg
    subst hP hw hK
    obtain ⟨xs, hq, hx⟩ := hg
    obtain ⟨its, rv, p, hz⟩ := I.list hq
    obtain ⟨⟨old, he⟩, hit⟩ := st
    obtain ⟨f0, f1, f2, f3, f4, f5⟩ := hf it (by simp)
    have hl := rv.length
    exact wpAny_pyNext_enum_end (I.ok.hd hc) he hit p.isList (by simp; ((try clear f0 f1 f2 f3 hc hne hz); omega)) fun h' eb => ⟨rfl, I.turned (t' := s.toks) (fun b o hb q => eb b o hb q) f0 f1 f3 f4 f5⟩
  self := fun _ _ _ _ _ ⟨⟨_, he⟩, _⟩ h => wpAny_pyIter_enum he h
section
variable {X : Cx} {e : Expr} {te : TE} {p p2 pos pos2 : Pos}
noncomputable def iEnum (K : PySem.W.Frag) (tl : TE) : TI := fun σ H R => tl σ H fun x H1 => ∃ a, x = .ref a ∧ (∃ xs, SqL K H1 a xs) ∧ R (Ite K a) H1
theorem pi_enum {elts : List Expr} {x1} {tp : Pos} (hg : Gl X "enumerate") (hm : X.mg "enumerate" = none) (he : PE X e te) (hs : starEach [e] X.env = (false, eval e X.env) :: starEach [] X.env := by rfl) : PI X (.Tuple elts x1 tp) (.Call (.Name "enumerate" p) [e] [] pos) (iEnum X.K te) := by
  intro pins s σ H R I h
  refine wpAny_Call_Name_kw (ld_blt I hg hm PyProof.Rows.boot_enumerate ?_ (by decide) (by decide))
  refine PyProof.Rows.callWith_type1 (thn (pa_cons he pa_nil hs pos pins s σ H (fun vs H1 => ∃ a, vs = [.ref a] ∧ (∃ xs, SqL X.K H1 a xs) ∧ R (Ite X.K a) H1) I ?_) fun us s1 ⟨vs, H1, I1, r1, q1⟩ => ?_) hs rfl
  · show te σ H _
    have e2 : (fun x H1 => tNil σ H1 fun xs H2 => (fun vs H1 => ∃ a, vs = [V.ref a] ∧ (∃ xs, SqL X.K H1 a xs) ∧ R (Ite X.K a) H1) (x :: xs) H2) = fun x H1 => ∃ a, x = V.ref a ∧ (∃ xs, SqL X.K H1 a xs) ∧ R (Ite X.K a) H1 := by
      funext x H1
      simp only [tNil, List.cons.injEq, and_true]
    have := h
    unfold iEnum at this
    rw [← e2] at this
    exact this
  · obtain ⟨a, rfl, ⟨xs, hq⟩, hR⟩ := q1
    obtain ⟨u, rfl, ru⟩ := vals1 r1
    cases ru
    obtain ⟨its, rv, pl, hz⟩ := I1.list hq
    refine call_enumerate_list pl.isList fun h' he' hit hz' hk => ?_
    refine wpAny_pyIter_enum he' ?_
    refine ⟨s1.heap.objs.size + 1, [s1.heap.objs.size + 1, s1.heap.objs.size], _, _, H1, rfl, I1.kept (t' := s1.toks) hk, turn_enum a _ _ (Nat.succ_ne_self _), ⟨⟨_, he'⟩, hit⟩, fun b hb => ?_, hR⟩
    rcases List.mem_cons.mp hb with z | z
    · rw [z]; exact I1.fpOk (Nat.le_succ _) (I1.hok.fresh (Nat.le_succ _))
    · rw [List.mem_singleton.mp z]; exact I1.fpOk (Nat.le_refl _) (I1.hok.fresh (Nat.le_refl _))
end
theorem forE {K : PySem.W.Frag} {a : Addr} {g : TG} {tb : TS} {D : Ends} {σ : St} {H : Hp} (ns : List Int) (Pv : Nat → St → Hp → Prop) (h0 : Pv 0 σ H) (hl : ∀ i σ H, Pv i σ H → SqL K H a (ns.map V.int))
    (hs : ∀ i (x : Int) σ H t H', ns[i]? = some x → Pv i σ H → Same H H' → H' t = some (.tup [.int (i : Int), .int x]) → g (.ref t) σ H' fun σ2 H2 => tb { D with nx := Pv (i + 1), ct := Pv (i + 1), bk := D.nx } σ2 H2) (hd : ∀ σ H, Pv ns.length σ H → D.nx σ H) :
    ForIt (Ite K a) g tb D σ H := by
  refine ⟨fun i m σ H => m = ns.length - i ∧ i ≤ ns.length ∧ Pv i σ H, ⟨ns.length, by simp, Nat.zero_le _, h0⟩, ?_⟩
  rintro i m σ H ⟨rfl, hi, p⟩
  have q := hl i σ H p
  by_cases hlt : i < ns.length
  · have hx : ns[i]? = some ns[i] := List.getElem?_eq_getElem hlt
    have hx' : (ns.map V.int)[i]? = some (.int ns[i]) := by rw [List.getElem?_map, hx]; rfl
    refine .inr ⟨⟨_, _, q, hx'⟩, Pv (i + 1), fun σ' H' p' => ⟨ns.length - (i + 1), by ((try clear hi hx hx'); omega), rfl, hlt, p'⟩, fun x H' y => ?_⟩
    obtain ⟨y, t, hy, ht, rfl, rfl⟩ := y
    have hy := hy _ q
    rw [hx'] at hy
    cases hy
    exact hs i _ σ H t _ hx p (same_new ht _) upd_same
  · have e : i = ns.length := by omega
    subst e
    exact .inl ⟨⟨_, q, by simp⟩, hd σ H p⟩
section
variable {X : Cx} {e lo hi st : Expr} {te : TE} {tl th tk : TO} {pos p2 : Pos}
noncomputable def tSlK (K : PySem.W.Frag) (te : TE) (tl th tk : TO) : TE := fun σ H Q => te σ H fun x H1 => tl σ H1 fun l H2 => th σ H2 fun u H3 => tk σ H3 fun k H4 =>
  ∃ (a : Addr) (ns : List Int), x = .ref a ∧ k ≠ some 0 ∧ SqL K H4 a (ns.map V.int) ∧ ∀ ms : List Int, ms.length ≤ ns.length → (∀ m, m ∈ ms → m ∈ ns) → ∀ p, H4 p = none → Q (.ref p) (upd H4 p (.lst (ms.map V.int)))
theorem vals_of_ints : ∀ {vs : List Value} {ns : List Int}, IntsAre vs ns → Vals (ns.map V.int) vs
  | _, _, .nil => .nil
  | _, _, .cons n t r => .cons ⟨t, rfl⟩ (vals_of_ints r)
end
section
variable {X : Cx}
noncomputable def rGetL (K : PySem.W.Frag) : R2 := fun x y H Q => ∃ p xs i v, x = .ref p ∧ y = .int i ∧ 0 ≤ i ∧ SqL K H p xs ∧ xs[i.toNat]? = some v ∧ Q v H
theorem get_list : PGet X (rGetL X.K) := by
  intro pins s σ H o i ov iv Q I ro ri h
  obtain ⟨p, xs, k, v, rfl, rfl, h0, hq, hv, q⟩ := h
  cases ro
  obtain ⟨t, rfl⟩ := ri
  obtain ⟨its, r, pl, hz⟩ := I.list hq
  obtain ⟨u, eu, ru⟩ := r.get hv
  have hn := line63
  have hl := (List.getElem?_eq_some_iff.mp hv).1
  exact wpAny_getItem_list pl.isList h0 (by ((try clear eu h0 hv); omega)) (x := u) (by simpa using eu) ⟨v, H, I, ru, q⟩
theorem ix_listK {K : PySem.W.Frag} (hK : X.K = K) : IxR X (rIxL K) := by subst hK; exact ix_list
theorem vals_bls : ∀ {bs : List Bool} {us : List Value}, Vals (bs.map V.bl) us → us = bs.map Value.bool
  | [], _, .nil => rfl
  | b :: bs, _, .cons r t => by
    have r' : _ = Value.bool b := r
    rw [r', vals_bls t]
    rfl
theorem bt_all : bootBuiltins "all" = some (.builtin "all") := by decide +kernel
theorem call_allB (hc : X.calm = true) : CallR X (.builtin "all") (fun xs H Q => ∃ (p : Addr) (bs : List Bool), xs = [.ref p] ∧ SqL X.K H p (bs.map V.bl) ∧ Q (.bl (bs.all id)) H) := by
  intro pins s σ H xs us Q I r h
  obtain ⟨p, bs, rfl, hq, q⟩ := h
  obtain ⟨u, rfl, rx⟩ := vals1 r
  cases rx
  obtain ⟨its, rv, pl, hz⟩ := I.list hq
  have ei : its = bs.map Value.bool := vals_bls rv
  obtain ⟨o, ho, _⟩ := id pl.isList
  have hne : p ≠ s.heap.objs.size := Nat.ne_of_lt (Heap.lt_size ho)
  refine call_all_walk (wpAny_pyIter_list pl.isList ?_)
  refine ⟨s.heap.objs.size, _, _, _, _, _, fun i => bs.getD i false, rfl, Walks.list (A := X.A.in1) (I.ok.hd hc) s.heap.objs.size p hne its.toArray, ⟨⟨_, Heap.get?_push_size _ rfl, rfl, rfl⟩, pl.isList.at fun o e => Heap.get?_push_of_some _ e⟩, ?_, ?_⟩
  · intro i v s' Q' E' hP hQ
    have hv : its[i]? = some v := by simpa using hP
    rw [ei, List.getElem?_map] at hv
    cases z : bs[i]? with
    | none => rw [z] at hv; cases hv
    | some b =>
      rw [z] at hv
      cases hv
      refine wpAny_truthy_bool ?_
      have : bs.getD i false = b := by rw [List.getD_eq_getElem?_getD, z]; rfl
      rw [← this]
      exact hQ
  · intro h' tk hk
    have f := I.fpOk (H' := H) (Nat.le_refl _) (I.hok.fresh (Nat.le_refl _))
    obtain ⟨f0, f1, f2, f3, f4, f5⟩ := f
    have I2 : Inv X pins σ H { s with heap := h', toks := tk } := I.turned (t' := tk) (it := s.heap.objs.size) (fun b o hb e => hk b o (by simpa using hb) (Heap.get?_push_of_some _ e)) f0 f1 f3 f4 f5
    have ea : (List.range its.toArray.size).all (fun i => bs.getD i false) = bs.all id := by
      rw [ei, List.size_toArray, List.length_map]
      have e1 : bs = (List.range bs.length).map (fun i => bs.getD i false) := by
        refine List.ext_getElem (by simp) fun j h1 h2 => ?_
        rw [List.getElem_map, List.getElem_range, List.getD_eq_getElem?_getD, List.getElem?_eq_getElem h1]
        rfl
      conv => rhs; rw [e1]
      rw [List.all_map]
      rfl
    exact ⟨.bl (bs.all id), H, I2, by rw [ea]; rfl, q⟩
theorem cut_init {α : Type} (f : α → V) (xs : List α) : cutV (xs.map f) none (some (-1)) = xs.dropLast.map f := by
  have e : HT.sIx (xs.map f).length (xs.map f).length (some (-1)) = xs.length - 1 := by
    rw [List.length_map]
    simp only [HT.sIx]
    split <;> omega
  unfold cutV
  rw [HT.sIx_none, e, List.drop_zero, Nat.sub_zero, List.dropLast_eq_take, List.map_take]
end
section
variable {X : Cx} {a b : Expr} {ta : TA} {p p2 pos pos2 : Pos}
noncomputable def nums (i : Int) (n : Nat) : List Int := (List.range n).map fun k : Nat => i + (k : Int)
noncomputable def tListRng (ta : TA) : TE := fun σ H Q => ta σ H fun vs H1 => ∃ i j : Int, vs = [.int i, .int j] ∧ (-1000000 ≤ i ∧ i < 1000000 ∧ -1000000 ≤ j ∧ j < 1000000) ∧ ∀ l, H1 l = none → Q (.ref l) (upd H1 l (.lst ((nums i (j - i).toNat).map V.int)))
end
end L2
namespace L2
open PySem PySem.Spec PyProof.Rows
namespace So
open PySem.W
section
variable {n : Nat} {key : Nat → Int} {cmp : Nat → Nat → (Bool → Shared → Prop) → Shared → Prop} {s : Shared}
noncomputable def Own (n : Nat) (p : Array Nat) : Prop := p.toList.Perm (List.range n)
noncomputable def Kp (key : Nat → Int) (p : Array Nat) (i : Nat) : Int := key (p.getD i 0)
noncomputable def Inc (key : Nat → Int) (p : Array Nat) (k : Nat) : Prop := ∀ i j, i < j → j < k → Kp key p i < Kp key p j
noncomputable def Dec (key : Nat → Int) (p : Array Nat) (k : Nat) : Prop := ∀ i j, i < j → j < k → Kp key p j < Kp key p i
end
end So
end L2
namespace L2
open PySem PySem.Spec PyProof.Rows
noncomputable def prevSp (sp : Nat → Sp) : Nat → Sp
  | 0 => fun _ _ _ _ => False
  | n + 1 => sp n
section
variable {P : Program} {w : World} {K : PySem.W.Frag} {mg : Str → Option Value} {base : Heap} {x qual : Str} {st : Stmt} {f : Addr} {fd : FuncData} {ps : List Str} {sp : Nat → Sp}
theorem rec_go {CX : CXT} (L : Nat) (step : ∀ n, FnOk P w K mg base CX (L + n) f fd ps (prevSp sp n) → FnOk P w K mg base CX (L + n + 1) f fd ps (sp n)) : ∀ n, FnOk P w K mg base CX (L + n + 1) f fd ps (sp n)
  | 0 => step 0 ⟨fun _ _ _ _ h => h.elim, fun _ _ _ _ _ _ _ _ _ _ _ _ _ h => h.elim⟩
  | n + 1 => step (n + 1) (rec_go L step n)
theorem recE_mk (F : Fun K x qual st f fd) (b : Binds K fd ps []) (m : mg x = some (.ref f)) (L : Nat) (step : ∀ n, DefE P w K mg base x (L + n) ps (prevSp sp n) → FnOk P w K mg base (CXE P w) (L + n + 1) f fd ps (sp n)) (n : Nat) : DefE P w K mg base x (L + n + 1) ps (sp n) :=
  defE_mk F (rec_go L (fun n ok => step n (defE_mk F ok b m)) n) b m
end
section
variable {X : Cx}
theorem bt_sorted : bootBuiltins "sorted" = some (.builtin "sorted") := by decide +kernel
theorem call_sortedI (_ : X.calm = true) : CallR X (.builtin "sorted") (fun xs H Q => ∃ (p : Addr) (ns : List Int), xs = [.ref p] ∧ SqL X.K H p (ns.map V.int) ∧ ns.length < 64 ∧ ∀ ms : List Int, ms.Perm ns → ms.Pairwise (· ≤ ·) → ∀ l, H l = none → Q (.ref l) (upd H l (.lst (ms.map V.int)))) := by
  intro pins s σ H xs us Q I r h
  obtain ⟨p, ns, rfl, hq, h64, q⟩ := h
  obtain ⟨u, rfl, rx⟩ := vals1 r
  cases rx
  obtain ⟨its, rv, pl, hz⟩ := I.list hq
  have hi := intsAre_of rv
  have hl := hi.length
  refine sorted_ints pl.isList hi (by ((try clear hz); omega)) fun out ms h1 h2 h3 => ?_
  obtain ⟨e, he⟩ := sortedAll_at s.heap its out
  refine ⟨.ref (s.heap.objs.size + 1), _, I.laid (t' := s.toks) (o := .lst (ms.map V.int)) (fun b u e => sortedAll_old e) (Nat.le_succ _) ?_, rfl, q ms h2 h3 _ (I.hok.fresh (Nat.le_succ _))⟩
  have hz' : ms.length ≤ sizeLine := by
    rw [h2.length_eq]
    rw [List.length_map] at hz
    exact hz
  exact ⟨by rw [List.length_map]; exact hz', out.toList, e, vals_of_ints h1, by rw [he]⟩
end
namespace So
open PySem.W
section
variable {pr : Program} {wo : World} {Ar : Around} {Er : Value → Shared → Prop} {st : Shared}
end
end So
section
variable {X : Cx}
noncomputable def PairsAt (H : Hp) (as : List Addr) (bs : List (Int × Nat)) : Prop := as.length = bs.length ∧ ∀ (i : Nat) (a : Addr) (b : Int × Nat), as[i]? = some a → bs[i]? = some b → H a = some (.tup [.int b.1, .int (b.2 : Int)])
noncomputable def pairOb (h : Heap) (a : Addr) (b : Int × Nat) : Prop := ∃ (o : Obj) (k : Nat) (t1 t2 : Tok), h.get? a = some o ∧ o.cls = .type "tuple" ∧ o.data = .seq #[.int b.1 t1, .int (b.2 : Int) t2] k
end
end L2
namespace L2
open PySem PySem.Spec PyProof.Rows
noncomputable def tComp2 (caps : List Nat) (wi : TI) (g : TG) (tt : TT) (te : TE) : TE := fun σ H Q => wi σ H fun J H1 => ∃ (n : Nat) (W : Nat → List V → Hp → Prop), n ≤ sizeLine ∧ W 0 [] H1 ∧ ∀ i ys H2, W i ys H2 →
  (J.stop i H2 ∧ ∀ p, H2 p = none → Q (.ref p) (upd H2 p (.lst ys))) ∨
  (J.go i H2 ∧ i < n ∧ ∀ x H3, J.yld i H2 x H3 → ∀ o1 o2 : Option V, g x (o1 :: o2 :: capV caps σ) H3 fun σ4 H4 => (∃ v1 v2 : V, σ4 = some v1 :: some v2 :: capV caps σ) ∧ tt σ4 H4 fun b H5 => if b = true then te σ4 H5 fun v H6 => W (i + 1) (ys ++ [v]) H6 else W (i + 1) ys H5)
section
variable {X : Cx} {scope : Scope} {cl : List (Str × Addr)} {caps : List Nat} {xs : List Str} {C : Addr} {s : Shared} {H : Hp} {fp : List Addr} {pins : List (Addr × Obj)} {σ : St}
end
section
variable {X : Cx}
end
end L2
namespace L2
open PySem PySem.Spec PyProof.Rows
noncomputable def PairsI (H : Hp) (as : List Addr) (fs : List (Int × Int)) : Prop := as.length = fs.length ∧ ∀ (i : Nat) (a : Addr) (b : Int × Int), as[i]? = some a → fs[i]? = some b → H a = some (.tup [.int b.1, .int b.2])
noncomputable def natP (b : Int × Nat) : Int × Int := (b.1, (b.2 : Int))
noncomputable def pairD (b : Int × Int) : PyData := .tuple [.int b.1, .int b.2]
section
variable {K : PySem.W.Frag} {H : Hp} {l m : Addr} {as cs : List Addr} {fs gs : List (Int × Int)} {Q : VK}
end
noncomputable def CompIt2 (J : It) (caps : List Nat) (g : TG) (tt : TT) (te : TE) (σ : St) (H : Hp) (Q : VK) : Prop := ∃ (n : Nat) (W : Nat → List V → Hp → Prop), n ≤ sizeLine ∧ W 0 [] H ∧ ∀ i ys H2, W i ys H2 →
  (J.stop i H2 ∧ ∀ p, H2 p = none → Q (.ref p) (upd H2 p (.lst ys))) ∨
  (J.go i H2 ∧ i < n ∧ ∀ x H3, J.yld i H2 x H3 → ∀ o1 o2 : Option V, g x (o1 :: o2 :: capV caps σ) H3 fun σ4 H4 => (∃ v1 v2 : V, σ4 = some v1 :: some v2 :: capV caps σ) ∧ tt σ4 H4 fun b H5 => if b = true then te σ4 H5 fun v H6 => W (i + 1) (ys ++ [v]) H6 else W (i + 1) ys H5)
end L2
namespace L2
open PySem PySem.Spec PyProof.Rows
section
variable {X : Cx} {body suite suite2 : List Stmt} {b₀ b₁ : Stmt} {D D2 : Addr} {cx cx2 : Str} {np np2 hpos hpos2 pos : Pos} {tb : (St → XK) → TS} {ts ts2 : TS}
noncomputable def tTry2 (K : PySem.W.Frag) (D D2 : Addr) (tb : (St → XK) → TS) (ts ts2 : TS) : TS := fun En σ H => tb (fun σ1 C _ H1 => (PySem.W.exmOne K C (.ref D) = some true ∧ ts En σ1 H1) ∨ (PySem.W.exmOne K C (.ref D) = some false ∧ PySem.W.exmOne K C (.ref D2) = some true ∧ ts2 En σ1 H1)) En σ H
end
section
variable {X : Cx}
end
end L2
namespace K46
open PySem L2
set_option maxHeartbeats 1000000
section
noncomputable def top (i : Nat) : Stmt := PySem.Challenge.pw_deeprests_k46_refused_roots.main.body.getD i (.Pass ⟨0, 0, 0, 0⟩)
noncomputable abbrev s_depth_of : Stmt := top 15
theorem S_depth_of : FnScope ["p", "x", "depth", "left"] ["p", "x"] (defScope s_depth_of) := ⟨rfl, rfl, rfl, by decide +kernel, rfl, by decide +kernel, by decide +kernel⟩
noncomputable abbrev s_power_of : Stmt := top 16
theorem S_power_of : FnScope ["p", "e", "power", "turn"] ["p", "e"] (defScope s_power_of) := ⟨rfl, rfl, rfl, by decide +kernel, rfl, by decide +kernel, by decide +kernel⟩
noncomputable abbrev s_inverse_by_prime : Stmt := top 17
theorem S_inverse_by_prime : FnScope ["p", "x", "fitting"] ["p", "x"] (defScope s_inverse_by_prime) := ⟨rfl, rfl, rfl, by decide +kernel, rfl, by decide +kernel, by decide +kernel⟩
noncomputable abbrev s_inverse_of : Stmt := top 18
theorem S_inverse_of : FnScope ["p", "e", "x", "power", "y", "reached"] ["p", "e", "x"] (defScope s_inverse_of) := ⟨rfl, rfl, rfl, by decide +kernel, rfl, by decide +kernel, by decide +kernel⟩
noncomputable abbrev s_worth_at : Stmt := top 21
theorem S_worth_at : FnScope ["f", "x", "worth", "number"] ["f", "x"] (defScope s_worth_at) := ⟨rfl, rfl, rfl, by decide +kernel, rfl, by decide +kernel, by decide +kernel⟩
noncomputable abbrev s_degree_of : Stmt := top 22
theorem S_degree_of : FnScope ["f", "degree", "place", "number"] ["f"] (defScope s_degree_of) := ⟨rfl, rfl, rfl, by decide +kernel, rfl, by decide +kernel, by decide +kernel⟩
noncomputable abbrev s_poly_product : Stmt := top 23
theorem S_poly_product : FnScope ["f", "g", "product", "place", "number", "other_place", "other_number"] ["f", "g"] (defScope s_poly_product) := ⟨rfl, rfl, rfl, by decide +kernel, rfl, by decide +kernel, by decide +kernel⟩
noncomputable abbrev s_slope_of : Stmt := top 24
theorem S_slope_of : FnScope ["f"] ["f"] (defScope s_slope_of) := ⟨rfl, rfl, rfl, by decide +kernel, rfl, by decide +kernel, by decide +kernel⟩
noncomputable abbrev s_seen_from : Stmt := top 25
theorem S_seen_from : FnScope ["p", "f", "a", "e", "place_seen", "seen", "number"] ["p", "f", "a", "e"] (defScope s_seen_from) := ⟨rfl, rfl, rfl, by decide +kernel, rfl, by decide +kernel, by decide +kernel⟩
noncomputable abbrev s_content_of : Stmt := top 26
theorem S_content_of : FnScope ["p", "f", "content", "left"] ["p", "f"] (defScope s_content_of) := ⟨rfl, rfl, rfl, by decide +kernel, rfl, by decide +kernel, by decide +kernel⟩
noncomputable abbrev s_without_content : Stmt := top 27
theorem S_without_content : FnScope ["p", "f", "power"] ["p", "f"] (defScope s_without_content) := ⟨rfl, rfl, rfl, by decide +kernel, rfl, by decide +kernel, by decide +kernel⟩
noncomputable abbrev s_rests_by_prime : Stmt := top 28
theorem S_rests_by_prime : FnScope ["p", "f", "small"] ["p", "f"] (defScope s_rests_by_prime) := ⟨rfl, rfl, rfl, by decide +kernel, rfl, by decide +kernel, by decide +kernel⟩
noncomputable abbrev s_single_depth : Stmt := top 30
theorem S_single_depth : FnScope ["p", "f", "a", "rise", "d"] ["p", "f", "a"] (defScope s_single_depth) := ⟨rfl, rfl, rfl, by decide +kernel, rfl, by decide +kernel, by decide +kernel⟩
noncomputable abbrev s_root_of : Stmt := top 31
theorem S_root_of : FnScope ["p", "f", "a", "N", "d"] ["p", "f", "a", "N"] (defScope s_root_of) := ⟨rfl, rfl, rfl, by decide +kernel, rfl, by decide +kernel, by decide +kernel⟩
noncomputable abbrev s_deepened : Stmt := top 32
theorem S_deepened : FnScope ["p", "f", "a", "d", "N", "power", "worth_power", "root", "inverse", "turn", "t"] ["p", "f", "a", "d", "N"] (defScope s_deepened) := ⟨rfl, rfl, rfl, by decide +kernel, rfl, by decide +kernel, by decide +kernel⟩
noncomputable abbrev s_roots_within : Stmt := top 33
theorem S_roots_within : FnScope ["p", "a", "e", "seen", "N", "freed", "slope", "power", "roots", "r", "root"] ["p", "a", "e", "seen", "N"] (defScope s_roots_within) := ⟨rfl, rfl, rfl, by decide +kernel, rfl, by decide +kernel, by decide +kernel⟩
noncomputable abbrev s_endless_roots : Stmt := top 34
theorem S_endless_roots : FnScope ["p", "f", "N"] ["p", "f", "N"] (defScope s_endless_roots) := ⟨rfl, rfl, rfl, by decide +kernel, rfl, by decide +kernel, by decide +kernel⟩
noncomputable abbrev s__law_cell_at : Stmt := top 36
theorem S__law_cell_at : FnScope ["script", "k"] ["script", "k"] (defScope s__law_cell_at) := ⟨rfl, rfl, rfl, by decide +kernel, rfl, by decide +kernel, by decide +kernel⟩
noncomputable abbrev s__law_prime : Stmt := top 37
theorem S__law_prime : FnScope ["cell", "primes"] ["cell"] (defScope s__law_prime) := ⟨rfl, rfl, rfl, by decide +kernel, rfl, by decide +kernel, by decide +kernel⟩
noncomputable abbrev s__law_times : Stmt := top 38
theorem S__law_times : FnScope ["f", "g", "found", "k", "j"] ["f", "g"] (defScope s__law_times) := ⟨rfl, rfl, rfl, by decide +kernel, rfl, by decide +kernel, by decide +kernel⟩
noncomputable abbrev s__law_power : Stmt := top 39
theorem S__law_power : FnScope ["p", "e", "found", "k"] ["p", "e"] (defScope s__law_power) := ⟨rfl, rfl, rfl, by decide +kernel, rfl, by decide +kernel, by decide +kernel⟩
noncomputable abbrev s__law_twice : Stmt := top 40
theorem S__law_twice : FnScope ["p", "t", "cell"] ["p", "t", "cell"] (defScope s__law_twice) := ⟨rfl, rfl, rfl, by decide +kernel, rfl, by decide +kernel, by decide +kernel⟩
noncomputable abbrev s__law_kinds : Stmt := top 41
theorem S__law_kinds : FnScope ["p", "f", "N", "kinds", "e"] ["p", "f", "N"] (defScope s__law_kinds) := ⟨rfl, rfl, rfl, by decide +kernel, rfl, by decide +kernel, by decide +kernel⟩
noncomputable abbrev s_law : Stmt := top 42
theorem S_law : FnScope ["script", "p", "k", "cell", "N", "u", "t", "f", "noughts", "one", "other", "power", "beside", "near"] ["script"] (defScope s_law) := ⟨rfl, rfl, rfl, by decide +kernel, rfl, by decide +kernel, by decide +kernel⟩
structure Bi (mg : Str → Option Value) (K : PySem.W.Frag) : Prop where
  b_ValueError : mg "ValueError" = none
  b_all : mg "all" = none
  b_enumerate : mg "enumerate" = none
  b_int : mg "int" = none
  b_isinstance : mg "isinstance" = none
  b_len : mg "len" = none
  b_list : mg "list" = none
  b_max : mg "max" = none
  b_min : mg "min" = none
  b_range : mg "range" = none
  b_reversed : mg "reversed" = none
  b_sorted : mg "sorted" = none
  g_GREATEST_DEPTH : ∃ t, mg "GREATEST_DEPTH" = some (.int 60 t)
  c_NoBall : mg "NoBall" = some (.ref (clK K "NoBall"))
  c_NoDepth : mg "NoDepth" = some (.ref (clK K "NoDepth"))
  c_NoInverse : mg "NoInverse" = some (.ref (clK K "NoInverse"))
  c_NoName : mg "NoName" = some (.ref (clK K "NoName"))
  c_NoParts : mg "NoParts" = some (.ref (clK K "NoParts"))
  c_NoPrime : mg "NoPrime" = some (.ref (clK K "NoPrime"))
  c_NoRow : mg "NoRow" = some (.ref (clK K "NoRow"))
  c_NoSingle : mg "NoSingle" = some (.ref (clK K "NoSingle"))
  c_NoSmall : mg "NoSmall" = some (.ref (clK K "NoSmall"))
  c_NoText : mg "NoText" = some (.ref (clK K "NoText"))
  c_RestError : mg "RestError" = some (.ref (clK K "RestError"))
  c_TooDeep : mg "TooDeep" = some (.ref (clK K "TooDeep"))
  c_TooGreat : mg "TooGreat" = some (.ref (clK K "TooGreat"))
  x_NoDepth : ExcK K (clK K "NoDepth")
  x_NoSingle : ExcK K (clK K "NoSingle")
  x_TooDeep : ExcK K (clK K "TooDeep")
  m_NoDepth_RestError : PySem.W.exmOne K (.ref (clK K "NoDepth")) (.ref (clK K "RestError")) = some true
  m_TooDeep_RestError : PySem.W.exmOne K (.ref (clK K "TooDeep")) (.ref (clK K "RestError")) = some true
  f_NoDepth : Xc.ExcC K (clK K "NoDepth")
  f_TooDeep : Xc.ExcC K (clK K "TooDeep")
  i_NoDepth_NoBall : PySem.W.kitOne K (.ref (clK K "NoDepth")) (.ref (clK K "NoBall")) = some false
  i_NoDepth_NoDepth : PySem.W.kitOne K (.ref (clK K "NoDepth")) (.ref (clK K "NoDepth")) = some true
  i_NoDepth_NoInverse : PySem.W.kitOne K (.ref (clK K "NoDepth")) (.ref (clK K "NoInverse")) = some false
  i_NoDepth_NoName : PySem.W.kitOne K (.ref (clK K "NoDepth")) (.ref (clK K "NoName")) = some false
  i_NoDepth_NoParts : PySem.W.kitOne K (.ref (clK K "NoDepth")) (.ref (clK K "NoParts")) = some false
  i_NoDepth_NoPrime : PySem.W.kitOne K (.ref (clK K "NoDepth")) (.ref (clK K "NoPrime")) = some false
  i_NoDepth_NoRow : PySem.W.kitOne K (.ref (clK K "NoDepth")) (.ref (clK K "NoRow")) = some false
  i_NoDepth_NoSingle : PySem.W.kitOne K (.ref (clK K "NoDepth")) (.ref (clK K "NoSingle")) = some false
  i_NoDepth_NoSmall : PySem.W.kitOne K (.ref (clK K "NoDepth")) (.ref (clK K "NoSmall")) = some false
  i_NoDepth_NoText : PySem.W.kitOne K (.ref (clK K "NoDepth")) (.ref (clK K "NoText")) = some false
  i_NoDepth_RestError : PySem.W.kitOne K (.ref (clK K "NoDepth")) (.ref (clK K "RestError")) = some true
  i_NoDepth_TooDeep : PySem.W.kitOne K (.ref (clK K "NoDepth")) (.ref (clK K "TooDeep")) = some false
  i_NoDepth_TooGreat : PySem.W.kitOne K (.ref (clK K "NoDepth")) (.ref (clK K "TooGreat")) = some false
  i_NoDepth_ValueError : PySem.W.kitOne K (.ref (clK K "NoDepth")) (.type "ValueError") = some true
  i_TooDeep_NoBall : PySem.W.kitOne K (.ref (clK K "TooDeep")) (.ref (clK K "NoBall")) = some false
  i_TooDeep_NoDepth : PySem.W.kitOne K (.ref (clK K "TooDeep")) (.ref (clK K "NoDepth")) = some false
  i_TooDeep_NoInverse : PySem.W.kitOne K (.ref (clK K "TooDeep")) (.ref (clK K "NoInverse")) = some false
  i_TooDeep_NoName : PySem.W.kitOne K (.ref (clK K "TooDeep")) (.ref (clK K "NoName")) = some false
  i_TooDeep_NoParts : PySem.W.kitOne K (.ref (clK K "TooDeep")) (.ref (clK K "NoParts")) = some false
  i_TooDeep_NoPrime : PySem.W.kitOne K (.ref (clK K "TooDeep")) (.ref (clK K "NoPrime")) = some false
  i_TooDeep_NoRow : PySem.W.kitOne K (.ref (clK K "TooDeep")) (.ref (clK K "NoRow")) = some false
  i_TooDeep_NoSingle : PySem.W.kitOne K (.ref (clK K "TooDeep")) (.ref (clK K "NoSingle")) = some false
  i_TooDeep_NoSmall : PySem.W.kitOne K (.ref (clK K "TooDeep")) (.ref (clK K "NoSmall")) = some false
  i_TooDeep_NoText : PySem.W.kitOne K (.ref (clK K "TooDeep")) (.ref (clK K "NoText")) = some false
  i_TooDeep_RestError : PySem.W.kitOne K (.ref (clK K "TooDeep")) (.ref (clK K "RestError")) = some true
  i_TooDeep_TooDeep : PySem.W.kitOne K (.ref (clK K "TooDeep")) (.ref (clK K "TooDeep")) = some true
  i_TooDeep_TooGreat : PySem.W.kitOne K (.ref (clK K "TooDeep")) (.ref (clK K "TooGreat")) = some false
  i_TooDeep_ValueError : PySem.W.kitOne K (.ref (clK K "TooDeep")) (.type "ValueError") = some true
variable {P : Program} {w : World} {K : PySem.W.Frag} {mg : Str → Option Value} {base : Heap} {f : Addr} {fd : FuncData}
theorem log_small {p : Int} (h : 2 ≤ p ∧ p < 1000) : CDivW 0 p := ⟨by omega, by
  have h1 : p.natAbs < 1000 := by omega
  have h2 : p.natAbs.log2 < 10 := (Nat.log2_lt (by ((try clear h1); omega))).mpr (Nat.lt_trans h1 (by decide))
  ((try clear h h1); omega)⟩
theorem atI_ints {ns : List Int} {i : Int} (h0 : 0 ≤ i) (h1 : i < (ns.length : Int)) : atI (ns.map V.int) i = some (.int (ns.getD i.toNat 0)) := by
  have hk : i.toNat < ns.length := by omega
  have ek : i = ((i.toNat : Nat) : Int) := by ((try clear h1 hk); omega)
  have g : atI (ns.map V.int) ((i.toNat : Nat) : Int) = some (.int (ns.getD i.toNat 0)) := atI_nat (by rw [List.getElem?_map, List.getElem?_eq_getElem hk, List.getD_eq_getElem?_getD, List.getElem?_eq_getElem hk]; rfl)
  rw [← ek] at g
  exact g
theorem getD_in {ns : List Int} {i : Int} (h0 : 0 ≤ i) (h1 : i < (ns.length : Int)) : ns.getD i.toNat 0 ∈ ns := by
  rw [List.getD_eq_getElem?_getD, List.getElem?_eq_getElem (by omega)]
  exact List.getElem_mem _
theorem mod_in (x : Int) {m : Int} (h : 0 < m) : 0 ≤ x % m ∧ x % m < m := ⟨Int.emod_nonneg x (by omega), Int.emod_lt_of_pos x h⟩
noncomputable def Sh (n : Int) : Prop := Builtin.Int.intBits n ≤ 2 ^ 20 + 64
theorem sh_div {n m : Int} (h : Sh n) (hm : 0 < m) : Sh (n / m) := by
  unfold Sh at *
  have : n / m = n.fdiv m := (Int.fdiv_eq_ediv_of_nonneg n (by ((try clear h); omega))).symm
  rw [this]
  exact PyProof.Rows.bits_fdiv h
theorem pow_bits {p : Int} (hp : 2 ≤ p ∧ p < 1000) (n : Nat) : (p ^ n).natAbs < 2 ^ (10 * n + 1) := by
  have h1 : p ^ n ≤ 1024 ^ n := int_pow_le (by omega) (by omega) _
  have h2 : (1024 : Int) ^ n = ((2 ^ (10 * n) : Nat) : Int) := by
    rw [Nat.pow_mul]
    simp
  have h3 := Dr.pow_pos hp.1 n
  rw [Nat.pow_succ]
  ((try clear hp); omega)
theorem us0 {us : List Value} (h : us.length = 0) : us = [] := List.eq_nil_of_length_eq_zero h
theorem us1 {us : List Value} (h : us.length = 1) : ∃ a0, us = [a0] := List.length_eq_one_iff.mp h
theorem us2 : ∀ {us : List Value}, us.length = 2 → ∃ a0 a1, us = [a0, a1]
  | [], h => (by cases h)
  | a0 :: r, h => by
    obtain ⟨a1, rfl⟩ := us1 (us := r) (by simpa using h)
    exact ⟨a0, a1, rfl⟩
theorem us3 : ∀ {us : List Value}, us.length = 3 → ∃ a0 a1 a2, us = [a0, a1, a2]
  | [], h => (by cases h)
  | a0 :: r, h => by
    obtain ⟨a1, a2, rfl⟩ := us2 (us := r) (by simpa using h)
    exact ⟨a0, a1, a2, rfl⟩
theorem us4 : ∀ {us : List Value}, us.length = 4 → ∃ a0 a1 a2 a3, us = [a0, a1, a2, a3]
  | [], h => (by cases h)
  | a0 :: r, h => by
    obtain ⟨a1, a2, a3, rfl⟩ := us3 (us := r) (by simpa using h)
    exact ⟨a0, a1, a2, a3, rfl⟩
theorem us5 : ∀ {us : List Value}, us.length = 5 → ∃ a0 a1 a2 a3 a4, us = [a0, a1, a2, a3, a4]
  | [], h => (by cases h)
  | a0 :: r, h => by
    obtain ⟨a1, a2, a3, a4, rfl⟩ := us4 (us := r) (by simpa using h)
    exact ⟨a0, a1, a2, a3, a4, rfl⟩
theorem us6 : ∀ {us : List Value}, us.length = 6 → ∃ a0 a1 a2 a3 a4 a5, us = [a0, a1, a2, a3, a4, a5]
  | [], h => (by cases h)
  | a0 :: r, h => by
    obtain ⟨a1, a2, a3, a4, a5, rfl⟩ := us5 (us := r) (by simpa using h)
    exact ⟨a0, a1, a2, a3, a4, a5, rfl⟩
theorem us7 : ∀ {us : List Value}, us.length = 7 → ∃ a0 a1 a2 a3 a4 a5 a6, us = [a0, a1, a2, a3, a4, a5, a6]
  | [], h => (by cases h)
  | a0 :: r, h => by
    obtain ⟨a1, a2, a3, a4, a5, a6, rfl⟩ := us6 (us := r) (by simpa using h)
    exact ⟨a0, a1, a2, a3, a4, a5, a6, rfl⟩
theorem mulSm {a b : Int} {m n : Nat} (ha : Dr.Sm a m) (hb : Dr.Sm b n) (h : m + n ≤ 134217728) : IntMulOk a b := PyProof.Rows.mulOk_of_bits (PyProof.Rows.intBits_le ha) (PyProof.Rows.intBits_le hb) h
theorem sm_of {a : Int} {k : Nat} (B : Int) (h : -B ≤ a ∧ a ≤ B) (hB : B.natAbs < 2 ^ k) : Dr.Sm a k := by
  unfold Dr.Sm
  omega
theorem rep_zero (n : Nat) : (List.replicate n [V.int 0]).flatten = (List.replicate n (0 : Int)).map V.int := by
  induction n with
  | zero => rfl
  | succ n ih => simp [List.replicate_succ, ih]
theorem ixN_nn {n : Nat} {k : Int} (h0 : 0 ≤ k) (h1 : k < (n : Int)) : ixN n k = some k.toNat := by
  unfold ixN
  simp only [h0, if_true, if_pos]
  rw [if_pos (by ((try clear h0); omega))]
theorem get_int {fs : List Int} {k : Int} (h0 : 0 ≤ k) (h1 : k < (fs.length : Int)) : ∃ v, fs[k.toNat]? = some v ∧ atI (fs.map V.int) k = some (.int v) ∧ ixN (fs.map V.int).length k = some k.toNat ∧ (fs.map V.int)[k.toNat]? = some (.int v) := by
  have hk : k.toNat < fs.length := by omega
  have e : fs[k.toNat]? = some fs[k.toNat] := List.getElem?_eq_getElem hk
  refine ⟨fs[k.toNat], e, ?_, ixN_nn h0 (by rw [List.length_map]; exact h1), by rw [List.getElem?_map, e]; rfl⟩
  rw [atI_ints h0 h1, List.getD_eq_getElem?_getD, e]
  rfl
theorem set_int (fs : List Int) (k : Nat) (v : Int) : (fs.map V.int).set k (.int v) = (fs.set k v).map V.int := by rw [List.map_set]
theorem mem_set {fs : List Int} {k : Nat} {v c : Int} (h : c ∈ fs.set k v) : c ∈ fs ∨ c = v := List.mem_or_eq_of_mem_set h
theorem steps {i T : Nat} {v n : Int} (h : v.natAbs ≤ i * T) (h' : n.natAbs ≤ T) : (v + n).natAbs ≤ (i + 1) * T := by
  rw [Nat.succ_mul]
  omega
theorem atI_back {xs : List Int} {d : Int} (h : xs.getLast? = some d) : atI (xs.map V.int) (-1) = some (.int d) := by
  cases xs with
  | nil => simp at h
  | cons x ms =>
    have hh : ms.length < (x :: ms).length := by simp
    have e : (x :: ms)[ms.length]? = some d := by
      rw [List.getLast?_eq_getElem?] at h
      simpa using h
    unfold atI ixN
    have e1 : ¬ (0 : Int) ≤ -1 := by decide
    have e2 : -(((x :: ms).map V.int).length : Int) ≤ -1 := by
      simp only [List.length_map, List.length_cons]
      ((try clear e e1 h hh); omega)
    have e3 : (-1 + (((x :: ms).map V.int).length : Int)).toNat = ms.length := by
      simp only [List.length_map, List.length_cons]
      ((try clear e e1 e2 h hh); omega)
    rw [if_neg e1, if_pos e2, e3]
    show ((x :: ms).map V.int)[ms.length]? = _
    rw [List.getElem?_map, e]
    rfl
noncomputable def sp_worth_at (K : PySem.W.Frag) : Sp := fun vs H Q _ => ∃ (a : Addr) (f : List Int) (x : Int) (m n : Nat), vs = [.ref a, .int x] ∧ SqL K H a (f.map V.int) ∧ f.length ≤ 100 ∧ Dr.PolyB f m ∧ Dr.Sm x n ∧ (m ≤ 1000000 ∧ n ≤ 100000) ∧ Q (.int (Dr.pev f x)) H
local macro_rules | `(tactic| walk_at "dr1") => `(tactic| first | (dsimp only [tNext, tRet, tRetN, tDrop, tIfS, tIf, tTest, tB, tAnd, tOr, tNot, tAndV, tOrV, tNotV, tAsg, gName, gTup, gLst, gCons, gNil, tPar, tAug, tVar, tC, tOp, tUn, rI, rI0, rU, rEq, rNe, rAdd, rSub, ipI, tCons, tNil, tTup, tLst, tCall, tCB, tSl, tNoPart, tPart, gSub, tAugS, rGetL, iEnum, tSlK, tListRng, rExtend, rClear, rSlL, rSlT, rIxL, rIxT, rSetL, rIn, tBM, tBM0, rAppend, rCat, rRep, tNever, tRaise, tTry, tTryAs, tCallX, tChain, capV, iRng1, iRng2, iRng3, iList, iTup, iRev, tListRev]; try simp only [tNext, tRet, tRetN, tDrop, tIfS, tIf, tTest, tB, tAnd, tOr, tNot, tAndV, tOrV, tNotV, tAsg, gName, gTup, gLst, gCons, gNil, tPar, tAug, tVar, tC, tOp, tUn, rI, rI0, rU, rEq, rNe, rAdd, rSub, ipI, tCons, tNil, tTup, tLst, tCall, tCB, tSl, tNoPart, tPart, gSub, tAugS, rGetL, iEnum, tSlK, tListRng, rExtend, rClear, rSlL, rSlT, rIxL, rIxT, rSetL, rIn, tBM, tBM0, rAppend, rCat, rRep, tNever, tRaise, tTry, tTryAs, Ends.gone, tCallX, cx_K, cc_K, w_tyl, Int.reduceLT, Int.reduceLE, Nat.reduceLT, Nat.reduceLeDiff, tChain, w_for, w_comp, capV, Option.getD_some, iRng1, iRng2, iRng3, iList, iTup, iRev, tListRev, L2.start, sc_ii, sc_bb, sc_in, sc_ni, sc_ss, sc_nn, sc_bn, sc_is, isv_int_int, isv_int_bool, isv_int_str, isv_int_list, isv_int_tuple, isv_int_dict, isv_bool_int, isv_bool_bool, isv_bool_str, isv_bool_list, isv_bool_tuple, isv_bool_dict, isv_NoneType_int, isv_NoneType_bool, isv_NoneType_str, isv_NoneType_list, isv_NoneType_tuple, isv_NoneType_dict, isv_str_int, isv_str_bool, isv_str_str, isv_str_list, isv_str_tuple, isv_str_dict, iso_list_int, iso_list_bool, iso_list_str, iso_list_list, iso_list_tuple, iso_list_dict, iso_tuple_int, iso_tuple_bool, iso_tuple_str, iso_tuple_list, iso_tuple_tuple, iso_tuple_dict, iso_dict_int, iso_dict_bool, iso_dict_str, iso_dict_list, iso_dict_tuple, iso_dict_dict, isCls, clsV, List.getElem?_cons_zero, List.getElem?_cons_succ, List.set_cons_zero, List.set_cons_succ, List.map_cons, List.map_nil, List.cons_append, List.nil_append, List.append_nil, List.replicate_succ, List.replicate_zero, List.length_cons, List.length_nil, Option.some.injEq, exists_eq, exists_eq', exists_eq_left, exists_eq_left', exists_and_left, exists_and_right, List.cons.injEq, V.int.injEq, V.bl.injEq, V.ref.injEq, V.str.injEq, V.ty.injEq, reduceCtorEq, and_true, true_and, and_assoc, false_and, and_false, or_false, false_or, exists_false, decide_eq_true_eq, Bool.not_eq_true', decide_eq_false_iff_not, Bool.not_eq_false', Bool.not_eq_true, Bool.false_eq_true, Bool.true_eq_false, ite_true, ite_false, if_true, if_false, Bool.not_true, Bool.not_false, Bool.true_eq, Bool.or_true, Bool.or_false, Bool.true_or, Bool.false_or, Bool.and_true, Bool.and_false, beq_self_eq_true, decide_true, decide_false, eq_self_iff_true, not_true_eq_false, not_false_eq_true]) | simp only [tNext, tRet, tRetN, tDrop, tIfS, tIf, tTest, tB, tAnd, tOr, tNot, tAndV, tOrV, tNotV, tAsg, gName, gTup, gLst, gCons, gNil, tPar, tAug, tVar, tC, tOp, tUn, rI, rI0, rU, rEq, rNe, rAdd, rSub, ipI, tCons, tNil, tTup, tLst, tCall, tCB, tSl, tNoPart, tPart, gSub, tAugS, rGetL, iEnum, tSlK, tListRng, rExtend, rClear, rSlL, rSlT, rIxL, rIxT, rSetL, rIn, tBM, tBM0, rAppend, rCat, rRep, tNever, tRaise, tTry, tTryAs, Ends.gone, tCallX, cx_K, cc_K, w_tyl, Int.reduceLT, Int.reduceLE, Nat.reduceLT, Nat.reduceLeDiff, tChain, w_for, w_comp, capV, Option.getD_some, iRng1, iRng2, iRng3, iList, iTup, iRev, tListRev, L2.start, sc_ii, sc_bb, sc_in, sc_ni, sc_ss, sc_nn, sc_bn, sc_is, isv_int_int, isv_int_bool, isv_int_str, isv_int_list, isv_int_tuple, isv_int_dict, isv_bool_int, isv_bool_bool, isv_bool_str, isv_bool_list, isv_bool_tuple, isv_bool_dict, isv_NoneType_int, isv_NoneType_bool, isv_NoneType_str, isv_NoneType_list, isv_NoneType_tuple, isv_NoneType_dict, isv_str_int, isv_str_bool, isv_str_str, isv_str_list, isv_str_tuple, isv_str_dict, iso_list_int, iso_list_bool, iso_list_str, iso_list_list, iso_list_tuple, iso_list_dict, iso_tuple_int, iso_tuple_bool, iso_tuple_str, iso_tuple_list, iso_tuple_tuple, iso_tuple_dict, iso_dict_int, iso_dict_bool, iso_dict_str, iso_dict_list, iso_dict_tuple, iso_dict_dict, isCls, clsV, List.getElem?_cons_zero, List.getElem?_cons_succ, List.set_cons_zero, List.set_cons_succ, List.map_cons, List.map_nil, List.cons_append, List.nil_append, List.append_nil, List.replicate_succ, List.replicate_zero, List.length_cons, List.length_nil, Option.some.injEq, exists_eq, exists_eq', exists_eq_left, exists_eq_left', exists_and_left, exists_and_right, List.cons.injEq, V.int.injEq, V.bl.injEq, V.ref.injEq, V.str.injEq, V.ty.injEq, reduceCtorEq, and_true, true_and, and_assoc, false_and, and_false, or_false, false_or, exists_false, decide_eq_true_eq, Bool.not_eq_true', decide_eq_false_iff_not, Bool.not_eq_false', Bool.not_eq_true, Bool.false_eq_true, Bool.true_eq_false, ite_true, ite_false, if_true, if_false, Bool.not_true, Bool.not_false, Bool.true_eq, Bool.or_true, Bool.or_false, Bool.true_or, Bool.false_or, Bool.and_true, Bool.and_false, beq_self_eq_true, decide_true, decide_false, eq_self_iff_true, not_true_eq_false, not_false_eq_true])
theorem ok_worth_at (B : Bi mg K) (F : Fun K "worth_at" "worth_at" s_worth_at f fd) : FnOk P w K mg base CX0 1 f fd ["f", "x"] (sp_worth_at K) := by
  refine F.ok S_worth_at (fun vs H Q E h => ?_) (fun cdv A outer s H vs Q E hr h => ?_)
  · obtain ⟨a, f, x, m, n, rfl, _⟩ := h
    rfl
  obtain ⟨a, f, x, m, n, rfl, hS, hl, hf, hx, hmn, q⟩ := h
  have S := S_worth_at
  refine ⟨_, ((pss_cons (ps_set (i := 2) S.nd rfl (Or.inl rfl) pe_int)
    (pss_cons (ps_for PassesOwn.never rfl (pi_rev rfl B.b_reversed (pv 0)) (pg_name (i := 3) S.nd rfl (Or.inl rfl)) (pss_one (ps_set (i := 2) S.nd rfl (Or.inl rfl) (pe_op op_add (pe_op op_mulW (pv 2) (pv 1)) (pv 3)))))
    (pss_one (ps_ret (pv 2)))))), ?_⟩
  try (repeat (first | dsimp only [tSeq] | walk_at "dr1"))
  refine ⟨_, hS, ?_⟩
  obtain ⟨Pv, hPv⟩ : ∃ Pv : Nat → St → Hp → Prop, ∀ i σ H2, Pv i σ H2 ↔ (H2 = H ∧ ∃ t, σ = [some (.ref a), some (.int x), some (.int (Dr.pev (f.drop (f.length - i)) x)), t]) := ⟨_, fun _ _ _ => Iff.rfl⟩
  refine forV f Pv (by rw [List.length_map]) ((hPv _ _ _).mpr ⟨rfl, none, by simp [Dr.pev]⟩) (fun i σ H2 z => by obtain ⟨rfl, _⟩ := (hPv _ _ _).mp z; exact hS) ?_ ?_
  · intro i c σ H2 hc z
    obtain ⟨rfl, t, rfl⟩ := (hPv _ _ _).mp z
    try (repeat (first | dsimp only [tSeq] | walk_at "dr1"))
    have b := (hx.pev (hf.drop (f.length - i))).mono (l := 1000000 + 100 * 100001) (by
      have h1 : (f.drop (f.length - i)).length ≤ 100 := by rw [List.length_drop]; ((try clear hc hmn); omega)
      have h2 : (f.drop (f.length - i)).length * (n + 1) ≤ 100 * 100001 := Nat.mul_le_mul h1 (by ((try clear h1 hc hl); omega))
      ((try clear h1 hc hl); omega))
    refine ⟨mulSm b hx (by ((try clear hc hl); omega)), (hPv _ _ _).mpr ⟨rfl, some (.int c), ?_⟩⟩
    rw [Dr.pev_rev hc]
  · intro σ H2 z
    obtain ⟨rfl, t, rfl⟩ := (hPv _ _ _).mp z
    try (repeat (first | dsimp only [tSeq] | walk_at "dr1"))
    rw [Nat.sub_self, List.drop_zero]
    exact q
noncomputable def sp_power_of (_ : PySem.W.Frag) : Sp := fun vs H Q _ => ∃ (p e : Int), vs = [.int p, .int e] ∧ (2 ≤ p ∧ p < 1000) ∧ (0 ≤ e ∧ e < 100000) ∧ Q (.int (p ^ e.toNat)) H
theorem ok_power_of (B : Bi mg K) (F : Fun K "power_of" "power_of" s_power_of f fd) : FnOk P w K mg base CX0 1 f fd ["p", "e"] (sp_power_of K) := by
  refine F.ok S_power_of (fun vs H Q E h => ?_) (fun cdv A outer s H vs Q E hr h => ?_)
  · obtain ⟨p, e, rfl, _⟩ := h
    rfl
  obtain ⟨p, e, rfl, hp, he, q⟩ := h
  have S := S_power_of
  refine ⟨_, ((pss_cons (ps_set (i := 2) S.nd rfl (Or.inl rfl) pe_int)
    (pss_cons (ps_for PassesOwn.never rfl (pi_range1 rfl B.b_range (pa_cons (pv 1) pa_nil)) (pg_name (i := 3) S.nd rfl (Or.inl rfl)) (pss_one (ps_set (i := 2) S.nd rfl (Or.inl rfl) (pe_op op_mulW (pv 2) (pv 0)))))
    (pss_one (ps_ret (pv 2)))))), ?_⟩
  refine ⟨_, rfl, e, rfl, by ((try clear hp); omega), by ((try clear hp); omega), ?_⟩
  refine for_range (n := e.toNat) (fun i σ H' => H' = H ∧ ∃ t, σ = [some (.int p), some (.int e), some (.int (p ^ i)), t]) ⟨rfl, none, by rw [Int.pow_zero]; rfl⟩ ?_ ?_
  · rintro i σ H' hi ⟨rfl, t, rfl⟩
    refine ⟨_, rfl, _, rfl, _, _, rfl, rfl, IntMulOk.of_right (intBits_le_64 (by ((try clear he hi); omega)) (by ((try clear he hi); omega))), rfl, some (.int (0 + (i : Int))), ?_⟩
    rw [Int.pow_succ]
    rfl
  · rintro σ H' ⟨rfl, t, rfl⟩
    exact ⟨_, rfl, q⟩
noncomputable def sp_depth_of (_ : PySem.W.Frag) : Sp := fun vs H Q _ => ∃ (p x : Int), vs = [.int p, .int x] ∧ (2 ≤ p ∧ p < 1000) ∧ x ≠ 0 ∧ ∀ (d : Nat) (u : Int), Dr.Fac p x d u → Q (.int (d : Int)) H
noncomputable def W_depth_of (p x : Int) (H : Hp) (m : Nat) (σ : St) (H' : Hp) : Prop := H' = H ∧ ∃ (l : Int) (d : Nat), σ = [some (.int p), some (.int x), some (.int (d : Int)), some (.int l)] ∧ x = l * p ^ d ∧ l ≠ 0 ∧ m = l.natAbs
theorem turn_depth {p x l : Int} {d : Nat} (hp : 2 ≤ p) (e : x = l * p ^ d) (l0 : l ≠ 0) (c : l % p = 0) : x = l / p * p ^ (d + 1) ∧ l / p ≠ 0 ∧ (l / p).natAbs < l.natAbs := by
  have e1 : l = p * (l / p) := by have := Int.mul_ediv_add_emod l p; ((try clear e hp l0); omega)
  have n0 : l / p ≠ 0 := fun z => by rw [z] at e1; simp at e1; exact l0 e1
  refine ⟨?_, n0, ?_⟩
  · rw [Int.pow_succ, e]
    calc l * p ^ d = p * (l / p) * p ^ d := by rw [← e1]
      _ = l / p * (p ^ d * p) := by rw [Int.mul_comm p, Int.mul_assoc, Int.mul_comm p]
  · have e2 : l.natAbs = p.natAbs * (l / p).natAbs := by rw [← Int.natAbs_mul, ← e1]
    have l1 : 2 * (l / p).natAbs ≤ p.natAbs * (l / p).natAbs := Nat.mul_le_mul_right _ (by ((try clear c e e1 e2 l0 n0); omega))
    ((try clear c e hp l0); omega)
theorem ok_depth_of (B : Bi mg K) (F : Fun K "depth_of" "depth_of" s_depth_of f fd) : FnOk P w K mg base CX0 1 f fd ["p", "x"] (sp_depth_of K) := by
  refine F.ok S_depth_of (fun vs H Q E h => ?_) (fun cdv A outer s H vs Q E hr h => ?_)
  · obtain ⟨p, x, rfl, _⟩ := h
    rfl
  obtain ⟨p, x, rfl, hp, hx, q⟩ := h
  have S := S_depth_of
  refine ⟨_, ((pss_cons (ps_if (pt_cmpR op_eq (pv 1) pe_int (nomark _)) (pss_one ps_never) pss_nil)
    (pss_cons (ps_set (i := 2) S.nd rfl (Or.inl rfl) pe_int)
    (pss_cons (ps_set (i := 3) S.nd rfl (Or.inl rfl) (pv 1))
    (pss_cons (ps_while PassesOwn.never (pt_cmpR op_eq (pe_op op_mod (pv 3) (pv 0)) pe_int (nomark _)) (pss_cons (ps_set (i := 3) S.nd rfl (Or.inl rfl) (pe_op op_fdivW (pv 3) (pv 0)))
    (pss_one (ps_aug (i := 2) S.nd rfl (Or.inl rfl) pe_int ip_add))))
    (pss_one (ps_ret (pv 2)))))))), ?_⟩
  refine ⟨_, rfl, rfl, _, rfl, ?_⟩
  refine ite2 (fun c => absurd (V.int.inj (of_decide_eq_true c)) hx) (fun _ => ?_)
  refine ⟨_, rfl, ?_⟩
  refine ⟨W_depth_of p x H, ⟨_, rfl, x, 0, rfl, by simp, hx, rfl⟩, ?_⟩
  rintro m σ H' ⟨rfl, l, d, rfl, e, l0, rfl⟩
  refine ⟨_, rfl, _, rfl, _, _, rfl, rfl, (show (0 : Int) < p by ((try clear e hx l0); omega)), rfl, _, rfl, ?_⟩
  refine ite2 (fun c => ?_) (fun c => ?_)
  · have c' : l % p = 0 := V.int.inj (of_decide_eq_true c)
    obtain ⟨t1, t2, t3⟩ := turn_depth hp.1 e l0 c'
    refine ⟨fun σ' H2 => ∃ m', m' < l.natAbs ∧ W_depth_of p x H' m' σ' H2, fun _ _ h => h, ?_⟩
    refine ⟨_, rfl, _, rfl, _, _, rfl, rfl, log_small hp, ?_⟩
    exact ⟨_, rfl, _, _, rfl, rfl, _, t3, rfl, l / p, d + 1, rfl, t1, t2, rfl⟩
  · have c' : l % p ≠ 0 := fun z => c (decide_eq_true (congrArg V.int z))
    exact ⟨_, rfl, q d l ⟨e, c'⟩⟩
noncomputable def sp_inverse_by_prime (_ : PySem.W.Frag) : Sp := fun vs H Q _ => ∃ (p x : Int), vs = [.int p, .int x] ∧ p ∈ Dr.primes ∧ x % p ≠ 0 ∧ ∀ (y : Int) (H' : Hp), 1 ≤ y ∧ y < p → x * y % p = 1 → Same H H' → Q (.int y) H'
theorem ok_inverse_by_prime (B : Bi mg K) (F : Fun K "inverse_by_prime" "inverse_by_prime" s_inverse_by_prime f fd) : FnOk P w K mg base CX0 1 f fd ["p", "x"] (sp_inverse_by_prime K) := by
  refine F.ok S_inverse_by_prime (fun vs H Q E h => ?_) (fun cdv A outer s H vs Q E hr h => ?_)
  · obtain ⟨p, x, rfl, _⟩ := h
    rfl
  obtain ⟨p, x, rfl, hp, hx, q⟩ := h
  have S := S_inverse_by_prime
  have p2 := Dr.primes_ge hp
  have hpp : 2 ≤ p ∧ p < 1000 := by ((try clear hx); omega)
  refine ⟨_, ((pss_cons (ps_comp [0, 1] ["p", "x"] rfl S.nd (k := 2) rfl rfl rfl rfl ⟨rfl, rfl, trivial⟩ ⟨rfl, rfl, rfl, rfl, rfl, rfl, rfl, rfl, trivial⟩ rfl rfl (by decide) (by decide) rfl rfl (by decide) (pi_range2 rfl B.b_range (pa_cons pe_int (pa_cons (pv 0) pa_nil))) (fun _ _ _ _ => (pts_one (pt_cmpR op_eq (pe_op op_mod (pe_op op_mulW (pv 2) (pv 0)) (pv 1)) pe_int (nomark _)))) (fun _ _ _ _ => (pv 0)))
    (pss_one (ps_ret (pe_ix ix_list (pv 2) pe_int (fun _ _ => rfl)))))), ?_⟩
  try (repeat (first | dsimp only [tSeq] | walk_at "dr1"))
  repeat (refine And.intro (by first | ((try clear hx); omega) | exact ⟨by decide, by decide⟩ | decide | assumption | exact log_small (by assumption) | exact Dr.pow_pos (by omega) _ | exact IntMulOk.of_left (by decide) | exact cell_sh (by assumption) (by omega) | exact sh_div (by assumption) (by decide) | exact sh_div (cell_sh (by assumption) (by omega)) (by decide)) ?_)
  obtain ⟨Pv, hPv⟩ : ∃ Pv : Nat → List V → Hp → Prop, ∀ i ys H', Pv i ys H' ↔ (H' = H ∧ ∃ zs : List Int, ys = zs.map V.int ∧ (∀ z, z ∈ zs → (1 ≤ z ∧ z < p) ∧ x * z % p = 1) ∧ (∀ y : Int, 1 ≤ y → y < 1 + i → x * y % p = 1 → zs ≠ [])) := ⟨_, fun _ _ _ => Iff.rfl⟩
  refine compR Pv (by unfold sizeLine; ((try clear hpp hx); omega)) ((hPv _ _ _).mpr ⟨rfl, [], rfl, by simp, fun y h1 h2 => by ((try clear hpp hx p2); omega)⟩) ?_ ?_
  · intro i ys H' hi zz
    obtain ⟨rfl, zs, rfl, h1, h2⟩ := (hPv _ _ _).mp zz
    try (repeat (first | dsimp only [tSeq] | walk_at "dr1"))
    refine ⟨IntMulOk.of_right (intBits_le_64 (by ((try clear hi hpp hx p2); omega)) (by ((try clear hpp hx); omega))), by ((try clear hi hpp hx); omega), ite2 (fun c => ?_) (fun c => ?_)⟩
    · refine (hPv _ _ _).mpr ⟨rfl, zs ++ [1 + (i : Int)], by simp, fun z hz => ?_, fun y _ _ _ => by simp⟩
      rcases List.mem_append.mp hz with w | w
      · exact h1 z w
      · rw [List.mem_singleton.mp w]
        exact ⟨by ((try clear c hpp hx); omega), c⟩
    · refine (hPv _ _ _).mpr ⟨rfl, zs, rfl, h1, fun y y1 y2 y3 => ?_⟩
      by_cases w : y = 1 + (i : Int)
      · rw [w] at y3
        exact absurd y3 c
      · exact h2 y y1 (by ((try clear c hi hpp hx p2 y1 y3); omega)) y3
  · intro ys H' zz
    obtain ⟨rfl, zs, rfl, h1, h2⟩ := (hPv _ _ _).mp zz
    intro l n_l; generalize e_l : upd _ l _ = H1; obtain ⟨g1, k1⟩ := newH e_l n_l; clear e_l
    obtain ⟨y, y1, y2, y3⟩ := Dr.inv_ex hp hx
    have hne := h2 y y1 (by ((try clear hpp hx k1 n_l y1 y3); omega)) y3
    cases zs with
    | nil => exact absurd rfl hne
    | cons z zs =>
      try (repeat (first | dsimp only [tSeq] | walk_at "dr1"))
      refine ⟨_, SqL.of k1, _, atI_nat (j := 0) rfl, ?_⟩
      obtain ⟨a1, a2⟩ := h1 z (List.mem_cons_self ..)
      exact q z H1 a1 a2 g1
theorem bits_below {p : Int} (hp : 2 ≤ p ∧ p < 1000) {x : Int} (n : Nat) (h0 : 0 ≤ x) (h : x < p ^ n) : Builtin.Int.intBits x ≤ 10 * n + 1 := PyProof.Rows.intBits_le (by
  have := pow_bits hp n
  have := Dr.pow_pos hp.1 n
  ((try clear hp); omega))
noncomputable def sp_inverse_of (_ : PySem.W.Frag) : Sp := fun vs H Q _ => ∃ (p e x : Int), vs = [.int p, .int e, .int x] ∧ p ∈ Dr.primes ∧ (0 ≤ e ∧ e < 1000) ∧ Builtin.Int.intBits x ≤ 2 ^ 22 ∧ (e = 0 ∨ x % p ≠ 0) ∧ ∀ (y : Int) (H' : Hp), Dr.InvE p x y e.toNat → Same H H' → Q (.int y) H'
theorem ok_inverse_of (B : Bi mg K) (d_power_of : Def P w K mg base "power_of" 1 ["p", "e"] (sp_power_of K)) (d_inverse_by_prime : Def P w K mg base "inverse_by_prime" 1 ["p", "x"] (sp_inverse_by_prime K)) (F : Fun K "inverse_of" "inverse_of" s_inverse_of f fd) : FnOk P w K mg base CX0 2 f fd ["p", "e", "x"] (sp_inverse_of K) := by
  refine F.ok S_inverse_of (fun vs H Q E h => ?_) (fun cdv A outer s H vs Q E hr h => ?_)
  · obtain ⟨p, e, x, rfl, _⟩ := h
    rfl
  obtain ⟨p, e, x, rfl, hp, he, hb, hx, q⟩ := h
  have S := S_inverse_of
  have p2 := Dr.primes_ge hp
  have hpp : 2 ≤ p ∧ p < 1000 := by ((try clear hb he hx); omega)
  refine ⟨_, ((pss_cons (ps_if (pt_cmpR op_eq (pv 1) pe_int (nomark _)) (pss_one (ps_ret pe_int)) pss_nil)
    (pss_cons (ps_if (pt_cmpR op_eq (pe_op op_mod (pv 2) (pv 0)) pe_int (nomark _)) (pss_one ps_never) pss_nil)
    (pss_cons (ps_set (i := 3) S.nd rfl (Or.inl rfl) (pe_def d_power_of hr rfl (pa_cons (pv 0) (pa_cons (pv 1) pa_nil))))
    (pss_cons (ps_set (i := 4) S.nd rfl (Or.inl rfl) (pe_def d_inverse_by_prime hr rfl (pa_cons (pv 0) (pa_cons (pv 2) pa_nil))))
    (pss_cons (ps_set (i := 5) S.nd rfl (Or.inl rfl) pe_int)
    (pss_cons (ps_while PassesOwn.never (pt_cmpR op_lt (pv 5) (pv 1) (nomark _)) (pss_cons (ps_set (i := 4) S.nd rfl (Or.inl rfl) (pe_op op_mod (pe_op op_mulW (pv 4) (pe_op op_sub pe_int (pe_op op_mulW (pv 2) (pv 4)))) (pv 3)))
    (pss_one (ps_set (i := 5) S.nd rfl (Or.inl rfl) (pe_op op_mulW (pv 5) pe_int)))))
    (pss_one (ps_ret (pv 4)))))))))), ?_⟩
  try (repeat (first | dsimp only [tSeq] | walk_at "dr1")); (try simp only [sp_power_of, sp_inverse_by_prime]); try (repeat (first | dsimp only [tSeq] | walk_at "dr1"))
  refine ite2 (fun c => ?_) (fun c => ?_)
  · refine q 0 H ?_ (Same.refl H)
    rw [c]
    exact Dr.InvE.zero p x
  have hx' : x % p ≠ 0 := by
    rcases hx with z | z
    · exact absurd z c
    · exact z
  refine ⟨by ((try clear c hb he hpp hx hx'); omega), ite2 (fun d => absurd d hx') (fun d => ?_)⟩
  repeat (refine And.intro (by first | ((try clear c hb hpp hx hx'); omega) | exact ⟨by decide, by decide⟩ | decide | assumption | exact log_small (by assumption) | exact Dr.pow_pos (by omega) _ | exact IntMulOk.of_left (by decide) | exact cell_sh (by assumption) (by omega) | exact sh_div (by assumption) (by decide) | exact sh_div (cell_sh (by assumption) (by omega)) (by decide)) ?_)
  intro y H1 y1 y2 g1
  have e1 : 1 ≤ e.toNat := by ((try clear hb hpp hx p2 y1 y2); omega)
  have hpe : p ≤ p ^ e.toNat := by
    have : p ^ 1 ≤ p ^ e.toNat := by
      obtain ⟨k, hk⟩ : ∃ k, e.toNat = 1 + k := ⟨e.toNat - 1, by ((try clear c d hb he hpp hx hx' p2 y1 y2); omega)⟩
      rw [hk, Dr.pow_add']
      have := Dr.pow_pos hpp.1 k
      have h2 : 0 < p ^ 1 := Dr.pow_pos hpp.1 1
      have := Int.mul_le_mul_of_nonneg_left (show 1 ≤ p ^ k by ((try clear c d e1 h2 hb he hk hpp hx hx' p2 y1 y2); omega)) (show 0 ≤ p ^ 1 by ((try clear c d e1 hb he hk hpp hx hx' p2 this y1 y2); omega))
      ((try clear c d e1 h2 hb he hk hpp hx hx' p2 y1 y2); omega)
    rwa [Int.pow_succ, Int.pow_zero, Int.one_mul] at this
  obtain ⟨W, hW⟩ : ∃ W : Nat → St → Hp → Prop, ∀ m σ H2, W m σ H2 ↔ (H2 = H1 ∧ ∃ (y : Int) (r : Nat), σ = [some (.int p), some (.int e), some (.int x), some (.int (p ^ e.toNat)), some (.int y), some (.int (r : Int))] ∧ 1 ≤ r ∧ 0 ≤ y ∧ y < p ^ e.toNat ∧ (x * y - 1) % p ^ (min r e.toNat) = 0 ∧ m = e.toNat - r) := ⟨_, fun _ _ _ => Iff.rfl⟩
  refine whB W (e.toNat - 1) ((hW _ _ _).mpr ⟨rfl, y, 1, rfl, by ((try clear c d e1 hb he hpe hpp hx hx' p2 y1 y2); omega), by ((try clear c d e1 hb he hpe hpp hx hx' p2 y2); omega), by ((try clear c d e1 hb he hpp hx hx' p2 y2); omega), ?_, rfl⟩) ?_
  · rw [Nat.min_eq_left e1, Int.pow_succ, Int.pow_zero, Int.one_mul]
    rw [Int.sub_emod, y2]
    simp
  · intro m σ H2 z
    obtain ⟨rfl, y, r, rfl, r1, z1, z2, z3, rfl⟩ := (hW _ _ _).mp z
    try (repeat (first | dsimp only [tSeq] | walk_at "dr1")); (try simp only [sp_power_of, sp_inverse_by_prime]); try (repeat (first | dsimp only [tSeq] | walk_at "dr1"))
    refine ite2 (fun c => ?_) (fun c => ?_)
    · refine ⟨_, fun _ _ h => h, ?_⟩
      have by' : Builtin.Int.intBits y ≤ 10 * e.toNat + 1 := bits_below hpp _ z1 z2
      have b1 : IntMulOk x y := PyProof.Rows.mulOk_of_bits hb by' (by ((try clear by' d e1 hb hpe hpp hx hx' p2 y1 y2 z1 z2 z3); omega))
      have b2 : Builtin.Int.intBits (x * y) ≤ 2 ^ 22 + (10 * e.toNat + 1) := PySem.intBits_mul_le hb by'
      have b3 : Builtin.Int.intBits (2 - x * y) ≤ 2 ^ 22 + (10 * e.toNat + 1) + 1 := Nat.le_trans (PySem.intBits_sub_le (m := 2 ^ 22 + (10 * e.toNat + 1)) (Nat.le_trans (show Builtin.Int.intBits 2 ≤ 64 by decide) (by ((try clear b2 by' c d hb he hpe hpp hx hx' p2 r1 y1 y2 z1 z2 z3); omega))) b2) (by ((try clear b2 by' c d e1 hb he hpe hpp hx hx' p2 r1 y1 y2 z1 z2 z3); omega))
      have b4 : IntMulOk y (2 - x * y) := PyProof.Rows.mulOk_of_bits by' b3 (by ((try clear b2 b3 by' d e1 hb hpe hpp hx hx' p2 y1 y2 z1 z2 z3); omega))
      have hpos := Dr.pow_pos hpp.1 e.toNat
      refine ⟨b1, b4, hpos, IntMulOk.of_right (by decide), e.toNat - r * 2, by ((try clear b2 b3 by' d hb hpe hpos hpp hx hx' p2 y1 y2 z1 z2 z3); omega), (hW _ _ _).mpr ⟨rfl, y * (2 - x * y) % p ^ e.toNat, r * 2, by simp, by ((try clear b2 b3 by' c d e1 hb he hpe hpos hpp hx hx' p2 y1 y2 z1 z2 z3); omega), Int.emod_nonneg _ (by ((try clear b2 b3 by' c d e1 hb he hpe hpp hx hx' p2 r1 y1 y2 z1 z2 z3); omega)), Int.emod_lt_of_pos _ hpos, Dr.inv_step z3, rfl⟩⟩
    · have hr : min r e.toNat = e.toNat := by ((try clear d hb he hpe hpp hx hx' p2 r1 y1 y2 z1 z2 z3); omega)
      rw [hr] at z3
      exact q y H2 ⟨z1, z2, z3⟩ g1
noncomputable def sp_degree_of (K : PySem.W.Frag) : Sp := fun vs H Q _ => ∃ (a : Addr) (f : List Int), vs = [.ref a] ∧ SqL K H a (f.map V.int) ∧ ∀ (d : Int) (H' : Hp), Dr.IsDeg f d → Same H H' → Q (.int d) H'
theorem ok_degree_of (B : Bi mg K) (F : Fun K "degree_of" "degree_of" s_degree_of f fd) : FnOk P w K mg base CX0 1 f fd ["f"] (sp_degree_of K) := by
  refine F.ok S_degree_of (fun vs H Q E h => ?_) (fun cdv A outer s H vs Q E hr h => ?_)
  · obtain ⟨a, f, rfl, _⟩ := h
    rfl
  obtain ⟨a, f, rfl, hS, q⟩ := h
  have S := S_degree_of
  refine ⟨_, ((pss_cons (ps_set (i := 1) S.nd rfl (Or.inl rfl) (pe_un un_neg pe_int))
    (pss_cons (ps_for PassesOwn.never rfl (pi_enum rfl B.b_enumerate (pv 0)) (pg_tup rfl (pgs_cons (pg_name (i := 2) S.nd rfl (Or.inl rfl)) (pgs_cons (pg_name (i := 3) S.nd rfl (Or.inl rfl)) pgs_nil))) (pss_one (ps_if (pt_cmpR op_ne (pv 3) pe_int (nomark _)) (pss_one (ps_set (i := 1) S.nd rfl (Or.inl rfl) (pv 2))) pss_nil)))
    (pss_one (ps_ret (pv 1)))))), ?_⟩
  try (repeat (first | dsimp only [tSeq] | walk_at "dr1"))
  refine ⟨⟨_, hS⟩, ?_⟩
  obtain ⟨Pv, hPv⟩ : ∃ Pv : Nat → St → Hp → Prop, ∀ i σ H2, Pv i σ H2 ↔ (Same H H2 ∧ ∃ (d : Int) (t2 t3 : Option V), Dr.IsDeg (f.take i) d ∧ σ = [some (.ref a), some (.int d), t2, t3]) := ⟨_, fun _ _ _ => Iff.rfl⟩
  refine forE f Pv ((hPv _ _ _).mpr ⟨Same.refl _, -1, none, none, by simpa using Dr.IsDeg.nil, rfl⟩) (fun i σ H2 z => by obtain ⟨g, _⟩ := (hPv _ _ _).mp z; exact g.seq hS) ?_ ?_
  · intro i c σ H2 t H3 hc z g3 ht
    obtain ⟨g2, d, t2, t3, hd, rfl⟩ := (hPv _ _ _).mp z
    try (repeat (first | dsimp only [tSeq] | walk_at "dr1"))
    refine ⟨_, SqT.of ht, rfl, _, _, rfl, ?_⟩
    refine ⟨_, _, rfl, rfl, rfl, ?_⟩
    simp only [V.int.injEq]
    have g := g2.trans g3
    have hd' := hd.take_succ hc
    refine ite2 (fun c0 => ?_) (fun c0 => ?_)
    · rw [if_pos c0] at hd'
      exact (hPv _ _ _).mpr ⟨g, _, _, _, hd', rfl⟩
    · rw [if_neg c0] at hd'
      exact (hPv _ _ _).mpr ⟨g, _, _, _, hd', rfl⟩
  · intro σ H2 z
    obtain ⟨g2, d, t2, t3, hd, rfl⟩ := (hPv _ _ _).mp z
    try (repeat (first | dsimp only [tSeq] | walk_at "dr1"))
    rw [List.take_length] at hd
    exact q d H2 hd g2
noncomputable def sp_poly_product (K : PySem.W.Frag) : Sp := fun vs H Q _ => ∃ (a b : Addr) (f g : List Int) (m n : Nat), vs = [.ref a, .ref b] ∧ SqL K H a (f.map V.int) ∧ SqL K H b (g.map V.int) ∧ (0 < f.length ∧ f.length ≤ 60 ∧ 0 < g.length ∧ g.length ≤ 60) ∧ Dr.PolyB f m ∧ Dr.PolyB g n ∧ (m ≤ 1000000 ∧ n ≤ 1000000) ∧
  ∀ (c : Addr) (r : List Int) (H' : Hp), Dr.IsProd f g r → Dr.PolyB r (m + n + 12) → H c = none → Same H H' → H' c = some (.lst (r.map V.int)) → Q (.ref c) H'
theorem ok_poly_product (B : Bi mg K) (F : Fun K "poly_product" "poly_product" s_poly_product f fd) : FnOk P w K mg base CX0 1 f fd ["f", "g"] (sp_poly_product K) := by
  refine F.ok S_poly_product (fun vs H Q E h => ?_) (fun cdv A outer s H vs Q E hr h => ?_)
  · obtain ⟨a, b, f, g, m, n, rfl, _⟩ := h
    rfl
  obtain ⟨a, b, f, g, m, n, rfl, hS, hS', hl, hf, hg, hmn, q⟩ := h
  have S := S_poly_product
  refine ⟨_, ((pss_cons (ps_set (i := 2) S.nd rfl (Or.inl rfl) (pe_op op_rep (pe_lst (pa_cons pe_int pa_nil)) (pe_op op_sub (pe_op op_add (pe_callB call_len_seq rfl B.b_len PySem.boot_len (pa_cons (pv 0) pa_nil)) (pe_callB call_len_seq rfl B.b_len PySem.boot_len (pa_cons (pv 1) pa_nil))) pe_int)))
    (pss_cons (ps_for PassesOwn.never rfl (pi_enum rfl B.b_enumerate (pv 0)) (pg_tup rfl (pgs_cons (pg_name (i := 3) S.nd rfl (Or.inl rfl)) (pgs_cons (pg_name (i := 4) S.nd rfl (Or.inl rfl)) pgs_nil))) (pss_one (ps_for PassesOwn.never rfl (pi_enum rfl B.b_enumerate (pv 1)) (pg_tup rfl (pgs_cons (pg_name (i := 5) S.nd rfl (Or.inl rfl)) (pgs_cons (pg_name (i := 6) S.nd rfl (Or.inl rfl)) pgs_nil))) (pss_one (ps_augS (pv 2) (pe_op op_add (pv 3) (pv 5)) get_list (pe_op op_mulW (pv 4) (pv 6)) ip_add set_list)))))
    (pss_one (ps_ret (pv 2)))))), ?_⟩
  try (repeat (first | dsimp only [tSeq] | walk_at "dr1"))
  refine ⟨by decide, ?_⟩
  intro l0 n_l0; generalize e_l0 : upd _ l0 _ = H1; obtain ⟨g1, k1⟩ := newH e_l0 n_l0; clear e_l0
  refine ⟨_, .inl (g1.seq hS), _, .inl (g1.seq hS'), ?_⟩
  simp only [List.length_map]
  refine ⟨_, k1, by ((try clear hmn k1 n_l0); omega), by ((try clear hmn k1 n_l0); omega), by simp only [List.length_cons, List.length_nil]; unfold sizeLine; ((try clear hmn k1 n_l0); omega), ?_⟩
  intro l n_l; generalize e_l : upd _ l _ = H2; obtain ⟨g2, k2⟩ := newH e_l n_l; clear e_l
  rw [rep_zero] at k2
  have g12 := g1.trans g2
  have nl : H l = none := g1.free n_l
  refine ⟨⟨_, g12.seq hS⟩, ?_⟩
  obtain ⟨M, hM⟩ : ∃ M : Nat, M = 2 ^ (m + n) := ⟨_, rfl⟩
  obtain ⟨Pv, hPv⟩ : ∃ Pv : Nat → St → Hp → Prop, ∀ i σ H3, Pv i σ H3 ↔ (Same H H3 ∧ ∃ (r : List Int) (t3 t4 t5 t6 : Option V), r.length + 1 = f.length + g.length ∧ (∀ c, c ∈ r → c.natAbs ≤ i * g.length * M) ∧ (∀ x, Dr.pev r x = Dr.pev (f.take i) x * Dr.pev g x) ∧ H3 l = some (.lst (r.map V.int)) ∧ σ = [some (.ref a), some (.ref b), some (.ref l), t3, t4, t5, t6]) := ⟨_, fun _ _ _ => Iff.rfl⟩
  refine forE f Pv ((hPv _ _ _).mpr ⟨g12, _, none, none, none, none, by rw [List.length_replicate]; ((try clear hM hmn k1 k2 n_l n_l0 nl); omega), fun c hc => by rw [(List.mem_replicate.mp hc).2]; simp, fun x => by rw [Dr.pev_zeros]; simp [Dr.pev], k2, rfl⟩) (fun i σ H3 z => by obtain ⟨g, _⟩ := (hPv _ _ _).mp z; exact g.seq hS) ?_ ?_
  · intro i c σ H3 t H4 hc z g4 ht
    obtain ⟨g3, r, t3, t4, t5, t6, hrl, hrb, hre, k3, rfl⟩ := (hPv _ _ _).mp z
    have k4 := g4 _ _ k3
    have hi := (List.getElem?_eq_some_iff.mp hc).1
    have G4 := g3.trans g4
    try (repeat (first | dsimp only [tSeq] | walk_at "dr1"))
    refine ⟨_, SqT.of ht, rfl, _, _, rfl, _, _, rfl, rfl, ?_⟩
    try try (repeat (first | dsimp only [tSeq] | walk_at "dr1"))
    refine ⟨⟨_, G4.seq hS'⟩, ?_⟩
    obtain ⟨Pw, hPw⟩ : ∃ Pw : Nat → St → Hp → Prop, ∀ j σ H5, Pw j σ H5 ↔ (Same H H5 ∧ ∃ (r : List Int) (t5 t6 : Option V), r.length + 1 = f.length + g.length ∧ (∀ c, c ∈ r → c.natAbs ≤ (i * g.length + j) * M) ∧ (∀ x, Dr.pev r x = Dr.pev (f.take i) x * Dr.pev g x + c * x ^ i * Dr.pev (g.take j) x) ∧ H5 l = some (.lst (r.map V.int)) ∧ σ = [some (.ref a), some (.ref b), some (.ref l), some (.int (i : Int)), some (.int c), t5, t6]) := ⟨_, fun _ _ _ => Iff.rfl⟩
    refine forE g Pw ((hPw _ _ _).mpr ⟨G4, r, t5, t6, hrl, hrb, fun x => by rw [hre]; simp [Dr.pev], k4, rfl⟩) (fun i σ H3 z => by obtain ⟨g, _⟩ := (hPw _ _ _).mp z; exact g.seq hS') ?_ ?_
    · intro j d σ H5 t H6 hd z g6 ht
      obtain ⟨g5, r, t5, t6, hrl, hrb, hre, k5, rfl⟩ := (hPw _ _ _).mp z
      have k6 := g6 _ _ k5
      have hj := (List.getElem?_eq_some_iff.mp hd).1
      try (repeat (first | dsimp only [tSeq] | walk_at "dr1"))
      refine ⟨_, SqT.of ht, rfl, _, _, rfl, _, _, rfl, rfl, ?_⟩
      try try (repeat (first | dsimp only [tSeq] | walk_at "dr1"))
      obtain ⟨v, e1, _, e3, e4⟩ := get_int (fs := r) (k := (i : Int) + (j : Int)) (by ((try clear hM hc hd hi hj hl hmn hrl ht k1 k2 k3 k4 k5 k6 n_l n_l0 nl); omega)) (by ((try clear hM hc hd hl hmn ht k1 k2 k3 k4 k5 k6 n_l n_l0 nl); omega))
      have hcd : (c * d).natAbs ≤ M := by
        rw [hM]
        exact Nat.le_of_lt ((hf c (List.mem_of_getElem? hc)).mul (hg d (List.mem_of_getElem? hd)))
      refine ⟨by ((try clear e1 e3 e4 hM hc hcd hd hi hj hl hmn hrl ht k1 k2 k3 k4 k5 k6 n_l n_l0 nl); omega), _, SqL.of k6, _, e4, mulSm (hf c (List.mem_of_getElem? hc)) (hg d (List.mem_of_getElem? hd)) (by ((try clear e1 e3 e4 hM hc hcd hd hi hj hl hrl ht k1 k2 k3 k4 k5 k6 n_l n_l0 nl); omega)), v, rfl, _, k6, _, e3, ?_⟩
      rw [set_int]
      have eij : ((i : Int) + (j : Int)).toNat = i + j := by ((try clear e1 e3 e4 hM hc hcd hd hi hj hl hmn hrl ht k1 k2 k3 k4 k5 k6 n_l n_l0 nl); omega)
      rw [eij] at e1 ⊢
      refine (hPw _ _ _).mpr ⟨(g5.trans g6).up nl _, _, _, _, by rw [List.length_set]; exact hrl, fun e he => ?_, fun x => ?_, upd_same, rfl⟩
      · rcases mem_set he with w | w
        · exact Nat.le_trans (hrb e w) (Nat.mul_le_mul_right _ (Nat.le_succ _))
        · rw [w]
          exact steps (hrb v (List.mem_of_getElem? e1)) hcd
      · rw [Dr.pev_set x (c * d) r (i + j) v e1, hre, Dr.pev_take_succ hd, Dr.pow_add']
        generalize x ^ i = X
        generalize x ^ j = Y
        grind
    · intro σ H5 z
      obtain ⟨g5, r, t5, t6, hrl, hrb, hre, k5, rfl⟩ := (hPw _ _ _).mp z
      refine (hPv _ _ _).mpr ⟨g5, r, _, _, _, _, hrl, fun c hc => ?_, fun x => ?_, k5, rfl⟩
      · rw [Nat.succ_mul]
        exact hrb c hc
      · rw [hre, List.take_length, Dr.pev_take_succ hc]
        grind
  · intro σ H3 z
    obtain ⟨g3, r, t3, t4, t5, t6, hrl, hrb, hre, k3, rfl⟩ := (hPv _ _ _).mp z
    try (repeat (first | dsimp only [tSeq] | walk_at "dr1"))
    rw [List.take_length] at hre
    refine q l r H3 ⟨hrl, hre⟩ (fun c hc => ?_) nl g3 k3
    have h1 := hrb c hc
    have h2 : f.length * g.length * M ≤ 3600 * M := Nat.mul_le_mul_right _ (Nat.mul_le_mul (show f.length ≤ 60 by ((try clear h1 hM hmn k1 k2 k3 n_l n_l0 nl); omega)) (show g.length ≤ 60 by ((try clear h1 hM hmn hrl k1 k2 k3 n_l n_l0 nl); omega)))
    show c.natAbs < 2 ^ (m + n + 12)
    rw [Nat.pow_add, ← hM]
    have : (2 : Nat) ^ 12 = 4096 := by decide
    have : 0 < M := by rw [hM]; exact Nat.pow_pos (by decide)
    ((try clear hl hmn hrl k1 k2 k3 n_l n_l0 nl); omega)
theorem comp_dmI {K : PySem.W.Frag} {H : Hp} {a : Addr} {f : List Int} {σ : St} {k : Nat} {Q : VK} (hS : SqL K H a (f.map V.int)) (hl : 0 < f.length ∧ f.length ≤ 60) (hi : σ[k]? = some (some (.ref a))) (q : ∀ l, H l = none → Q (.ref l) (upd H l (.lst ((Dr.dm 1 f.tail).map V.int)))) :
    CompIt (Itr 1 ((((f.map V.int).length : Nat) : Int) - 1).toNat) [k] (fun _ H Q => Q true H) (tOp (rI IntMulOk fun i j => V.int (i * j)) (tVar 0) (tOp (rIxL K) (tVar 1) (tVar 0))) σ H Q := by
  obtain ⟨Pc, hPc⟩ : ∃ Pc : Nat → List V → Hp → Prop, ∀ i ys H1, Pc i ys H1 ↔ (H1 = H ∧ ys = ((Dr.dm 1 f.tail).take i).map V.int) := ⟨_, fun _ _ _ => Iff.rfl⟩
  refine compR Pc (by simp only [List.length_map]; unfold sizeLine; ((try clear hi); omega)) ((hPc _ _ _).mpr ⟨rfl, by simp⟩) ?_ ?_
  · intro i ys H1 hi' z
    obtain ⟨rfl, rfl⟩ := (hPc _ _ _).mp z
    simp only [List.length_map] at hi'
    have hi2 : i < f.tail.length := by rw [List.length_tail]; ((try clear hi); omega)
    have e0 : f.tail[i]? = some f.tail[i] := List.getElem?_eq_getElem hi2
    have e1 : atI (f.map V.int) (1 + (i : Int)) = some (.int f.tail[i]) := by
      rw [Int.add_comm]
      refine atI_nat (j := i + 1) ?_
      rw [List.getElem?_map]
      have : f[i + 1]? = some f.tail[i] := by
        rw [← e0]
        simp [List.getElem?_tail]
      rw [this]
      rfl
    have e2 := Dr.dm_get f.tail 1 i _ e0
    simp only [capV, List.map_cons, List.map_nil, hi, Option.getD_some]
    try (repeat (first | dsimp only [tSeq] | walk_at "dr1"))
    refine ⟨_, hS, _, e1, _, rfl, IntMulOk.of_left (intBits_le_64 (by ((try clear e0 e1 e2 hi hi' hl); omega)) (by ((try clear e0 e1 e2 hi); omega))), (hPc _ _ _).mpr ⟨rfl, ?_⟩⟩
    rw [List.take_add_one, e2, List.map_append]
    rfl
  · intro ys H1 z
    obtain ⟨rfl, rfl⟩ := (hPc _ _ _).mp z
    intro l hl'
    have := q l hl'
    rw [List.take_of_length_le (by rw [Dr.dm_length, List.length_tail]; simp only [List.length_map]; ((try clear hi hl'); omega))]
    exact this
theorem comp_dm {K : PySem.W.Frag} {H : Hp} {a : Addr} {f : List Int} {rest : St} {Q : VK} (hS : SqL K H a (f.map V.int)) (hl : 0 < f.length ∧ f.length ≤ 60) (q : ∀ l, H l = none → Q (.ref l) (upd H l (.lst ((Dr.dm 1 f.tail).map V.int)))) :
    CompIt (Itr 1 ((((f.map V.int).length : Nat) : Int) - 1).toNat) [0] (fun _ H Q => Q true H) (tOp (rI IntMulOk fun i j => V.int (i * j)) (tVar 0) (tOp (rIxL K) (tVar 1) (tVar 0))) (some (.ref a) :: rest) H Q := comp_dmI hS hl rfl q
theorem slope_b {f : List Int} {m : Nat} (hl : 0 < f.length ∧ f.length ≤ 60) (hf : Dr.PolyB f m) : Dr.PolyB (Dr.pslope f) (m + 6) := by
  intro d hd
  match f, hl with
  | [x], _ =>
    rw [List.mem_singleton.mp hd]
    exact Dr.Sm.zero _
  | x :: y :: f, hl =>
    have hd' : d ∈ Dr.dm 1 (y :: f) := hd
    obtain ⟨i, hi⟩ := List.getElem?_of_mem hd'
    have hi2 : i < (y :: f).length := by
      have := (List.getElem?_eq_some_iff.mp hi).1
      rw [Dr.dm_length] at this
      exact this
    have e0 : (y :: f)[i]? = some (y :: f)[i] := List.getElem?_eq_getElem hi2
    rw [Dr.dm_get (y :: f) 1 i _ e0] at hi
    rw [← Option.some.inj hi]
    have h1 : Dr.Sm (1 + (i : Int)) 6 := sm_of 60 (by simp only [List.length_cons] at hl hi2; ((try clear e0 hi); omega)) (by decide)
    have h2 := h1.mul (hf _ (List.mem_cons_of_mem _ (List.mem_of_getElem? e0)))
    exact h2.mono (by ((try clear e0 hi hl); omega))
noncomputable def sp_slope_of (K : PySem.W.Frag) : Sp := fun vs H Q _ => ∃ (a : Addr) (f : List Int) (m : Nat), vs = [.ref a] ∧ SqL K H a (f.map V.int) ∧ (0 < f.length ∧ f.length ≤ 60) ∧ Dr.PolyB f m ∧ m ≤ 1000000 ∧
  ∀ (c : Addr) (H' : Hp), Dr.PolyB (Dr.pslope f) (m + 6) → H c = none → Same H H' → H' c = some (.lst ((Dr.pslope f).map V.int)) → Q (.ref c) H'
theorem ok_slope_of (B : Bi mg K) (F : Fun K "slope_of" "slope_of" s_slope_of f fd) : FnOk P w K mg base CX0 1 f fd ["f"] (sp_slope_of K) := by
  refine F.ok S_slope_of (fun vs H Q E h => ?_) (fun cdv A outer s H vs Q E hr h => ?_)
  · obtain ⟨a, f, m, rfl, _⟩ := h
    rfl
  obtain ⟨a, f, m, rfl, hS, hl, hf, hm, q⟩ := h
  have S := S_slope_of
  refine ⟨_, ((pss_cons (ps_if (pt_cmpR op_eq (pe_callB call_len_seq rfl B.b_len PySem.boot_len (pa_cons (pv 0) pa_nil)) pe_int (nomark _)) (pss_one (ps_ret (pe_lst (pa_cons pe_int pa_nil)))) pss_nil)
    (pss_one (ps_ret (pe_comp [0] ["f"] rfl rfl ⟨rfl, trivial⟩ ⟨rfl, rfl, rfl, rfl, trivial⟩ rfl rfl (by decide) (by decide) rfl rfl (by decide) (pi_range2 rfl B.b_range (pa_cons pe_int (pa_cons (pe_callB call_len_seq rfl B.b_len PySem.boot_len (pa_cons (pv 0) pa_nil)) pa_nil))) (fun _ _ _ _ => pts_nil) (fun _ _ _ _ => (pe_op op_mulW (pv 0) (pe_ix (ix_listK (K := K) rfl) (pv 1) (pv 0) (fun _ _ => rfl))))))))), ?_⟩
  try (repeat (first | dsimp only [tSeq] | walk_at "dr1"))
  refine ⟨_, .inl hS, ?_⟩
  simp only [List.length_map]
  refine ite2 (fun c => ?_) (fun c => ?_)
  · refine ⟨by decide, ?_⟩
    intro l n_l; generalize e_l : upd _ l _ = H1; obtain ⟨g1, k1⟩ := newH e_l n_l; clear e_l
    obtain ⟨x, rfl⟩ : ∃ x, f = [x] := List.length_eq_one_iff.mp (by ((try clear hl hm k1 n_l); omega))
    exact q l H1 (fun c hc => by rw [List.mem_singleton.mp hc]; exact Dr.Sm.zero _) n_l g1 k1
  · refine ⟨_, .inl hS, by decide, by decide, by simp only [List.length_map]; ((try clear c hm); omega), by simp only [List.length_map]; ((try clear c hm); omega), ?_⟩
    refine comp_dm hS hl ?_
    intro l n_l; generalize e_l : upd _ l _ = H1; obtain ⟨g1, k1⟩ := newH e_l n_l; clear e_l
    have es : Dr.dm 1 f.tail = Dr.pslope f := by
      match f, hl with
      | [x], _ => exact absurd rfl c
      | x :: y :: g, _ => rfl
    rw [es] at k1
    exact q l H1 (slope_b hl hf) n_l g1 k1
noncomputable def sp_seen_from (K : PySem.W.Frag) : Sp := fun vs H Q _ => ∃ (p : Int) (b : Addr) (f : List Int) (a e : Int) (m n : Nat), vs = [.int p, .ref b, .int a, .int e] ∧ SqL K H b (f.map V.int) ∧ (0 < f.length ∧ f.length ≤ 60) ∧ (2 ≤ p ∧ p < 1000) ∧ (0 ≤ e ∧ e < 1000) ∧ Dr.PolyB f m ∧ Dr.Sm a n ∧ (10 * e.toNat + 1 ≤ n ∧ n ≤ 15000 ∧ m ≤ 50000) ∧
  ∀ (c : Addr) (s : List Int) (H' : Hp), Dr.IsSeen f a (p ^ e.toNat) s → Dr.PolyB s (m + f.length * (n + 13)) → H c = none → Same H H' → H' c = some (.lst (s.map V.int)) → Q (.ref c) H'
theorem drop_init {f : List Int} (h : 0 < f.length) {i : Nat} {c : Int} (hc : f.dropLast.reverse[i]? = some c) : f.drop (f.length - 1 - (i + 1)) = c :: f.drop (f.length - 1 - i) := by
  have hi : i < f.dropLast.length := by
    have := (List.getElem?_eq_some_iff.mp hc).1
    simpa using this
  have hi' : i < f.length - 1 := by simpa using hi
  rw [List.getElem?_reverse hi, List.length_dropLast] at hc
  have h2 : f.length - 1 - (i + 1) < f.length := by ((try clear hc hi hi'); omega)
  rw [List.drop_eq_getElem_cons h2, show f.length - 1 - (i + 1) + 1 = f.length - 1 - i by ((try clear hc hi); omega)]
  congr 1
  have h3 : f.length - 1 - 1 - i = f.length - 1 - (i + 1) := by ((try clear h h2 hc hi hi'); omega)
  rw [h3, List.getElem?_dropLast, if_pos (by ((try clear hc hi); omega)), List.getElem?_eq_getElem h2] at hc
  exact Option.some.inj hc
theorem ok_seen_from (B : Bi mg K) (d_power_of : Def P w K mg base "power_of" 1 ["p", "e"] (sp_power_of K)) (d_poly_product : Def P w K mg base "poly_product" 1 ["f", "g"] (sp_poly_product K)) (F : Fun K "seen_from" "seen_from" s_seen_from f fd) : FnOk P w K mg base CX0 2 f fd ["p", "f", "a", "e"] (sp_seen_from K) := by
  refine F.ok S_seen_from (fun vs H Q E h => ?_) (fun cdv A outer s H vs Q E hr h => ?_)
  · obtain ⟨p, b, f, a, e, m, n, rfl, _⟩ := h
    rfl
  obtain ⟨p, b, f, a, e, m, n, rfl, hS, hl, hp, he, hf, ha, hmn, q⟩ := h
  have S := S_seen_from
  refine ⟨_, ((pss_cons (ps_set (i := 4) S.nd rfl (Or.inl rfl) (pe_lst (pa_cons (pv 2) (pa_cons (pe_def d_power_of hr rfl (pa_cons (pv 0) (pa_cons (pv 3) pa_nil))) pa_nil))))
    (pss_cons (ps_set (i := 5) S.nd rfl (Or.inl rfl) (pe_lst (pa_cons (pe_ix ix_list (pv 1) (pe_un un_neg pe_int) (fun _ _ => rfl)) pa_nil)))
    (pss_cons (ps_for PassesOwn.never rfl (pi_rev rfl B.b_reversed (pe_slice sl_list (pv 1) po_none (po_some (pe_un un_neg pe_int)))) (pg_name (i := 6) S.nd rfl (Or.inl rfl)) (pss_cons (ps_set (i := 5) S.nd rfl (Or.inl rfl) (pe_def d_poly_product hr rfl (pa_cons (pv 5) (pa_cons (pv 4) pa_nil))))
    (pss_one (ps_augS (pv 5) pe_int get_list (pv 6) ip_add set_list))))
    (pss_one (ps_ret (pv 5))))))), ?_⟩
  have bp : Dr.Sm (p ^ e.toNat) n := (show Dr.Sm (p ^ e.toNat) (10 * e.toNat + 1) from pow_bits hp e.toNat).mono hmn.1
  have bps : Dr.PolyB [a, p ^ e.toNat] n := fun c hc => by
    rcases List.mem_cons.mp hc with w | w
    · rw [w]; exact ha
    · rw [List.mem_singleton.mp w]; exact bp
  (try dsimp only); (first | refine seqI ?_ | skip); try walk_at "dr1"; (try simp only [sp_power_of, sp_poly_product]); try walk_at "dr1"
  refine ⟨hp.1, hp.2, by ((try clear hl hmn hp); omega), by ((try clear hl hmn hp); omega), by decide, ?_⟩
  intro l1 n_l1; generalize e_l1 : upd _ l1 _ = H1; obtain ⟨g1, k1⟩ := newH e_l1 n_l1; clear e_l1
  have k1 : H1 l1 = some (.lst ([a, p ^ e.toNat].map V.int)) := k1
  obtain ⟨x0, hx0⟩ : ∃ x0, f.getLast? = some x0 := ⟨f.getLast (List.ne_nil_of_length_pos hl.1), List.getLast?_eq_some_getLast _⟩
  (try dsimp only); (first | refine seqI ?_ | skip); try walk_at "dr1"; (try simp only [sp_power_of, sp_poly_product]); try walk_at "dr1"
  refine ⟨_, g1.seq hS, _, atI_back hx0, by decide, ?_⟩
  intro l2 n_l2; generalize e_l2 : upd _ l2 _ = H2; obtain ⟨g2, k2⟩ := newH e_l2 n_l2; clear e_l2
  have k2 : H2 l2 = some (.lst ([x0].map V.int)) := k2
  (try dsimp only); (first | refine seqI ?_ | skip); try walk_at "dr1"; (try simp only [sp_power_of, sp_poly_product]); try walk_at "dr1"
  refine ⟨_, (g1.trans g2).seq hS, ?_⟩
  intro l3 n_l3; generalize e_l3 : upd _ l3 _ = H3; obtain ⟨g3, k3⟩ := newH e_l3 n_l3; clear e_l3
  rw [cut_init] at k3
  refine ⟨_, SqL.of k3, ?_⟩
  have G3 := g1.trans (g2.trans g3)
  have ed : f.drop (f.length - 1) = [x0] := by
    have h2 : f.length - 1 < f.length := by ((try clear he hmn hp hx0 k1 k2 k3 n_l1 n_l2 n_l3); omega)
    rw [List.drop_eq_getElem_cons h2, show f.length - 1 + 1 = f.length by ((try clear he hmn hp hx0 k1 k2 k3 n_l1 n_l2 n_l3); omega), List.drop_length]
    rw [List.getLast?_eq_getElem?, List.getElem?_eq_getElem h2] at hx0
    rw [Option.some.inj hx0]
  obtain ⟨Pv, hPv⟩ : ∃ Pv : Nat → St → Hp → Prop, ∀ i σ H4, Pv i σ H4 ↔ (Same H3 H4 ∧ ∃ (c : Addr) (s : List Int) (t6 : Option V), H c = none ∧ H4 c = some (.lst (s.map V.int)) ∧ s.length = i + 1 ∧ Dr.PolyB s (m + i * (n + 13)) ∧ (∀ y, Dr.pev s y = Dr.pev (f.drop (f.length - 1 - i)) (a + p ^ e.toNat * y)) ∧ σ = [some (.int p), some (.ref b), some (.int a), some (.int e), some (.ref l1), some (.ref c), t6]) := ⟨_, fun _ _ _ => Iff.rfl⟩
  refine forV f.dropLast Pv (by rw [List.length_map]) ((hPv _ _ _).mpr ⟨Same.refl _, l2, [x0], none, g1.free n_l2, g3 _ _ k2, rfl, fun c hc => ?_, fun y => by rw [Nat.sub_zero, ed]; simp [Dr.pev], rfl⟩) (fun i σ H4 z => by obtain ⟨g, _⟩ := (hPv _ _ _).mp z; exact SqL.of (g _ _ k3)) ?_ ?_
  · rw [List.mem_singleton.mp hc]
    exact (hf x0 (List.mem_of_getLast? hx0)).mono (by ((try clear ed he hl hmn hp hx0 k1 k2 k3 n_l1 n_l2 n_l3); omega))
  · intro i c σ H4 hc z
    obtain ⟨g4, lc, s, t6, nc, kc, hsl, hsb, hse, rfl⟩ := (hPv _ _ _).mp z
    have hi : i < f.length - 1 := by
      have := (List.getElem?_eq_some_iff.mp hc).1
      simpa using this
    have hib : i * (n + 13) ≤ 60 * 15013 := Nat.mul_le_mul (by ((try clear ed hc he hmn hp hsl hx0 k1 k2 k3 kc n_l1 n_l2 n_l3 nc); omega)) (by ((try clear ed hc he hi hl hp hsl hx0 k1 k2 k3 kc n_l1 n_l2 n_l3 nc); omega))
    (try dsimp only); (first | refine seqI ?_ | skip); try walk_at "dr1"; (try simp only [sp_power_of, sp_poly_product]); try walk_at "dr1"
    refine ⟨s, SqL.of kc, [a, p ^ e.toNat], SqL.of (g4 _ _ (g3 _ _ (g2 _ _ k1))), by ((try clear ed hc he hi hib hl hmn hp hx0 k1 k2 k3 kc n_l1 n_l2 n_l3 nc); omega), by ((try clear ed hc he hib hmn hp hx0 k1 k2 k3 kc n_l1 n_l2 n_l3 nc); omega), by simp, by simp, _, hsb, n, bps, by ((try clear ed hc he hi hl hp hsl hx0 k1 k2 k3 kc n_l1 n_l2 n_l3 nc); omega), by ((try clear ed hc he hi hib hl hp hsl hx0 k1 k2 k3 kc n_l1 n_l2 n_l3 nc); omega), fun lr r H5 hr hrb nr g5 kr => ?_⟩
    have hrl := hr.len
    simp only [List.length_cons, List.length_nil] at hrl
    obtain ⟨v, e1, _, e3, e4⟩ := get_int (fs := r) (k := 0) (by ((try clear ed hc he hi hib hl hmn hp hrl hsl hx0 k1 k2 k3 kc kr n_l1 n_l2 n_l3 nc nr); omega)) (by ((try clear ed hc he hi hib hl hmn hp hx0 k1 k2 k3 kc kr n_l1 n_l2 n_l3 nc nr); omega))
    refine ⟨_, SqL.of kr, _, e4, v, rfl, _, kr, _, e3, ?_⟩
    rw [set_int]
    have e0 : Int.toNat 0 = 0 := rfl
    rw [e0] at e1 ⊢
    have n3 := g4.free nr
    have hs1 : (i + 1) * (n + 13) = i * (n + 13) + (n + 13) := Nat.succ_mul ..
    refine (hPv _ _ _).mpr ⟨(g4.trans g5).up n3 _, lr, _, _, G3.free n3, upd_same, by rw [List.length_set]; ((try clear e0 e1 e3 e4 ed hc he hi hib hl hmn hp hs1 hx0 k1 k2 k3 kc kr n3 n_l1 n_l2 n_l3 nc nr); omega), fun d hd => ?_, fun y => ?_, rfl⟩
    · rcases mem_set hd with w | w
      · exact (hrb d w).mono (by ((try clear e0 e1 e3 e4 ed hc he hi hib hl hmn hp hrl hsl hx0 k1 k2 k3 kc kr n3 n_l1 n_l2 n_l3 nc nr); omega))
      · rw [w]
        exact ((hrb v (List.mem_of_getElem? e1)).add (hf c (List.dropLast_subset _ (List.mem_reverse.mp (List.mem_of_getElem? hc))))).mono (by ((try clear e0 e1 e3 e4 ed hc he hi hl hp hrl hsl hx0 k1 k2 k3 kc kr n3 n_l1 n_l2 n_l3 nc nr w); omega))
    · rw [Dr.pev_set y c r 0 v e1, hr.ev, hse, drop_init hl.1 hc]
      simp only [Dr.pev, Int.pow_zero]
      generalize Dr.pev (List.drop (f.length - 1 - i) f) (a + p ^ e.toNat * y) = X
      generalize p ^ e.toNat = q
      grind
  · intro σ H4 z
    obtain ⟨g4, lc, s, t6, nc, kc, hsl, hsb, hse, rfl⟩ := (hPv _ _ _).mp z
    rw [List.length_dropLast] at hsl hsb hse
    try (repeat (first | dsimp only [tSeq] | walk_at "dr1")); (try simp only [sp_power_of, sp_poly_product]); try (repeat (first | dsimp only [tSeq] | walk_at "dr1"))
    refine q lc s H4 ⟨by ((try clear ed he hmn hp hx0 k1 k2 k3 kc n_l1 n_l2 n_l3 nc); omega), fun y => ?_⟩ (fun c hc => (hsb c hc).mono ?_) nc (G3.trans g4) kc
    · rw [hse, Nat.sub_self, List.drop_zero]
    · exact Nat.add_le_add_left (Nat.mul_le_mul_right _ (by ((try clear ed he hmn hp hsl hx0 k1 k2 k3 kc n_l1 n_l2 n_l3 nc); omega))) _
noncomputable def sp_content_of (K : PySem.W.Frag) : Sp := fun vs H Q E => ∃ (p : Int) (b : Addr) (f : List Int), vs = [.int p, .ref b] ∧ SqL K H b (f.map V.int) ∧ f.length ≤ 60 ∧ (2 ≤ p ∧ p < 1000) ∧
  ((∃ c, c ∈ f ∧ c ≠ 0) → ∀ (c : Nat) (H' : Hp), Dr.IsCont p f c → Same H H' → Q (.int (c : Int)) H') ∧ ((∀ c, c ∈ f → c = 0) → ∀ H', Same H H' → E (.ref (clK K "NoDepth")) none H')
theorem all_beq {l : List Int} {p : Int} : ((l.map fun x => decide (x % p = 0)).all id = true) ↔ ∀ x, x ∈ l → x % p = 0 := by
  simp [List.all_map]
theorem cont_turn {p : Int} (hp : 2 ≤ p) {f l : List Int} {c : Nat} (e : f = l.map (p ^ c * ·)) (h : ∀ x, x ∈ l → x % p = 0) : f = (l.map (· / p)).map (p ^ (c + 1) * ·) := by
  rw [e, List.map_map]
  refine List.map_congr_left fun x hx => ?_
  have := Int.mul_ediv_add_emod x p
  rw [h x hx] at this
  simp only [Function.comp]
  rw [Int.pow_succ, Int.mul_assoc]
  congr 1
  ((try clear e hp); omega)
theorem cont_end {p : Int} (hp : 2 ≤ p) {f l : List Int} {c : Nat} (e : f = l.map (p ^ c * ·)) (h : ∃ x, x ∈ l ∧ x % p ≠ 0) : Dr.IsCont p f c := by
  have q0 := Dr.pow_pos hp c
  refine ⟨fun x hx => ?_, ?_⟩
  · rw [e, List.mem_map] at hx
    obtain ⟨y, _, rfl⟩ := hx
    simp
  · obtain ⟨x, hx, n⟩ := h
    refine ⟨p ^ c * x, by rw [e]; exact List.mem_map_of_mem hx, ?_⟩
    rw [Int.mul_ediv_cancel_left _ (by ((try clear e hp n); omega))]
    exact n
theorem comp_rest {K : PySem.W.Frag} {H : Hp} {a : Addr} {l : List Int} {p : Int} {σ : St} {Q : VK} {i : Nat} (hS : SqL K H a (l.map V.int)) (hl : l.length ≤ 60) (hp : 2 ≤ p) (hi : σ[i]? = some (some (.int p))) (q : ∀ r, H r = none → Q (.ref r) (upd H r (.lst ((l.map fun x => decide (x % p = 0)).map V.bl)))) :
    CompIt (Itl K a) [i] (fun _ H Q => Q true H) (tOp rEq (tOp (rI (fun _ j => 0 < j) fun i j => V.int (i % j)) (tVar 0) (tVar 1)) (tC (V.int 0))) σ H Q := by
  obtain ⟨Pc, hPc⟩ : ∃ Pc : Nat → List V → Hp → Prop, ∀ i ys H1, Pc i ys H1 ↔ (H1 = H ∧ ys = ((l.take i).map fun x => decide (x % p = 0)).map V.bl) := ⟨_, fun _ _ _ => Iff.rfl⟩
  refine compI l Pc (by unfold sizeLine; ((try clear hi hp); omega)) ((hPc _ _ _).mpr ⟨rfl, by simp⟩) (fun i ys H4 z => by obtain ⟨rfl, _⟩ := (hPc _ _ _).mp z; exact hS) ?_ ?_
  · intro j c ys H1 hc z
    obtain ⟨rfl, rfl⟩ := (hPc _ _ _).mp z
    simp only [capV, List.map_cons, List.map_nil, hi, Option.getD_some]
    try (repeat (first | dsimp only [tSeq] | walk_at "dr1"))
    refine ⟨by ((try clear hc hi hl); omega), (hPc _ _ _).mpr ⟨rfl, ?_⟩⟩
    rw [List.take_add_one, hc, List.map_append, List.map_append]
    simp
  · intro ys H1 z
    obtain ⟨rfl, rfl⟩ := (hPc _ _ _).mp z
    intro r hr
    have := q r hr
    rw [List.take_length]
    exact this
theorem comp_div {K : PySem.W.Frag} {H : Hp} {a : Addr} {l : List Int} {p : Int} {σ : St} {Q : VK} {i : Nat} (hS : SqL K H a (l.map V.int)) (hl : l.length ≤ 60) (hp : CDivW 0 p) (hi : σ[i]? = some (some (.int p))) (q : ∀ r, H r = none → Q (.ref r) (upd H r (.lst ((l.map (· / p)).map V.int)))) :
    CompIt (Itl K a) [i] (fun _ H Q => Q true H) (tOp (rI CDivW fun i j => V.int (i / j)) (tVar 0) (tVar 1)) σ H Q := by
  obtain ⟨Pc, hPc⟩ : ∃ Pc : Nat → List V → Hp → Prop, ∀ i ys H1, Pc i ys H1 ↔ (H1 = H ∧ ys = ((l.take i).map (· / p)).map V.int) := ⟨_, fun _ _ _ => Iff.rfl⟩
  refine compI l Pc (by unfold sizeLine; ((try clear hi); omega)) ((hPc _ _ _).mpr ⟨rfl, by simp⟩) (fun i ys H4 z => by obtain ⟨rfl, _⟩ := (hPc _ _ _).mp z; exact hS) ?_ ?_
  · intro j c ys H1 hc z
    obtain ⟨rfl, rfl⟩ := (hPc _ _ _).mp z
    simp only [capV, List.map_cons, List.map_nil, hi, Option.getD_some]
    try (repeat (first | dsimp only [tSeq] | walk_at "dr1"))
    refine ⟨hp, (hPc _ _ _).mpr ⟨rfl, ?_⟩⟩
    rw [List.take_add_one, hc, List.map_append, List.map_append]
    simp
  · intro ys H1 z
    obtain ⟨rfl, rfl⟩ := (hPc _ _ _).mp z
    intro r hr
    have := q r hr
    rw [List.take_length]
    exact this
theorem turn_nat {p y : Int} (hp : 2 ≤ p) (hy : y ≠ 0) (h : y % p = 0) : y / p ≠ 0 ∧ (y / p).natAbs < y.natAbs := by
  have e1 : y = p * (y / p) := by have := Int.mul_ediv_add_emod y p; ((try clear hp hy); omega)
  have n0 : y / p ≠ 0 := fun z => by rw [z] at e1; simp at e1; exact hy e1
  refine ⟨n0, ?_⟩
  have e2 : y.natAbs = p.natAbs * (y / p).natAbs := by rw [← Int.natAbs_mul, ← e1]
  have l1 : 2 * (y / p).natAbs ≤ p.natAbs * (y / p).natAbs := Nat.mul_le_mul_right _ (by ((try clear e1 e2 h hy n0); omega))
  ((try clear h hp hy); omega)
theorem ok_content_of (B : Bi mg K) (d_degree_of : Def P w K mg base "degree_of" 1 ["f"] (sp_degree_of K)) (F : Fun K "content_of" "content_of" s_content_of f fd) : FnOk P w K mg base (CXE P w) 2 f fd ["p", "f"] (sp_content_of K) := by
  refine F.okE S_content_of (fun vs H Q E h => ?_) (fun cdv A outer s H vs Q E hr h => ?_)
  · obtain ⟨p, b, f, rfl, _⟩ := h
    rfl
  obtain ⟨p, b, f, rfl, hS, hl, hp, q, qx⟩ := h
  have S := S_content_of
  refine ⟨_, ((pss_cons (ps_if (pt_cmpR op_eq (pe_def d_degree_of hr rfl (pa_cons (pv 1) pa_nil)) (pe_un un_neg pe_int) (nomark _)) (pss_one (ps_raise thrE rfl rfl B.c_NoDepth B.x_NoDepth (pa_cons pe_str pa_nil))) pss_nil)
    (pss_cons (ps_set (i := 2) S.nd rfl (Or.inl rfl) pe_int)
    (pss_cons (ps_set (i := 3) S.nd rfl (Or.inl rfl) (pv 1))
    (pss_cons (ps_nox (ps_while PassesOwn.never (pt_val (pe_callB (call_allB rfl) rfl B.b_all bt_all (pa_cons (pe_comp [0] ["p"] rfl rfl ⟨rfl, trivial⟩ ⟨rfl, rfl, rfl, rfl, trivial⟩ rfl rfl (by decide) (by decide) rfl rfl (by decide) (pi_list (pv 3)) (fun _ _ _ _ => pts_nil) (fun _ _ _ _ => (pe_cmpR op_eq (pe_op op_mod (pv 0) (pv 1)) pe_int (nomark _)))) pa_nil))) (pss_cons (ps_comp [0] ["p"] rfl S.nd (k := 3) rfl rfl rfl rfl ⟨rfl, trivial⟩ ⟨rfl, rfl, rfl, rfl, trivial⟩ rfl rfl (by decide) (by decide) rfl rfl (by decide) (pi_list (pv 3)) (fun _ _ _ _ => pts_nil) (fun _ _ _ _ => (pe_op op_fdivW (pv 0) (pv 1))))
    (pss_one (ps_aug (i := 2) S.nd rfl (Or.inl rfl) pe_int ip_add)))))
    (pss_one (ps_ret (pv 2)))))))), ?_⟩
  (try dsimp only); (first | refine seqI ?_ | skip); try walk_at "dr1"; (try simp only [sp_degree_of]); try walk_at "dr1"
  refine ⟨f, hS, fun d H1 hd g1 => ite2 (fun c => ⟨by decide, ?_⟩) (fun c => ?_)⟩
  · rcases hd with ⟨_, z⟩ | ⟨k, _, z, _⟩
    · exact qx z H1 g1
    · ((try clear hl hp); omega)
  obtain ⟨k, x0, e0, ek, hx0⟩ : ∃ (k : Nat) (x0 : Int), d = (k : Int) ∧ f[k]? = some x0 ∧ x0 ≠ 0 := by
    rcases hd with ⟨z, _⟩ | ⟨k, x0, z, z1, z2, _⟩
    · exact absurd z c
    · exact ⟨k, x0, z, z1, z2⟩
  have q := q ⟨x0, List.mem_of_getElem? ek, hx0⟩
  (try dsimp only); (first | refine seqI ?_ | skip); try walk_at "dr1"; (try simp only [sp_degree_of]); try walk_at "dr1"
  (try dsimp only); (first | refine seqI ?_ | skip); try walk_at "dr1"; (try simp only [sp_degree_of]); try walk_at "dr1"
  refine seqI ?_
  obtain ⟨W, hW⟩ : ∃ W : Nat → St → Hp → Prop, ∀ m' σ H2, W m' σ H2 ↔ (Same H1 H2 ∧ ∃ (a : Addr) (l : List Int) (c : Nat) (y : Int), SqL K H2 a (l.map V.int) ∧ l.length = f.length ∧ f = l.map (p ^ c * ·) ∧ l[k]? = some y ∧ y ≠ 0 ∧ m' = y.natAbs ∧ σ = [some (.int p), some (.ref b), some (.int (c : Int)), some (.ref a)]) := ⟨_, fun _ _ _ => Iff.rfl⟩
  refine whB W x0.natAbs ((hW _ _ _).mpr ⟨Same.refl _, b, f, 0, x0, g1.seq hS, rfl, by simp, ek, hx0, rfl, rfl⟩) ?_
  intro m' σ H2 z
  obtain ⟨g2, a, l, c, y, hS2, hll, ef, ey, hy, rfl, rfl⟩ := (hW _ _ _).mp z
  try (repeat (first | dsimp only [tSeq] | walk_at "dr1")); (try simp only [sp_degree_of]); try (repeat (first | dsimp only [tSeq] | walk_at "dr1"))
  refine ⟨⟨_, hS2⟩, comp_rest hS2 (by ((try clear e0 ef ek ey hp hx0 hy); omega)) hp.1 rfl ?_⟩
  intro r n_r; generalize e_r : upd _ r _ = H3; obtain ⟨g3, k3⟩ := newH e_r n_r; clear e_r
  refine ⟨_, rfl, _, SqL.of k3, ?_⟩
  try (repeat (first | dsimp only [tSeq] | walk_at "dr1")); (try simp only [sp_degree_of]); try (repeat (first | dsimp only [tSeq] | walk_at "dr1"))
  refine ite2 (fun c0 => ?_) (fun c0 => ?_)
  · have hall := all_beq.mp c0
    refine ⟨_, fun _ _ h => h, ?_⟩
    try (repeat (first | dsimp only [tSeq] | walk_at "dr1")); (try simp only [sp_degree_of]); try (repeat (first | dsimp only [tSeq] | walk_at "dr1"))
    refine ⟨⟨_, g3.seq hS2⟩, comp_div (g3.seq hS2) (by ((try clear c0 e0 ef ek ey hp hx0 hy k3 n_r); omega)) (log_small hp) rfl ?_⟩
    intro r4 n_r4; generalize e_r4 : upd _ r4 _ = H4; obtain ⟨g4, k4⟩ := newH e_r4 n_r4; clear e_r4
    have t := turn_nat hp.1 hy (hall y (List.mem_of_getElem? ey))
    exact ⟨_, t.2, (hW _ _ _).mpr ⟨g2.trans (g3.trans g4), r4, l.map (· / p), c + 1, y / p, SqL.of k4, by rw [List.length_map]; exact hll, cont_turn hp.1 ef hall, by rw [List.getElem?_map, ey]; rfl, t.1, rfl, rfl⟩⟩
  · refine q c H3 (cont_end hp.1 ef ?_) (g1.trans (g2.trans g3))
    refine Decidable.byContradiction fun hno => c0 (all_beq.mpr fun x hx => Decidable.byContradiction fun hx' => hno ⟨x, hx, hx'⟩)
noncomputable def sp_without_content (K : PySem.W.Frag) : Sp := fun vs H Q E => ∃ (p : Int) (b : Addr) (f : List Int) (m : Nat), vs = [.int p, .ref b] ∧ SqL K H b (f.map V.int) ∧ f.length ≤ 60 ∧ (2 ≤ p ∧ p < 1000) ∧ Dr.PolyB f m ∧ m ≤ 8900 ∧
  ((∀ c, c ∈ f → c = 0) → ∀ H', Same H H' → E (.ref (clK K "NoDepth")) none H') ∧ ((∃ c, c ∈ f ∧ c ≠ 0) → ∀ (c : Nat) (r : Addr) (H' : Hp), Dr.IsCont p f c → H r = none → Same H H' → H' r = some (.lst ((Dr.pdiv (p ^ c) f).map V.int)) → Q (.ref r) H')
theorem cont_lt {p : Int} {f : List Int} {c m : Nat} (hp : 2 ≤ p) (h : ∃ x, x ∈ f ∧ x ≠ 0) (hc : Dr.IsCont p f c) (hb : Dr.PolyB f m) : (p ^ c).natAbs < 2 ^ m := by
  obtain ⟨x, hx, n⟩ := h
  obtain ⟨k, e⟩ := Int.dvd_of_emod_eq_zero (hc.1 x hx)
  have k0 : k ≠ 0 := fun z => by
    rw [z, Int.mul_zero] at e
    exact n e
  have h1 := hb x hx
  unfold Dr.Sm at h1
  have h2 : x.natAbs = (p ^ c).natAbs * k.natAbs := by rw [← Int.natAbs_mul, ← e]
  have h3 : (p ^ c).natAbs * 1 ≤ (p ^ c).natAbs * k.natAbs := Nat.mul_le_mul_left _ (by ((try clear e h1 h2 hp n); omega))
  ((try clear e hp k0 n); omega)
theorem cont_bound {p : Int} {f : List Int} {c m : Nat} (hp : 2 ≤ p) (h : ∃ x, x ∈ f ∧ x ≠ 0) (hc : Dr.IsCont p f c) (hb : Dr.PolyB f m) : c < m + 1 := by
  have h1 := cont_lt hp h hc hb
  have h2 := Dr.two_pow_le hp c
  have h3 : 2 ^ c < 2 ^ m := by ((try clear hp); omega)
  have := (Nat.pow_lt_pow_iff_right (show 1 < 2 by decide)).mp h3
  ((try clear h1 h2 h3 hp); omega)
theorem ok_without_content (B : Bi mg K) (d_power_of : Def P w K mg base "power_of" 1 ["p", "e"] (sp_power_of K)) (d_content_of : DefE P w K mg base "content_of" 2 ["p", "f"] (sp_content_of K)) (F : Fun K "without_content" "without_content" s_without_content f fd) : FnOk P w K mg base (CXE P w) 3 f fd ["p", "f"] (sp_without_content K) := by
  refine F.okE S_without_content (fun vs H Q E h => ?_) (fun cdv A outer s H vs Q E hr h => ?_)
  · obtain ⟨p, b, f, m, rfl, _⟩ := h
    rfl
  obtain ⟨p, b, f, m, rfl, hS, hl, hp, hb, hm, qe, q⟩ := h
  have S := S_without_content
  refine ⟨_, ((pss_cons (ps_set (i := 2) S.nd rfl (Or.inr rfl) (pe_def d_power_of hr rfl (pa_cons (pv 0) (pa_cons (pe_defE passE d_content_of hr rfl (pa_cons (pv 0) (pa_cons (pv 1) pa_nil))) pa_nil))))
    (pss_one (ps_ret (pe_comp [2] ["power"] rfl rfl ⟨rfl, trivial⟩ ⟨rfl, rfl, rfl, rfl, trivial⟩ rfl rfl (by decide) (by decide) rfl rfl (by decide) (pi_list (pv 1)) (fun _ _ _ _ => pts_nil) (fun _ _ _ _ => (pe_op op_fdivW (pv 0) (pv 1)))))))), ?_⟩
  (try dsimp only); (first | refine seqI ?_ | skip); try walk_at "dr1"; (try simp only [sp_power_of, sp_content_of]); try walk_at "dr1"
  refine ⟨f, hS, hl, hp.1, hp.2, fun hne c H1 hc g1 => ⟨hp.1, hp.2, by ((try clear hl hm hp); omega), ?_, ⟨_, g1.seq hS⟩, ?_⟩, qe⟩
  · have := cont_bound hp.1 hne hc hb
    ((try clear hl hp); omega)
  · rw [Int.toNat_natCast]
    refine comp_div (p := p ^ c) (g1.seq hS) hl ⟨Dr.pow_pos hp.1 c, ?_⟩ rfl ?_
    · have h1 := cont_lt hp.1 hne hc hb
      have h2 : (2 : Nat) ^ m ≤ 2 ^ 8999 := Nat.pow_le_pow_right (by decide) (by ((try clear h1 hl hp); omega))
      have h3 := Dr.pow_pos hp.1 c
      have : (p ^ c).natAbs.log2 < 8999 := (Nat.log2_lt (by ((try clear h1 h2 hl hm hp); omega))).mpr (Nat.lt_of_lt_of_le h1 h2)
      ((try clear h1 h2 h3 hl hm hp); omega)
    · intro r n_r; generalize e_r : upd _ r _ = H2; obtain ⟨g2, k2⟩ := newH e_r n_r; clear e_r
      exact q hne c r H2 hc (g1.free n_r) (g1.trans g2) k2
noncomputable def restsOf (p : Int) (f : List Int) : List Int := ((List.range p.toNat).map fun k : Nat => (k : Int)).filter fun r => decide (Dr.pev f r % p = 0)
noncomputable def sp_rests_by_prime (K : PySem.W.Frag) : Sp := fun vs H Q _ => ∃ (p : Int) (b : Addr) (f : List Int), vs = [.int p, .ref b] ∧ SqL K H b (f.map V.int) ∧ f.length ≤ 60 ∧ (2 ≤ p ∧ p < 1000) ∧
  ∀ (r : Addr) (H' : Hp), H r = none → Same H H' → H' r = some (.lst ((restsOf p f).map V.int)) → Q (.ref r) H'
theorem comp_mod {K : PySem.W.Frag} {H : Hp} {a : Addr} {l : List Int} {p : Int} {σ : St} {Q : VK} {i : Nat} (hS : SqL K H a (l.map V.int)) (hl : l.length ≤ 60) (hp : 0 < p) (hi : σ[i]? = some (some (.int p))) (q : ∀ r, H r = none → Q (.ref r) (upd H r (.lst ((l.map (· % p)).map V.int)))) :
    CompIt (Itl K a) [i] (fun _ H Q => Q true H) (tOp (rI (fun _ j => 0 < j) fun i j => V.int (i % j)) (tVar 0) (tVar 1)) σ H Q := by
  obtain ⟨Pc, hPc⟩ : ∃ Pc : Nat → List V → Hp → Prop, ∀ i ys H1, Pc i ys H1 ↔ (H1 = H ∧ ys = ((l.take i).map (· % p)).map V.int) := ⟨_, fun _ _ _ => Iff.rfl⟩
  refine compI l Pc (by unfold sizeLine; ((try clear hi hp); omega)) ((hPc _ _ _).mpr ⟨rfl, by simp⟩) (fun i ys H4 z => by obtain ⟨rfl, _⟩ := (hPc _ _ _).mp z; exact hS) ?_ ?_
  · intro j c ys H1 hc z
    obtain ⟨rfl, rfl⟩ := (hPc _ _ _).mp z
    simp only [capV, List.map_cons, List.map_nil, hi, Option.getD_some]
    try (repeat (first | dsimp only [tSeq] | walk_at "dr1"))
    refine ⟨hp, (hPc _ _ _).mpr ⟨rfl, ?_⟩⟩
    rw [List.take_add_one, hc, List.map_append, List.map_append]
    simp
  · intro ys H1 z
    obtain ⟨rfl, rfl⟩ := (hPc _ _ _).mp z
    intro r hr
    have := q r hr
    rw [List.take_length]
    exact this
theorem pev_mods {p x : Int} : ∀ f : List Int, (Dr.pev (f.map (· % p)) x - Dr.pev f x) % p = 0
  | [] => by simp [Dr.pev]
  | a :: f => by
    have ih := pev_mods (p := p) (x := x) f
    have h1 := Dr.dvd_add_of (Dr.rest_sub p a) (Dr.dvd_mul_l x ih)
    simp only [List.map_cons, Dr.pev]
    rw [Int.mul_sub] at h1
    have e : a % p + x * Dr.pev (f.map (· % p)) x - (a + x * Dr.pev f x) = a % p - a + (x * Dr.pev (f.map (· % p)) x - x * Dr.pev f x) := by ((try clear h1 ih); omega)
    rw [e]
    exact h1
theorem pev_mods_iff {p x : Int} (f : List Int) : Dr.pev (f.map (· % p)) x % p = 0 ↔ Dr.pev f x % p = 0 := by
  have h := pev_mods (p := p) (x := x) f
  constructor
  · intro z
    have := Dr.dvd_sub_of z h
    rwa [show Dr.pev (f.map (· % p)) x - (Dr.pev (f.map (· % p)) x - Dr.pev f x) = Dr.pev f x by ((try clear h this z); omega)] at this
  · intro z
    have := Dr.dvd_add_of h z
    rwa [Int.sub_add_cancel] at this
noncomputable def restsTo (p : Int) (f : List Int) (n : Nat) : List Int := ((List.range n).map fun k : Nat => (k : Int)).filter fun r => decide (Dr.pev f r % p = 0)
theorem restsTo_succ (p : Int) (f : List Int) (n : Nat) : restsTo p f (n + 1) = restsTo p f n ++ if Dr.pev f (n : Int) % p = 0 then [(n : Int)] else [] := by
  unfold restsTo
  rw [List.range_succ, List.map_append, List.filter_append]
  congr 1
  by_cases z : Dr.pev f (n : Int) % p = 0
  · simp [z]
  · simp [z]
theorem ok_rests_by_prime (B : Bi mg K) (d_worth_at : Def P w K mg base "worth_at" 1 ["f", "x"] (sp_worth_at K)) (F : Fun K "rests_by_prime" "rests_by_prime" s_rests_by_prime f fd) : FnOk P w K mg base CX0 2 f fd ["p", "f"] (sp_rests_by_prime K) := by
  refine F.ok S_rests_by_prime (fun vs H Q E h => ?_) (fun cdv A outer s H vs Q E hr h => ?_)
  · obtain ⟨p, b, f, rfl, _⟩ := h
    rfl
  obtain ⟨p, b, f, rfl, hS, hl, hp, q⟩ := h
  have S := S_rests_by_prime
  refine ⟨_, ((pss_cons (ps_set (i := 2) S.nd rfl (Or.inr rfl) (pe_comp [0] ["p"] rfl rfl ⟨rfl, trivial⟩ ⟨rfl, rfl, rfl, rfl, trivial⟩ rfl rfl (by decide) (by decide) rfl rfl (by decide) (pi_list (pv 1)) (fun _ _ _ _ => pts_nil) (fun _ _ _ _ => (pe_op op_mod (pv 0) (pv 1)))))
    (pss_one (ps_ret (pe_comp [0, 2] ["p", "small"] rfl rfl ⟨rfl, rfl, trivial⟩ ⟨rfl, rfl, rfl, rfl, rfl, rfl, rfl, rfl, trivial⟩ rfl rfl (by decide) (by decide) rfl rfl (by decide) (pi_range1 rfl B.b_range (pa_cons (pv 0) pa_nil)) (fun _ _ _ _ => (pts_one (pt_cmpR op_eq (pe_op op_mod (pe_def d_worth_at hr rfl (pa_cons (pv 2) (pa_cons (pv 0) pa_nil))) (pv 1)) pe_int (nomark _)))) (fun _ _ _ _ => (pv 0))))))), ?_⟩
  (try dsimp only); (first | refine seqI ?_ | skip); try walk_at "dr1"; (try simp only [sp_worth_at]); try walk_at "dr1"
  refine ⟨⟨_, hS⟩, comp_mod hS hl (by ((try clear hl); omega)) rfl ?_⟩
  intro ls n_ls; generalize e_ls : upd _ ls _ = H1; obtain ⟨g1, k1⟩ := newH e_ls n_ls; clear e_ls
  have bs : Dr.PolyB (f.map (· % p)) 10 := fun c hc => by
    obtain ⟨x, _, rfl⟩ := List.mem_map.mp hc
    have := mod_in x (show 0 < p by ((try clear hl k1 n_ls); omega))
    exact sm_of 1000 (by ((try clear hl k1 n_ls); omega)) (by decide)
  refine ⟨by ((try clear hl k1 n_ls); omega), by ((try clear hl k1 n_ls); omega), ?_⟩
  obtain ⟨Pc, hPc⟩ : ∃ Pc : Nat → List V → Hp → Prop, ∀ i ys H2, Pc i ys H2 ↔ (H2 = H1 ∧ ys = (restsTo p f i).map V.int) := ⟨_, fun _ _ _ => Iff.rfl⟩
  refine compR Pc (by unfold sizeLine; ((try clear hl k1 n_ls); omega)) ((hPc _ _ _).mpr ⟨rfl, rfl⟩) ?_ ?_
  · intro i ys H2 hi z
    obtain ⟨rfl, rfl⟩ := (hPc _ _ _).mp z
    try (repeat (first | dsimp only [tSeq] | walk_at "dr1")); (try simp only [sp_worth_at]); try (repeat (first | dsimp only [tSeq] | walk_at "dr1"))
    refine ⟨_, SqL.of k1, by rw [List.length_map]; ((try clear hi hp k1 n_ls); omega), 10, bs, 10, sm_of 1000 (by ((try clear hl k1 n_ls); omega)) (by decide), by decide, by decide, by ((try clear hi hl k1 n_ls); omega), ?_⟩
    rw [Int.zero_add]
    by_cases w : Dr.pev f (i : Int) % p = 0
    · rw [if_pos ((pev_mods_iff f).mpr w)]
      exact (hPc _ _ _).mpr ⟨rfl, by rw [restsTo_succ, if_pos w, List.map_append]; rfl⟩
    · rw [if_neg fun z => w ((pev_mods_iff f).mp z)]
      exact (hPc _ _ _).mpr ⟨rfl, by rw [restsTo_succ, if_neg w, List.append_nil]⟩
  · intro ys H2 z
    obtain ⟨rfl, rfl⟩ := (hPc _ _ _).mp z
    intro r n_r; generalize e_r : upd _ r _ = H3; obtain ⟨g3, k3⟩ := newH e_r n_r; clear e_r
    exact q r H3 (g1.free n_r) (g1.trans g3) k3
noncomputable def Told (p : Int) (f : List Int) (a : Int) (Q : V → Prop) : Prop := (∀ (d : Nat) (u : Int), Dr.Single p f a d u → d ≤ 100000 → Q (.int (d : Int))) ∧ ((∀ (d : Nat) (u : Int), ¬ Dr.Single p f a d u) → Q .non)
noncomputable def sp_single_depth (K : PySem.W.Frag) : Sp := fun vs H Q _ => ∃ (p : Int) (b : Addr) (f : List Int) (a : Int) (m n : Nat), vs = [.int p, .ref b, .int a] ∧ SqL K H b (f.map V.int) ∧ (0 < f.length ∧ f.length ≤ 13) ∧ Dr.PolyB f m ∧ Dr.Sm a n ∧ (m ≤ 9000 ∧ n ≤ 1400) ∧ (2 ≤ p ∧ p < 1000) ∧ ∀ H', Same H H' → Told p f a (fun v => Q v H')
theorem ok_single_depth (B : Bi mg K) (d_depth_of : Def P w K mg base "depth_of" 1 ["p", "x"] (sp_depth_of K)) (d_power_of : Def P w K mg base "power_of" 1 ["p", "e"] (sp_power_of K)) (d_worth_at : Def P w K mg base "worth_at" 1 ["f", "x"] (sp_worth_at K)) (d_slope_of : Def P w K mg base "slope_of" 1 ["f"] (sp_slope_of K)) (F : Fun K "single_depth" "single_depth" s_single_depth f fd) : FnOk P w K mg base CX0 2 f fd ["p", "f", "a"] (sp_single_depth K) := by
  refine F.ok S_single_depth (fun vs H Q E h => ?_) (fun cdv A outer s H vs Q E hr h => ?_)
  · obtain ⟨p, b, f, a, m, n, rfl, _⟩ := h
    rfl
  obtain ⟨p, b, f, a, m, n, rfl, hS, hl, hf, ha, hmn, hp, q⟩ := h
  have S := S_single_depth
  refine ⟨_, ((pss_cons (ps_set (i := 3) S.nd rfl (Or.inl rfl) (pe_def d_worth_at hr rfl (pa_cons (pe_def d_slope_of hr rfl (pa_cons (pv 1) pa_nil)) (pa_cons (pv 2) pa_nil))))
    (pss_cons (ps_if (pt_cmpR op_eq (pv 3) pe_int (nomark _)) (pss_one (ps_ret pe_non)) pss_nil)
    (pss_cons (ps_set (i := 4) S.nd rfl (Or.inl rfl) (pe_def d_depth_of hr rfl (pa_cons (pv 0) (pa_cons (pv 3) pa_nil))))
    (pss_cons (ps_if (pt_cmpR op_ne (pe_op op_mod (pe_def d_worth_at hr rfl (pa_cons (pv 1) (pa_cons (pv 2) pa_nil))) (pe_def d_power_of hr rfl (pa_cons (pv 0) (pa_cons (pe_op op_add (pe_op op_mulW pe_int (pv 4)) pe_int) pa_nil)))) pe_int (nomark _)) (pss_one (ps_ret pe_non)) pss_nil)
    (pss_one (ps_ret (pv 4)))))))), ?_⟩
  (try dsimp only); (first | refine seqI ?_ | skip); try walk_at "dr1"; (try simp only [sp_depth_of, sp_power_of, sp_worth_at, sp_slope_of]); try walk_at "dr1"
  refine ⟨f, hS, by ((try clear hmn hp); omega), by ((try clear hmn hp); omega), m, hf, by ((try clear hl hp); omega), fun c H1 hsb _ g1 k1 => ?_⟩
  have sl : (Dr.pslope f).length ≤ 13 := by rw [Dr.pslope_len hl.1]; ((try clear hmn hp k1); omega)
  refine ⟨Dr.pslope f, SqL.of k1, by ((try clear hl hmn hp k1); omega), m + 6, hsb, n, ha, by ((try clear hl hp k1 sl); omega), by ((try clear hl hp k1 sl); omega), ?_⟩
  rw [Dr.pev_slope hl.1]
  have bd : Dr.Sm (Dr.pdv f a) 30000 := by
    rw [← Dr.pev_slope hl.1]
    refine (ha.pev hsb).mono ?_
    have : (Dr.pslope f).length * (n + 1) ≤ 13 * 1401 := Nat.mul_le_mul sl (by ((try clear hl hp k1 sl); omega))
    ((try clear hl hp k1 sl); omega)
  (try dsimp only); (first | refine seqI ?_ | skip); try walk_at "dr1"; (try simp only [sp_depth_of, sp_power_of, sp_worth_at, sp_slope_of]); try walk_at "dr1"
  refine ite2 (fun c0 => ?_) (fun c0 => ?_)
  · exact (q H1 g1).2 fun d u hs => hs.fac.ne hp.1 c0
  (try dsimp only); (first | refine seqI ?_ | skip); try walk_at "dr1"; (try simp only [sp_depth_of, sp_power_of, sp_worth_at, sp_slope_of]); try walk_at "dr1"
  refine ⟨hp.1, hp.2, c0, fun d u hd => ?_⟩
  have hd2 : d < 30000 := hd.depth_lt hp.1 bd
  (try dsimp only); (first | refine seqI ?_ | skip); try walk_at "dr1"; (try simp only [sp_depth_of, sp_power_of, sp_worth_at, sp_slope_of]); try walk_at "dr1"
  refine ⟨f, g1.seq hS, by ((try clear c0 hd2 hmn hp k1 sl); omega), m, hf, n, ha, by ((try clear c0 hd2 hl hp k1 sl); omega), by ((try clear c0 hd2 hl hp k1 sl); omega), IntMulOk.of_left (by decide), hp.1, hp.2, by ((try clear c0 hl hmn hp k1 sl); omega), by ((try clear c0 hl hmn hp k1 sl); omega), Dr.pow_pos hp.1 _, ?_⟩
  have e2 : (2 * (d : Int) + 1).toNat = 2 * d + 1 := by ((try clear c0 hl hmn hp k1 sl); omega)
  rw [e2]
  refine ite2 (fun c1 => ?_) (fun c1 => ?_)
  · refine (q H1 g1).2 fun d' u' hs => c1 ?_
    have := (hs.fac.uniq hp.1 hd).1
    rw [← this]
    exact hs.deep
  · exact (q H1 g1).1 d u ⟨hd, Decidable.byContradiction fun z => c1 z⟩ (by ((try clear c0 c1 e2 hl hmn hp k1 sl); omega))
noncomputable def sp_deepened (K : PySem.W.Frag) : Sp := fun vs H Q _ => ∃ (p : Int) (b : Addr) (f : List Int) (a N : Int) (d m n : Nat) (u : Int), vs = [.int p, .ref b, .int a, .int (d : Int), .int N] ∧ SqL K H b (f.map V.int) ∧ (0 < f.length ∧ f.length ≤ 13) ∧ p ∈ Dr.primes ∧ Dr.PolyB f m ∧ Dr.Sm a n ∧ (m ≤ 9000 ∧ n ≤ 1400) ∧ Dr.Single p f a d u ∧ Dr.Sm (p ^ d) 4000 ∧ ((d : Int) + 1 < N ∧ N ≤ 60) ∧
  ∀ (r : Int) (H' : Hp), Same H H' → Dr.Root p f a d N.toNat r → Q (.int r) H'
theorem ok_deepened (B : Bi mg K) (d_power_of : Def P w K mg base "power_of" 1 ["p", "e"] (sp_power_of K)) (d_inverse_of : Def P w K mg base "inverse_of" 2 ["p", "e", "x"] (sp_inverse_of K)) (d_worth_at : Def P w K mg base "worth_at" 1 ["f", "x"] (sp_worth_at K)) (d_slope_of : Def P w K mg base "slope_of" 1 ["f"] (sp_slope_of K)) (F : Fun K "deepened" "deepened" s_deepened f fd) : FnOk P w K mg base CX0 3 f fd ["p", "f", "a", "d", "N"] (sp_deepened K) := by
  refine F.ok S_deepened (fun vs H Q E h => ?_) (fun cdv A outer s H vs Q E hr h => ?_)
  · obtain ⟨p, b, f, a, N, d, m, n, u, rfl, _⟩ := h
    rfl
  obtain ⟨p, b, f, a, N, d, m, n, u, rfl, hS, hl, hpp, hf, ha, hmn, hs, bd, hN, q⟩ := h
  have S := S_deepened
  have p2 := Dr.primes_ge hpp
  have hp : 2 ≤ p ∧ p < 1000 := by ((try clear hN hl hmn); omega)
  refine ⟨_, ((pss_cons (ps_set (i := 5) S.nd rfl (Or.inl rfl) (pe_def d_power_of hr rfl (pa_cons (pv 0) (pa_cons (pe_op op_add (pv 3) pe_int) pa_nil))))
    (pss_cons (ps_set (i := 6) S.nd rfl (Or.inl rfl) (pe_def d_power_of hr rfl (pa_cons (pv 0) (pa_cons (pe_op op_add (pe_op op_mulW pe_int (pv 3)) pe_int) pa_nil))))
    (pss_cons (ps_set (i := 7) S.nd rfl (Or.inl rfl) (pe_op op_mod (pv 2) (pv 5)))
    (pss_cons (ps_set (i := 8) S.nd rfl (Or.inl rfl) (pe_def d_inverse_of hr rfl (pa_cons (pv 0) (pa_cons pe_int (pa_cons (pe_op op_fdivW (pe_def d_worth_at hr rfl (pa_cons (pe_def d_slope_of hr rfl (pa_cons (pv 1) pa_nil)) (pa_cons (pv 2) pa_nil))) (pe_def d_power_of hr rfl (pa_cons (pv 0) (pa_cons (pv 3) pa_nil)))) pa_nil)))))
    (pss_cons (ps_for PassesOwn.never rfl (pi_range2 rfl B.b_range (pa_cons (pe_op op_add (pv 3) pe_int) (pa_cons (pv 4) pa_nil))) (pg_name (i := 9) S.nd rfl (Or.inl rfl)) (pss_cons (ps_set (i := 10) S.nd rfl (Or.inl rfl) (pe_op op_mod (pe_op op_mulW (pe_un un_neg (pe_op op_fdivW (pe_def d_worth_at hr rfl (pa_cons (pv 1) (pa_cons (pv 7) pa_nil))) (pv 6))) (pv 8)) (pv 0)))
    (pss_cons (ps_set (i := 7) S.nd rfl (Or.inl rfl) (pe_op op_add (pv 7) (pe_op op_mulW (pv 10) (pv 5))))
    (pss_cons (ps_set (i := 5) S.nd rfl (Or.inl rfl) (pe_op op_mulW (pv 5) (pv 0)))
    (pss_one (ps_set (i := 6) S.nd rfl (Or.inl rfl) (pe_op op_mulW (pv 6) (pv 0))))))))
    (pss_one (ps_ret (pv 7))))))))), ?_⟩
  have bp : Dr.Sm p 10 := sm_of 1000 (by ((try clear hN hl hmn hp); omega)) (by decide)
  have pos : ∀ k : Nat, 0 < p ^ k := fun k => Dr.pow_pos hp.1 k
  (try dsimp only); (first | refine seqI ?_ | skip); try walk_at "dr1"; (try simp only [sp_power_of, sp_inverse_of, sp_worth_at, sp_slope_of]); try walk_at "dr1"
  refine ⟨hp.1, hp.2, by ((try clear hN hl hmn hp p2); omega), by ((try clear hl hmn hp p2); omega), ?_⟩
  rw [show ((d : Int) + 1).toNat = d + 1 by ((try clear hN hl hmn hp p2); omega)]
  (try dsimp only); (first | refine seqI ?_ | skip); try walk_at "dr1"; (try simp only [sp_power_of, sp_inverse_of, sp_worth_at, sp_slope_of]); try walk_at "dr1"
  refine ⟨IntMulOk.of_left (by decide), hp.1, hp.2, by ((try clear hN hl hmn hp p2); omega), by ((try clear hl hmn hp p2); omega), ?_⟩
  rw [show (2 * (d : Int) + 1).toNat = 2 * d + 1 by ((try clear hN hl hmn hp p2); omega)]
  (try dsimp only); (first | refine seqI ?_ | skip); try walk_at "dr1"; (try simp only [sp_power_of, sp_inverse_of, sp_worth_at, sp_slope_of]); try walk_at "dr1"
  refine ⟨pos _, ?_⟩
  (try dsimp only); (first | refine seqI ?_ | skip); try walk_at "dr1"; (try simp only [sp_power_of, sp_inverse_of, sp_worth_at, sp_slope_of]); try walk_at "dr1"
  refine ⟨f, hS, by ((try clear hN hmn hp p2); omega), by ((try clear hN hmn hp p2); omega), m, hf, by ((try clear hN hl hp p2); omega), fun c H1 hsb _ g1 k1 => ?_⟩
  have sl : (Dr.pslope f).length ≤ 13 := by rw [Dr.pslope_len hl.1]; ((try clear hN hmn hp k1 p2); omega)
  refine ⟨Dr.pslope f, SqL.of k1, by ((try clear hN hl hmn hp k1 p2); omega), m + 6, hsb, n, ha, by ((try clear hN hl hp k1 p2 sl); omega), by ((try clear hN hl hp k1 p2 sl); omega), hp.1, hp.2, by ((try clear hN hl hmn hp k1 p2 sl); omega), by ((try clear hl hmn hp k1 p2 sl); omega), ?_⟩
  rw [Dr.pev_slope hl.1, Int.toNat_natCast]
  have cdiv : ∀ {x : Int} {k : Nat}, 0 < x → Dr.Sm x k → k ≤ 8999 → ∀ y, CDivW y x := fun {x k} h1 h2 h3 y => ⟨h1, by
    have := (Nat.log2_lt (by ((try clear h3 hN hl hmn hp k1 p2 sl); omega))).mpr h2
    ((try clear h1 hN hl hmn hp k1 p2 sl); omega)⟩
  have bw : Dr.Sm (Dr.pdv f a) 30000 := by
    rw [← Dr.pev_slope hl.1]
    refine (ha.pev hsb).mono ?_
    have : (Dr.pslope f).length * (n + 1) ≤ 13 * 1401 := Nat.mul_le_mul sl (by ((try clear hN hl hp k1 p2 sl); omega))
    ((try clear hN hl hp k1 p2 sl); omega)
  have eu : Dr.pdv f a / p ^ d = u := hs.fac.div hp.1
  rw [eu]
  have bu : Builtin.Int.intBits u ≤ 2 ^ 22 := by
    refine Nat.le_trans (PyProof.Rows.intBits_le (k := 30000) ?_) (by decide)
    have h1 : u.natAbs ≤ (Dr.pdv f a).natAbs := by
      rw [hs.fac.1, Int.natAbs_mul]
      have := pos d
      exact Nat.le_mul_of_pos_right _ (by ((try clear eu hN hl hmn hp k1 p2 sl); omega))
    unfold Dr.Sm at bw
    ((try clear eu hN hl hmn hp k1 p2 sl); omega)
  refine ⟨cdiv (pos d) bd (by decide) _, hpp, bu, .inr hs.fac.2, fun y H2 hy g2 => ?_⟩
  have e1 : Int.toNat 1 = 1 := rfl
  rw [e1] at hy
  have hone : (u * y - 1) % p = 0 := by
    have := hy.one
    rwa [Int.pow_one] at this
  have hylo := hy.lo
  have hyhi : y < p := by have := hy.hi; rwa [Int.pow_one] at this
  (try dsimp only); (first | refine seqI ?_ | skip); try walk_at "dr1"; (try simp only [sp_power_of, sp_inverse_of, sp_worth_at, sp_slope_of]); try walk_at "dr1"
  refine ⟨by ((try clear bu e1 eu hN hl hmn hone hp hyhi hylo k1 p2 sl); omega), by ((try clear bu e1 eu hl hmn hone hp hyhi hylo k1 p2 sl); omega), by ((try clear bu e1 eu hl hmn hone hp hyhi hylo k1 p2 sl); omega), by ((try clear bu e1 eu hl hmn hone hp hyhi hylo k1 p2 sl); omega), ?_⟩
  have G2 := g1.trans g2
  obtain ⟨Pv, hPv⟩ : ∃ Pv : Nat → St → Hp → Prop, ∀ i σ H3, Pv i σ H3 ↔ (H3 = H2 ∧ ∃ (r : Int) (t9 t10 : Option V), Dr.Root p f a d (d + 1 + i) r ∧ σ = [some (.int p), some (.ref b), some (.int a), some (.int (d : Int)), some (.int N), some (.int (p ^ (d + 1 + i))), some (.int (p ^ (2 * d + 1 + i))), some (.int r), some (.int y), t9, t10]) := ⟨_, fun _ _ _ => Iff.rfl⟩
  refine forR Pv ((hPv _ _ _).mpr ⟨rfl, _, none, none, Dr.Root.start hp.1 hs, rfl⟩) ?_ ?_
  · intro i σ H3 hi z
    obtain ⟨rfl, r, t9, t10, hr, rfl⟩ := (hPv _ _ _).mp z
    have hi' : (d : Int) + 1 + i < N := by ((try clear bu e1 eu hl hmn hone hp hyhi hylo k1 p2 sl); omega)
    have br : Dr.Sm r 700 := by
      have h1 := hr.lo
      have h2 := hr.hi
      have h3 : Dr.Sm (p ^ (d + 1 + i)) 700 := (show Dr.Sm _ (10 * (d + 1 + i) + 1) from pow_bits hp _).mono (by ((try clear bu e1 eu h1 h2 hi hl hmn hone hp hyhi hylo k1 p2 sl); omega))
      unfold Dr.Sm at h3 ⊢
      ((try clear bu e1 eu hN hi hi' hl hmn hone hp hyhi hylo k1 p2 sl); omega)
    have e2 : p ^ (2 * d + 1 + i) = p ^ (d + 1 + i) * p ^ d := by rw [← Dr.pow_add']; congr 1; ((try clear bu e1 eu hN hi hi' hl hmn hone hp hyhi hylo k1 p2 sl); omega)
    have bwp : Dr.Sm (p ^ (2 * d + 1 + i)) 4700 := by
      rw [e2]
      exact ((show Dr.Sm (p ^ (d + 1 + i)) 700 from (show Dr.Sm _ (10 * (d + 1 + i) + 1) from pow_bits hp _).mono (by ((try clear bu e1 e2 eu hi hl hmn hone hp hyhi hylo k1 p2 sl); omega))).mul bd).mono (by decide)
    have st := hr.step hp.1 hs hone (by ((try clear bu e1 e2 eu hN hi hi' hl hmn hone hp hyhi hylo k1 p2 sl); omega))
    rw [show d + 1 + i + d = 2 * d + 1 + i by ((try clear bu e1 e2 eu hN hi hi' hl hmn hone hp hyhi hylo k1 p2 sl); omega)] at st
    (try dsimp only); (first | refine seqI ?_ | skip); try walk_at "dr1"; (try simp only [sp_power_of, sp_inverse_of, sp_worth_at, sp_slope_of]); try walk_at "dr1"
    refine ⟨f, G2.seq hS, by ((try clear bu e1 e2 eu hN hi hi' hmn hone hp hyhi hylo k1 p2 sl); omega), m, hf, 700, br, by ((try clear bu e1 e2 eu hN hi hi' hl hone hp hyhi hylo k1 p2 sl); omega), by decide, cdiv (pos _) bwp (by decide) _, IntMulOk.of_right (intBits_le_64 (by ((try clear bu e1 e2 eu hN hi hi' hl hmn hone hp hyhi k1 p2 sl); omega)) (by ((try clear bu e1 e2 eu hN hi hi' hl hmn hone hp hylo k1 sl); omega))), by ((try clear bu e1 e2 eu hN hi hi' hl hmn hone hp hyhi hylo k1 sl); omega), ?_⟩
    have ms := mod_in (-(Dr.pev f r / p ^ (2 * d + 1 + i)) * y) (show 0 < p by ((try clear bu e1 e2 eu hN hi hi' hl hmn hone hp hyhi hylo k1 sl); omega))
    generalize -(Dr.pev f r / p ^ (2 * d + 1 + i)) * y % p = s at ms st ⊢
    try (repeat (first | dsimp only [tSeq] | walk_at "dr1")); (try simp only [sp_power_of, sp_inverse_of, sp_worth_at, sp_slope_of]); try (repeat (first | dsimp only [tSeq] | walk_at "dr1"))
    exact ⟨IntMulOk.of_left (intBits_le_64 (by ((try clear bu e1 e2 eu hN hi hi' hl hmn hone hp hyhi hylo k1 p2 sl); omega)) (by ((try clear bu e1 e2 eu hN hi hi' hl hmn hone hp hyhi hylo k1 sl); omega))), IntMulOk.of_right (intBits_le_64 (by ((try clear bu e1 e2 eu hN hi hi' hl hmn hone hp hyhi hylo k1 ms sl); omega)) (by ((try clear bu e1 e2 eu hN hi hi' hl hmn hone hp hyhi hylo k1 ms sl); omega))), IntMulOk.of_right (intBits_le_64 (by ((try clear bu e1 e2 eu hN hi hi' hl hmn hone hp hyhi hylo k1 ms sl); omega)) (by ((try clear bu e1 e2 eu hN hi hi' hl hmn hone hp hyhi hylo k1 ms sl); omega))), (hPv _ _ _).mpr ⟨rfl, _, _, _, st, by rw [show d + 1 + (i + 1) = (d + 1 + i) + 1 by ((try clear bu e1 e2 eu hN hi hi' hl hmn hone hp hyhi hylo k1 ms p2 sl); omega), show 2 * d + 1 + (i + 1) = (2 * d + 1 + i) + 1 by ((try clear bu e1 e2 eu hN hi hi' hl hmn hone hp hyhi hylo k1 ms p2 sl); omega), Int.pow_succ, Int.pow_succ]⟩⟩
  · intro σ H3 z
    obtain ⟨rfl, r, t9, t10, hr, rfl⟩ := (hPv _ _ _).mp z
    try (repeat (first | dsimp only [tSeq] | walk_at "dr1")); (try simp only [sp_power_of, sp_inverse_of, sp_worth_at, sp_slope_of]); try (repeat (first | dsimp only [tSeq] | walk_at "dr1"))
    rw [show d + 1 + (N - ((d : Int) + 1)).toNat = N.toNat by ((try clear bu e1 eu hl hmn hone hp hyhi hylo k1 p2 sl); omega)] at hr
    exact q r H3 G2 hr
noncomputable def sp_root_of (K : PySem.W.Frag) : Sp := fun vs H Q E => ∃ (p : Int) (b : Addr) (f : List Int) (a N : Int) (m n : Nat), vs = [.int p, .ref b, .int a, .int N] ∧ SqL K H b (f.map V.int) ∧ (0 < f.length ∧ f.length ≤ 13) ∧ p ∈ Dr.primes ∧ Dr.PolyB f m ∧ Dr.Sm a n ∧ (m ≤ 9000 ∧ n ≤ 1400) ∧ ((m ≤ 1000 ∧ n ≤ 200) ∨ ¬ Dr.pdv f a % p = 0 ∨ ∀ (d : Nat) (u : Int), Dr.Single p f a d u → Dr.Sm (p ^ d) 4000) ∧ (0 ≤ N ∧ N ≤ 60) ∧ ∀ H', Same H H' →
  (∀ (d : Nat) (u : Int), Dr.Single p f a d u → (N ≤ (d : Int) + 1 → Q (.int (a % p ^ N.toNat)) H') ∧ ((d : Int) + 1 < N → ∀ r : Int, Dr.Root p f a d N.toNat r → Q (.int r) H')) ∧ ((∀ (d : Nat) (u : Int), ¬ Dr.Single p f a d u) → E (.ref (clK K "NoSingle")) none H')
theorem single_sm {p : Int} {f : List Int} {a u : Int} {d m n : Nat} (hp : 2 ≤ p) (hl : 0 < f.length ∧ f.length ≤ 13) (hf : Dr.PolyB f m) (ha : Dr.Sm a n) (hmn : m ≤ 9000 ∧ n ≤ 1400) (hmu : (m ≤ 1000 ∧ n ≤ 200) ∨ ¬ Dr.pdv f a % p = 0 ∨ ∀ (d : Nat) (u : Int), Dr.Single p f a d u → Dr.Sm (p ^ d) 4000) (hs : Dr.Single p f a d u) : Dr.Sm (p ^ d) 4000 := by
  rcases hmu with hm | hu | hu
  case inr.inr => exact hu d u hs
  case inr.inl =>
    have d0 : d = 0 := by
      have := (hs.fac.dvd hp 1).mp
      refine Decidable.byContradiction fun z => hu ?_
      have := (hs.fac.dvd hp 1).mpr (by ((try clear hl hmn hp hu); omega))
      rwa [Int.pow_succ, Int.pow_zero, Int.one_mul] at this
    rw [d0, Int.pow_zero]
    exact sm_of 1 (by decide) (Nat.one_lt_two_pow (by decide))
  have bw : Dr.Sm (Dr.pdv f a) 4000 := by
    rw [← Dr.pev_slope hl.1]
    have sl : (Dr.pslope f).length ≤ 12 := by rw [Dr.pslope_len hl.1]; ((try clear hm hmn hp); omega)
    refine (ha.pev (slope_b ⟨hl.1, by ((try clear hm hmn hp sl); omega)⟩ hf)).mono ?_
    have : (Dr.pslope f).length * (n + 1) ≤ 12 * 201 := Nat.mul_le_mul sl (by ((try clear hl hp sl); omega))
    ((try clear hl hp sl); omega)
  have := hs.fac.pow_le hp
  unfold Dr.Sm at bw ⊢
  ((try clear hl hm hmn hp); omega)
theorem ok_root_of (B : Bi mg K) (d_power_of : Def P w K mg base "power_of" 1 ["p", "e"] (sp_power_of K)) (d_single_depth : Def P w K mg base "single_depth" 2 ["p", "f", "a"] (sp_single_depth K)) (d_deepened : Def P w K mg base "deepened" 3 ["p", "f", "a", "d", "N"] (sp_deepened K)) (F : Fun K "root_of" "root_of" s_root_of f fd) : FnOk P w K mg base (CXE P w) 4 f fd ["p", "f", "a", "N"] (sp_root_of K) := by
  refine F.okE S_root_of (fun vs H Q E h => ?_) (fun cdv A outer s H vs Q E hr h => ?_)
  · obtain ⟨p, b, f, a, N, m, n, rfl, _⟩ := h
    rfl
  obtain ⟨p, b, f, a, N, m, n, rfl, hS, hl, hpp, hf, ha, hmn, hmu, hN, q⟩ := h
  have S := S_root_of
  have p2 := Dr.primes_ge hpp
  have hp : 2 ≤ p ∧ p < 1000 := by ((try clear hN hl hmn hmu); omega)
  refine ⟨_, ((pss_cons (ps_set (i := 4) S.nd rfl (Or.inl rfl) (pe_def d_single_depth hr rfl (pa_cons (pv 0) (pa_cons (pv 1) (pa_cons (pv 2) pa_nil)))))
    (pss_cons (ps_if (pt_cmpR op_isN (pv 4) pe_non (nomark _)) (pss_one (ps_raise thrE rfl rfl B.c_NoSingle B.x_NoSingle (pa_cons pe_str pa_nil))) pss_nil)
    (pss_cons (ps_if (pt_cmpR op_le (pv 3) (pe_op op_add (pv 4) pe_int) (nomark _)) (pss_one (ps_ret (pe_op op_mod (pv 2) (pe_def d_power_of hr rfl (pa_cons (pv 0) (pa_cons (pv 3) pa_nil)))))) pss_nil)
    (pss_one (ps_ret (pe_def d_deepened hr rfl (pa_cons (pv 0) (pa_cons (pv 1) (pa_cons (pv 2) (pa_cons (pv 4) (pa_cons (pv 3) pa_nil)))))))))))), ?_⟩
  (try dsimp only); (first | refine seqI ?_ | skip); try walk_at "dr1"; (try simp only [sp_power_of, sp_single_depth, sp_deepened]); try walk_at "dr1"
  refine ⟨f, hS, by ((try clear hN hmn hmu hp p2); omega), by ((try clear hN hmn hmu hp p2); omega), m, hf, n, ha, by ((try clear hN hl hmu hp p2); omega), by ((try clear hN hl hmu hp p2); omega), hp.1, hp.2, fun H1 g1 => ⟨fun d u hd hd1 => ?_, fun hno => ?_⟩⟩
  · (try dsimp only); (first | refine seqI ?_ | skip); try walk_at "dr1"; (try simp only [sp_power_of, sp_single_depth, sp_deepened]); try walk_at "dr1"
    (try dsimp only); (first | refine seqI ?_ | skip); try walk_at "dr1"; (try simp only [sp_power_of, sp_single_depth, sp_deepened]); try walk_at "dr1"
    refine ite2 (fun c0 => ?_) (fun c0 => ?_)
    · exact ⟨hp.1, hp.2, by ((try clear c0 hd1 hl hmn hmu hp p2); omega), by ((try clear c0 hd1 hl hmn hmu hp p2); omega), Dr.pow_pos hp.1 _, ((q H1 g1).1 d u hd).1 c0⟩
    · exact ⟨f, N, d, rfl, rfl, g1.seq hS, by ((try clear c0 hN hd1 hmn hmu hp p2); omega), by ((try clear c0 hN hd1 hmn hmu hp p2); omega), hpp, m, hf, n, ha, by ((try clear c0 hN hd1 hl hmu hp p2); omega), by ((try clear c0 hN hd1 hl hmu hp p2); omega), ⟨u, hd⟩, single_sm hp.1 hl hf ha hmn hmu hd, by ((try clear hN hd1 hl hmn hmu hp p2); omega), by ((try clear c0 hd1 hl hmn hmu hp p2); omega), fun r H2 g2 hr => ((q H2 (g1.trans g2)).1 d u hd).2 (by ((try clear hN hd1 hl hmn hmu hp p2); omega)) r hr⟩
  · (try dsimp only); (first | refine seqI ?_ | skip); try walk_at "dr1"; (try simp only [sp_power_of, sp_single_depth, sp_deepened]); try walk_at "dr1"
    exact ⟨by decide, (q H1 g1).2 hno⟩
noncomputable def spN_roots_within (K : PySem.W.Frag) (n : Nat) : Sp := fun vs H Q E => ∃ (p a e' N' : Int) (e N : Nat) (b : Addr) (s : List Int) (m : Nat), vs = [.int p, .int a, .int e', .ref b, .int N'] ∧ e' = (e : Int) ∧ N' = (N : Int) ∧ SqL K H b (s.map V.int) ∧ (0 < s.length ∧ s.length ≤ 13) ∧ p ∈ Dr.primes ∧ (0 ≤ a ∧ a < p ^ e) ∧ (e + n = 60 ∧ N ≤ 60) ∧ Dr.PolyB s m ∧ m + 104 * n ≤ 8800 ∧
  ((∀ x, x ∈ s → x = 0) → 0 < n → ∀ H', Same H H' → E (.ref (clK K "NoDepth")) none H') ∧ (Dr.Deep p n s → (0 < n → ∃ x, x ∈ s ∧ x ≠ 0) → ∀ H', Same H H' → E (.ref (clK K "TooDeep")) none H') ∧
  ∀ (c : Addr) (L : List Int) (H' : Hp), Dr.Found p N n a e s L → H c = none → Same H H' → H' c = some (.lst (L.map V.int)) → Q (.ref c) H'
noncomputable abbrev sp_roots_within (K : PySem.W.Frag) : Sp := spN_roots_within K 60
theorem fl_few {p a : Int} {N n e : Nat} {s : List Int} {c : Nat} {rs L : List Int} (hp : p ∈ Dr.primes) (hc : Dr.IsCont p s c) (fl : Dr.FL p N (Dr.Found p N n) a e (Dr.pdiv (p ^ c) s) rs L) (hr : ∀ r, r ∈ rs → Dr.pev (Dr.pdiv (p ^ c) s) r % p = 0) (ap : rs.Pairwise fun r s => (s - r) % p ≠ 0) : L.length < s.length := by
  have p2 := Dr.primes_ge hp
  obtain ⟨m, hl, hm⟩ := Dr.degP_ex _ (Dr.cont_free hc)
  obtain ⟨R, e1, e2, e3⟩ := Dr.FL.len (by ((try clear hl); omega)) (fun h => Dr.Found.len hp h) fl hr
  have := Dr.noughts hp m _ R hm (by rw [e1]; exact ap) e3
  rw [Dr.pdiv_len] at hl
  ((try clear e1 p2); omega)
theorem rootAt_small {p x : Int} {g : List Int} {M : Nat} (hp : 2 ≤ p) (hM : M ≤ 1) (h : Dr.pev g x % p = 0) : Dr.RootAt p g x M (x % p ^ M) := by
  have q0 := Dr.pow_pos hp M
  have e1 := Dr.rest_sub (p ^ M) x
  have hw : Dr.pev g x % p ^ M = 0 := Dr.dvd_of_le (p := p) (k := 1) (by rw [Int.pow_succ, Int.pow_zero, Int.one_mul]; exact h) hM
  refine ⟨Int.emod_nonneg _ (by ((try clear e1 h hM hp hw); omega)), Int.emod_lt_of_pos _ q0, ?_, ?_⟩
  · by_cases c : M = 0
    · exact .inl c
    · obtain rfl : M = 1 := by ((try clear e1 h hp hw q0); omega)
      rw [Int.pow_succ, Int.pow_zero, Int.one_mul] at e1 ⊢
      exact .inr e1
  · have := Dr.dvd_add_of (Dr.pev_cong g e1) hw
    rwa [Int.sub_add_cancel] at this
theorem rootAt_of {p x r : Int} {g : List Int} {M : Nat} (h : Dr.Root p g x 0 M r) : Dr.RootAt p g x M r := by
  have n := h.near
  rw [Nat.zero_add, Int.pow_succ, Int.pow_zero, Int.one_mul] at n
  exact ⟨h.lo, h.hi, .inr n, h.deep⟩
theorem ok_roots_within (B : Bi mg K) (d_power_of : Def P w K mg base "power_of" 1 ["p", "e"] (sp_power_of K)) (d_worth_at : Def P w K mg base "worth_at" 1 ["f", "x"] (sp_worth_at K)) (d_slope_of : Def P w K mg base "slope_of" 1 ["f"] (sp_slope_of K)) (d_seen_from : Def P w K mg base "seen_from" 2 ["p", "f", "a", "e"] (sp_seen_from K)) (d_without_content : DefE P w K mg base "without_content" 3 ["p", "f"] (sp_without_content K)) (d_rests_by_prime : Def P w K mg base "rests_by_prime" 2 ["p", "f"] (sp_rests_by_prime K)) (d_root_of : DefE P w K mg base "root_of" 4 ["p", "f", "a", "N"] (sp_root_of K)) {n : Nat} (d_roots_within : DefE P w K mg base "roots_within" (4 + n) ["p", "a", "e", "seen", "N"] (prevSp (spN_roots_within K) n)) (F : Fun K "roots_within" "roots_within" s_roots_within f fd) : FnOk P w K mg base (CXE P w) (4 + n + 1) f fd ["p", "a", "e", "seen", "N"] (spN_roots_within K n) := by
  refine F.okE S_roots_within (fun vs H Q E h => ?_) (fun cdv A outer s H vs Q E hr h => ?_)
  · obtain ⟨p, a, e', N', e, N, b, s, m, rfl, _⟩ := h
    rfl
  obtain ⟨p, a, e', N', e, N, b, s, m, rfl, rfl, rfl, hS, hl, hp, ha, heN, hb, hm, qz, qd, q⟩ := h
  have S := S_roots_within
  obtain ⟨_, g_GREATEST_DEPTH⟩ := B.g_GREATEST_DEPTH
  have p2 := Dr.primes_ge hp
  have hpp : 2 ≤ p ∧ p < 1000 := by ((try clear g_GREATEST_DEPTH ha heN hl hm); omega)
  refine ⟨_, ((pss_cons (ps_if (pt_cmpR op_eq (pv 2) (pe_glob (v := .int 60) rfl g_GREATEST_DEPTH ⟨_, rfl⟩) (nomark _)) (pss_one (ps_raise thrE rfl rfl B.c_TooDeep B.x_TooDeep (pa_cons pe_str pa_nil))) pss_nil)
    (pss_cons (ps_set (i := 5) S.nd rfl (Or.inl rfl) (pe_defE passE d_without_content hr rfl (pa_cons (pv 0) (pa_cons (pv 3) pa_nil)) (hjk := by ((try clear g_GREATEST_DEPTH ha hl hm hpp p2); omega))))
    (pss_cons (ps_set (i := 6) S.nd rfl (Or.inl rfl) (pe_def d_slope_of hr rfl (pa_cons (pv 5) pa_nil) (hjk := by ((try clear g_GREATEST_DEPTH ha hl hm hpp p2); omega))))
    (pss_cons (ps_set (i := 7) S.nd rfl (Or.inl rfl) (pe_def d_power_of hr rfl (pa_cons (pv 0) (pa_cons (pv 2) pa_nil)) (hjk := by ((try clear g_GREATEST_DEPTH ha hl hm hpp p2); omega))))
    (pss_cons (ps_set (i := 8) S.nd rfl (Or.inl rfl) (pe_lst pa_nil))
    (pss_cons (ps_for PassesOwn.leaving rfl (pi_list (pe_def d_rests_by_prime hr rfl (pa_cons (pv 0) (pa_cons (pv 5) pa_nil)) (hjk := by ((try clear g_GREATEST_DEPTH ha hl hm hpp p2); omega)))) (pg_name (i := 9) S.nd rfl (Or.inl rfl)) (pss_one (ps_if (pt_cmpR op_eq (pe_op op_mod (pe_def d_worth_at hr rfl (pa_cons (pv 6) (pa_cons (pv 9) pa_nil)) (hjk := by ((try clear g_GREATEST_DEPTH ha hl hm hpp p2); omega))) (pv 0)) pe_int (nomark _)) (pss_one (ps_expr (pe_bm PySem.F.plainAttrs_list PySem.F.slot_list_extend PySem.F.type_list_extend mt_extend (pv 8) (pa_cons (pe_defE passE d_roots_within hr rfl (pa_cons (pv 0) (pa_cons (pe_op op_add (pv 1) (pe_op op_mulW (pv 9) (pv 7))) (pa_cons (pe_op op_add (pv 2) pe_int) (pa_cons (pe_def d_seen_from hr rfl (pa_cons (pv 0) (pa_cons (pv 5) (pa_cons (pv 9) (pa_cons pe_int pa_nil)))) (hjk := by ((try clear g_GREATEST_DEPTH ha hl hm hpp p2); omega))) (pa_cons (pv 4) pa_nil))))) (hjk := by ((try clear g_GREATEST_DEPTH ha heN hl hm hpp p2); omega))) pa_nil)))) (pss_cons (ps_set (i := 10) S.nd rfl (Or.inl rfl) (pe_op op_add (pv 1) (pe_op op_mulW (pv 7) (pe_defE passE d_root_of hr rfl (pa_cons (pv 0) (pa_cons (pv 5) (pa_cons (pv 9) (pa_cons (pe_callB (call_max2 rfl) rfl B.b_max L2.bt_max (pa_cons (pe_op op_sub (pv 4) (pv 2)) (pa_cons pe_int pa_nil))) pa_nil)))) (hjk := by ((try clear g_GREATEST_DEPTH ha hl hm hpp p2); omega))))))
    (pss_one (ps_expr (pe_bm PySem.F.plainAttrs_list PySem.F.slot_list_append PySem.F.type_list_append mt_append (pv 8) (pa_cons (pe_op op_mod (pv 10) (pe_def d_power_of hr rfl (pa_cons (pv 0) (pa_cons (pv 4) pa_nil)) (hjk := by ((try clear g_GREATEST_DEPTH ha hl hm hpp p2); omega)))) pa_nil))))))))
    (pss_one (ps_ret (pv 8)))))))))), ?_⟩
  (try dsimp only); (first | refine seqI ?_ | skip); try walk_at "dr1"; (try simp only [sp_power_of, sp_worth_at, sp_slope_of, sp_seen_from, sp_without_content, sp_rests_by_prime, sp_root_of]); try walk_at "dr1"
  refine ite2 (fun c0 => ?_) (fun c0 => ?_)
  · obtain rfl : n = 0 := by ((try clear g_GREATEST_DEPTH ha hl hm hpp p2); omega)
    exact ⟨by decide, qd trivial (fun z => absurd z (by ((try clear c0 g_GREATEST_DEPTH ha heN hl hm hpp p2); omega))) H (Same.refl _)⟩
  obtain ⟨n', rfl⟩ : ∃ n', n = n' + 1 := ⟨n - 1, by ((try clear g_GREATEST_DEPTH ha hl hm hpp p2); omega)⟩
  (try dsimp only); (first | refine seqI ?_ | skip); try walk_at "dr1"; (try simp only [sp_power_of, sp_worth_at, sp_slope_of, sp_seen_from, sp_without_content, sp_rests_by_prime, sp_root_of]); try walk_at "dr1"
  refine ⟨s, hS, by ((try clear c0 g_GREATEST_DEPTH ha heN hm hpp p2); omega), hpp.1, hpp.2, m, hb, by ((try clear c0 g_GREATEST_DEPTH ha hl hpp p2); omega), fun z H1 g1 => qz z (by ((try clear c0 g_GREATEST_DEPTH ha hl hm hpp p2); omega)) H1 g1, fun hnz c r H1 hc nr g1 k1 => ?_⟩
  have q0 := Dr.pow_pos hpp.1 c
  have bfr := Dr.pdiv_bits q0 hc.1 hb
  have lfr : (Dr.pdiv (p ^ c) s).length = s.length := Dr.pdiv_len ..
  (try dsimp only); (first | refine seqI ?_ | skip); try walk_at "dr1"; (try simp only [sp_power_of, sp_worth_at, sp_slope_of, sp_seen_from, sp_without_content, sp_rests_by_prime, sp_root_of]); try walk_at "dr1"
  refine ⟨_, SqL.of k1, by ((try clear c0 g_GREATEST_DEPTH ha heN hm hpp k1 nr p2 q0); omega), by ((try clear c0 g_GREATEST_DEPTH ha heN hm hpp k1 nr p2 q0); omega), m, bfr, by ((try clear c0 g_GREATEST_DEPTH ha hl hpp k1 lfr nr p2 q0); omega), fun ls H2 hsb _ g2 k2 => ?_⟩
  (try dsimp only); (first | refine seqI ?_ | skip); try walk_at "dr1"; (try simp only [sp_power_of, sp_worth_at, sp_slope_of, sp_seen_from, sp_without_content, sp_rests_by_prime, sp_root_of]); try walk_at "dr1"
  refine ⟨hpp.1, hpp.2, by ((try clear c0 g_GREATEST_DEPTH ha hl hm hpp k1 k2 lfr nr p2 q0); omega), by ((try clear c0 g_GREATEST_DEPTH ha hl hm hpp k1 k2 lfr nr p2 q0); omega), ?_⟩
  rw [Int.toNat_natCast]
  (try dsimp only); (first | refine seqI ?_ | skip); try walk_at "dr1"; (try simp only [sp_power_of, sp_worth_at, sp_slope_of, sp_seen_from, sp_without_content, sp_rests_by_prime, sp_root_of]); try walk_at "dr1"
  refine ⟨by decide, ?_⟩
  intro lb n_lb; generalize e_lb : upd _ lb _ = H4; obtain ⟨g4, k4⟩ := newH e_lb n_lb; clear e_lb
  have G4 := (g1.trans g2).trans g4
  (try dsimp only); (first | refine seqI ?_ | skip); try walk_at "dr1"; (try simp only [sp_power_of, sp_worth_at, sp_slope_of, sp_seen_from, sp_without_content, sp_rests_by_prime, sp_root_of]); try walk_at "dr1"
  refine ⟨_, SqL.of (g4 _ _ (g2 _ _ k1)), by ((try clear c0 g_GREATEST_DEPTH ha heN hm hpp k1 k2 k4 n_lb nr p2 q0); omega), hpp.1, hpp.2, fun rr H5 nrr g5 k5 => ?_⟩
  have G5 := G4.trans g5
  have kr := g5 _ _ (g4 _ _ (g2 _ _ k1))
  have ks := g5 _ _ (g4 _ _ k2)
  have klb := g5 _ _ k4
  have nlb : H lb = none := (g1.trans g2).free n_lb
  have nrlb : r ≠ lb := fun z => by rw [z] at k1; rw [g2 _ _ k1] at n_lb; cases n_lb
  have nslb : ls ≠ lb := fun z => by rw [z, n_lb] at k2; cases k2
  have nrrlb : rr ≠ lb := fun z => by rw [z, k4] at nrr; cases nrr
  obtain ⟨fr, efr⟩ : ∃ fr, fr = Dr.pdiv (p ^ c) s := ⟨_, rfl⟩
  obtain ⟨rs, ers⟩ : ∃ rs, rs = restsOf p fr := ⟨_, rfl⟩
  rw [← efr] at kr ks k5 bfr lfr hsb
  rw [← ers] at k5
  have hrs : ∀ x, x ∈ rs → (0 ≤ x ∧ x < p) ∧ Dr.pev fr x % p = 0 := fun x hx => by
    rw [ers] at hx
    exact (Dr.restsP_mem (by ((try clear c0 efr ers g_GREATEST_DEPTH ha heN hl hm hpp k1 k2 k4 k5 klb kr ks lfr n_lb nlb nr nrlb nrr nrrlb nslb q0); omega))).mp hx
  have hap : rs.Pairwise (fun r s => (s - r) % p ≠ 0) := by
    rw [ers]
    exact Dr.rests_apart _ (by ((try clear c0 efr ers g_GREATEST_DEPTH ha heN hl hm hpp k1 k2 k4 k5 klb kr ks lfr n_lb nlb nr nrlb nrr nrrlb nslb q0); omega))
  have fr0 : ∃ x, x ∈ fr ∧ x ≠ 0 := by
    obtain ⟨x, hx, x0⟩ := Dr.cont_free hc
    rw [← efr] at hx
    exact ⟨x, hx, fun z => x0 (by rw [z]; simp)⟩
  have sll : (Dr.pslope fr).length ≤ 13 := by rw [Dr.pslope_len (by ((try clear c0 efr ers g_GREATEST_DEPTH ha heN hm hpp k1 k2 k4 k5 klb kr ks n_lb nlb nr nrlb nrr nrrlb nslb p2 q0); omega))]; ((try clear c0 efr ers g_GREATEST_DEPTH ha heN hm hpp k1 k2 k4 k5 klb kr ks n_lb nlb nr nrlb nrr nrrlb nslb p2 q0); omega)
  clear k1 k2 k4 g4 g5 g2 g1
  refine ⟨⟨_, SqL.of k5⟩, ?_⟩
  obtain ⟨Pv, hPv⟩ : ∃ Pv : Nat → St → Hp → Prop, ∀ i σ H6, Pv i σ H6 ↔ ((∀ b u, b ≠ lb → H5 b = some u → H6 b = some u) ∧ ∃ (L : List Int) (t9 t10 : Option V), H6 lb = some (.lst (L.map V.int)) ∧ Dr.FL p N (Dr.Found p N n') a e fr (rs.take i) L ∧ σ = [some (V.int p), some (V.int a), some (V.int ↑e), some (V.ref b), some (V.int ↑N), some (V.ref r), some (V.ref ls), some (V.int (p ^ e)), some (V.ref lb), t9, t10]) := ⟨_, fun _ _ _ => Iff.rfl⟩
  refine forI rs Pv ((hPv _ _ _).mpr ⟨fun b u _ h => h, [], none, none, klb, by rw [List.take_zero]; exact .nil, rfl⟩) (fun i σ H6 z => by obtain ⟨k6, _⟩ := (hPv _ _ _).mp z; exact SqL.of (k6 _ _ nrrlb k5)) ?_ ?_
  · intro i x σ H6 hx z
    obtain ⟨k6, L, t9, t10, kb, fl, rfl⟩ := (hPv _ _ _).mp z
    obtain ⟨hx1, hx2⟩ := hrs x (List.mem_of_getElem? hx)
    have e1 : p ^ Int.toNat 1 = p := by show p ^ 1 = p; rw [Int.pow_succ, Int.pow_zero, Int.one_mul]
    have tk : rs.take (i + 1) = rs.take i ++ [x] := by rw [List.take_add_one, hx]; rfl
    have few := fl_few hp hc (efr ▸ fl) (fun y hy => efr ▸ (hrs y (List.mem_of_mem_take hy)).2) (hap.sublist (List.take_sublist ..))
    have bx : Dr.Sm x 11 := sm_of 1000 (by ((try clear c0 efr ers few g_GREATEST_DEPTH ha heN hl hm hpp hx hx2 k5 kb klb kr ks lfr n_lb nlb nr nrlb nrr nrrlb nslb q0 sll tk); omega)) (by decide)
    have GH : Same H H6 := fun b u hb => k6 b u (fun z => by rw [z, nlb] at hb; cases hb) (G5 b u hb)
    (try dsimp only); (first | refine seqI ?_ | skip); try walk_at "dr1"; (try simp only [sp_power_of, sp_worth_at, sp_slope_of, sp_seen_from, sp_without_content, sp_rests_by_prime, sp_root_of]); try walk_at "dr1"
    refine ⟨Dr.pslope fr, SqL.of (k6 _ _ nslb ks), by ((try clear c0 e1 efr ers few g_GREATEST_DEPTH ha heN hl hm hpp hx hx1 hx2 k5 kb klb kr ks lfr n_lb nlb nr nrlb nrr nrrlb nslb p2 q0 tk); omega), m + 6, hsb, 11, bx, by ((try clear c0 e1 efr ers few g_GREATEST_DEPTH ha hl hpp hx hx1 hx2 k5 kb klb kr ks lfr n_lb nlb nr nrlb nrr nrrlb nslb p2 q0 sll tk); omega), by decide, by ((try clear c0 efr ers few g_GREATEST_DEPTH ha heN hl hm hpp hx hx1 hx2 k5 kb klb kr ks lfr n_lb nlb nr nrlb nrr nrrlb nslb q0 sll tk); omega), ?_⟩
    rw [Dr.pev_slope (by ((try clear c0 e1 efr ers few g_GREATEST_DEPTH ha heN hm hpp hx hx1 hx2 k5 kb klb kr ks n_lb nlb nr nrlb nrr nrrlb nslb p2 q0 sll tk); omega))]
    refine ite2 (fun ck => ?_) (fun ck => ?_)
    · refine ⟨⟨_, SqL.of kb⟩, IntMulOk.of_left (intBits_le_64 (by ((try clear c0 ck e1 efr ers few g_GREATEST_DEPTH ha heN hl hm hpp hx hx2 k5 kb klb kr ks lfr n_lb nlb nr nrlb nrr nrrlb nslb p2 q0 sll tk); omega)) (by ((try clear c0 ck efr ers few g_GREATEST_DEPTH ha heN hl hm hpp hx hx2 k5 kb klb kr ks lfr n_lb nlb nr nrlb nrr nrrlb nslb q0 sll tk); omega))), fr, SqL.of (k6 _ _ nrlb kr), by ((try clear c0 ck e1 efr ers few g_GREATEST_DEPTH ha heN hm hpp hx hx1 hx2 k5 kb klb kr ks n_lb nlb nr nrlb nrr nrrlb nslb p2 q0 sll tk); omega), by ((try clear c0 ck e1 efr ers few g_GREATEST_DEPTH ha heN hm hpp hx hx1 hx2 k5 kb klb kr ks n_lb nlb nr nrlb nrr nrrlb nslb p2 q0 sll tk); omega), hpp.1, hpp.2, m, bfr, 11, bx, by decide, by decide, by ((try clear c0 ck e1 efr ers few g_GREATEST_DEPTH ha hl hpp hx hx1 hx2 k5 kb klb kr ks lfr n_lb nlb nr nrlb nrr nrrlb nslb p2 q0 sll tk); omega), fun c3 s1 H7 hs1 _ nc g7 k7 => ?_⟩
      rw [e1] at hs1
      have hsl := hs1.len
      rw [prevSp]
      have s1n := Dr.seen_ne (by ((try clear c0 ck efr ers few g_GREATEST_DEPTH ha heN hl hm hpp hsl hx hx1 hx2 k5 k7 kb klb kr ks lfr n_lb nc nlb nr nrlb nrr nrrlb nslb q0 sll tk); omega)) hs1 fr0
      refine ⟨p, a + x * p ^ e, (e : Int) + 1, (N : Int), e + 1, N, c3, s1, m + 8 * fr.length, rfl, by ((try clear c0 ck e1 efr ers few g_GREATEST_DEPTH ha heN hl hm hpp hsl hx hx1 hx2 k5 k7 kb klb kr ks lfr n_lb nc nlb nr nrlb nrr nrrlb nslb p2 q0 sll tk); omega), rfl, SqL.of k7, by ((try clear c0 ck e1 efr ers few g_GREATEST_DEPTH ha heN hm hpp hx hx1 hx2 k5 k7 kb klb kr ks n_lb nc nlb nr nrlb nrr nrrlb nslb p2 q0 sll tk); omega), hp, Dr.ball_next hpp.1 ha hx1, by ((try clear c0 ck e1 efr ers few g_GREATEST_DEPTH ha hl hm hpp hsl hx hx1 hx2 k5 k7 kb klb kr ks lfr n_lb nc nlb nr nrlb nrr nrrlb nslb p2 q0 sll tk); omega), Dr.seen_bits hs1 (by ((try clear c0 ck efr ers few g_GREATEST_DEPTH ha heN hl hm hpp hsl hx hx2 k5 k7 kb klb kr ks lfr n_lb nc nlb nr nrlb nrr nrrlb nslb q0 sll tk); omega)) (by ((try clear c0 ck efr ers few g_GREATEST_DEPTH ha heN hl hm hpp hsl hx hx1 hx2 k5 k7 kb klb kr ks lfr n_lb nc nlb nr nrlb nrr nrrlb nslb q0 sll tk); omega)) bfr, by ((try clear c0 ck e1 efr ers few g_GREATEST_DEPTH ha heN hpp hx hx1 hx2 k5 k7 kb klb kr ks n_lb nc nlb nr nrlb nrr nrrlb nslb p2 q0 sll tk); omega), fun z => ?_, fun hd _ H8 g8 => qd ⟨c, x, s1, hc, hx1, efr ▸ hx2, efr ▸ ck, efr ▸ hs1, hd⟩ (fun _ => hnz) H8 (GH.trans (g7.trans g8)), fun c2 L2 H8 hf nc2 g8 k8 => ?_⟩
      · obtain ⟨y, hy, y0⟩ := s1n
        exact absurd (z y hy) y0
      · have kb8 := g8 _ _ (g7 _ _ kb)
        have l2 := hf.few hp
        refine ⟨c2, rfl, _, kb8, _, k8, by rw [List.length_map, List.length_map]; unfold sizeLine; ((try clear c0 ck e1 efr ers g_GREATEST_DEPTH ha heN hm hpp hx hx1 hx2 k5 k7 k8 kb kb8 klb kr ks n_lb nc nc2 nlb nr nrlb nrr nrrlb nslb p2 q0 sll tk); omega), (hPv _ _ _).mpr ⟨fun b u hb h => by rw [upd_ne hb]; exact g8 _ _ (g7 _ _ (k6 b u hb h)), L ++ L2, _, _, by rw [upd_same, List.map_append], ?_, rfl⟩⟩
        rw [tk]
        exact .knot fl ck hs1 hf
    · have sg : Dr.Single p fr x 0 (Dr.pdv fr x) := ⟨⟨by simp, ck⟩, by rw [Nat.mul_zero, Nat.zero_add, Int.pow_succ, Int.pow_zero, Int.one_mul]; exact hx2⟩
      obtain ⟨M', eM⟩ : ∃ M' : Int, M' = if (0 : Int) > (N : Int) - (e : Int) then 0 else (N : Int) - (e : Int) := ⟨_, rfl⟩
      have bM : M'.toNat = N - e ∧ 0 ≤ M' ∧ M' ≤ 60 := by
        rw [eM]
        split <;> ((try clear c0 ck e1 eM efr ers few g_GREATEST_DEPTH ha hl hm hpp hx hx1 hx2 k5 kb klb kr ks lfr n_lb nlb nr nrlb nrr nrrlb nslb p2 q0 sll tk); omega)
      have bpe : Dr.Sm (p ^ e) 611 := (show Dr.Sm (p ^ e) (10 * e + 1) from pow_bits hpp _).mono (by ((try clear bM c0 ck e1 eM efr ers few g_GREATEST_DEPTH ha hl hm hpp hx hx1 hx2 k5 kb klb kr ks lfr n_lb nlb nr nrlb nrr nrrlb nslb p2 q0 sll tk); omega))
      have bpm : Dr.Sm (p ^ (N - e)) 611 := (show Dr.Sm (p ^ (N - e)) (10 * (N - e) + 1) from pow_bits hpp _).mono (by ((try clear bM c0 ck e1 eM efr ers few g_GREATEST_DEPTH ha hl hm hpp hx hx1 hx2 k5 kb klb kr ks lfr n_lb nlb nr nrlb nrr nrrlb nslb p2 q0 sll tk); omega))
      have fin : ∀ (y : Int) (H7 : Hp), Same H6 H7 → Dr.RootAt p fr x (N - e) y → IntMulOk (p ^ e) y ∧ (∃ xs, SqL K H7 lb xs) ∧ 2 ≤ p ∧ p < 1000 ∧ 0 ≤ (N : Int) ∧ (N : Int) < 100000 ∧ 0 < p ^ (N : Int).toNat ∧ ∃ x_4, H7 lb = some (.lst x_4) ∧ x_4.length < sizeLine ∧ Pv (i + 1) [some (V.int p), some (V.int a), some (V.int ↑e), some (V.ref b), some (V.int ↑N), some (V.ref r), some (V.ref ls), some (V.int (p ^ e)), some (V.ref lb), some (V.int x), some (V.int (a + p ^ e * y))] (upd H7 lb (.lst (x_4 ++ [V.int ((a + p ^ e * y) % p ^ (N : Int).toNat)]))) := fun y H7 g7 hy => by
        have by_ : Dr.Sm y 611 := by
          have h1 := hy.lo
          have h2 := hy.hi
          unfold Dr.Sm at bpm ⊢
          ((try clear bM c0 ck e1 eM efr ers few g_GREATEST_DEPTH ha heN hl hm hpp hx hx1 hx2 k5 kb klb kr ks lfr n_lb nlb nr nrlb nrr nrrlb nslb p2 q0 sll tk); omega)
        refine ⟨mulSm bpe by_ (by decide), ⟨_, SqL.of (g7 _ _ kb)⟩, hpp.1, hpp.2, by ((try clear bM c0 ck e1 eM efr ers few g_GREATEST_DEPTH ha hl hm hpp hx hx1 hx2 k5 kb klb kr ks lfr n_lb nlb nr nrlb nrr nrrlb nslb p2 q0 sll tk); omega), by ((try clear bM c0 ck e1 eM efr ers few g_GREATEST_DEPTH ha hl hm hpp hx hx1 hx2 k5 kb klb kr ks lfr n_lb nlb nr nrlb nrr nrrlb nslb p2 q0 sll tk); omega), Dr.pow_pos hpp.1 _, _, g7 _ _ kb, by rw [List.length_map]; unfold sizeLine; ((try clear bM c0 ck e1 eM efr ers g_GREATEST_DEPTH ha heN hm hpp hx hx1 hx2 k5 kb klb kr ks n_lb nlb nr nrlb nrr nrrlb nslb p2 q0 sll tk); omega), (hPv _ _ _).mpr ⟨fun b u hb h => by rw [upd_ne hb]; exact g7 _ _ (k6 b u hb h), L ++ [(a + p ^ e * y) % p ^ N], _, _, by rw [upd_same, List.map_append, Int.toNat_natCast]; rfl, ?_, rfl⟩⟩
        rw [tk]
        exact .leaf fl ck hy
      (try dsimp only); (first | refine seqI ?_ | skip); try walk_at "dr1"; (try simp only [sp_power_of, sp_worth_at, sp_slope_of, sp_seen_from, sp_without_content, sp_rests_by_prime, sp_root_of]); try walk_at "dr1"
      rw [← eM]
      refine ⟨fr, SqL.of (k6 _ _ nrlb kr), by ((try clear bM c0 ck e1 eM efr ers few g_GREATEST_DEPTH ha heN hm hpp hx hx1 hx2 k5 kb klb kr ks n_lb nlb nr nrlb nrr nrrlb nslb p2 q0 sll tk); omega), by ((try clear bM c0 ck e1 eM efr ers few g_GREATEST_DEPTH ha heN hm hpp hx hx1 hx2 k5 kb klb kr ks n_lb nlb nr nrlb nrr nrrlb nslb p2 q0 sll tk); omega), hp, m, bfr, 11, bx, by ((try clear bM c0 ck e1 eM efr ers few g_GREATEST_DEPTH ha hl hpp hx hx1 hx2 k5 kb klb kr ks lfr n_lb nlb nr nrlb nrr nrrlb nslb p2 q0 sll tk); omega), by decide, .inr (.inl ck), bM.2.1, bM.2.2, fun H7 g7 => ⟨fun d u hd => ?_, fun hno => absurd sg (hno _ _)⟩⟩
      obtain rfl := (hd.fac.uniq hpp.1 sg.fac).1
      refine ⟨fun hle => fin _ H7 g7 ?_, fun hlt y hy => fin y H7 g7 ?_⟩
      · rw [bM.1]
        exact rootAt_small hpp.1 (by ((try clear c0 ck e1 efr ers few g_GREATEST_DEPTH ha heN hl hm hpp hx hx1 hx2 k5 kb klb kr ks lfr n_lb nlb nr nrlb nrr nrrlb nslb p2 q0 sll tk); omega)) hx2
      · rw [bM.1] at hy
        exact rootAt_of hy
  · intro σ H6 z
    obtain ⟨k6, L, t9, t10, kb, fl, rfl⟩ := (hPv _ _ _).mp z
    rw [List.take_length] at fl
    try (repeat (first | dsimp only [tSeq] | walk_at "dr1")); (try simp only [sp_power_of, sp_worth_at, sp_slope_of, sp_seen_from, sp_without_content, sp_rests_by_prime, sp_root_of]); try (repeat (first | dsimp only [tSeq] | walk_at "dr1"))
    refine q lb L H6 ⟨c, hc, ?_⟩ nlb (fun b u hb => k6 b u (fun z => by rw [z, nlb] at hb; cases hb) (G5 b u hb)) kb
    rw [efr, ers, efr] at fl
    exact fl
noncomputable def sp_endless_roots (K : PySem.W.Frag) : Sp := fun vs H Q E => ∃ (p : Int) (b : Addr) (f : List Int) (N : Int) (m : Nat), vs = [.int p, .ref b, .int N] ∧ SqL K H b (f.map V.int) ∧ (0 < f.length ∧ f.length ≤ 13) ∧ p ∈ Dr.primes ∧ (0 ≤ N ∧ N ≤ 60) ∧ Dr.PolyB f m ∧ m ≤ 2560 ∧
  ((∀ x, x ∈ f → x = 0) → ∀ H', Same H H' → E (.ref (clK K "NoDepth")) none H') ∧ (Dr.Deep p 60 f → (∃ x, x ∈ f ∧ x ≠ 0) → ∀ H', Same H H' → E (.ref (clK K "TooDeep")) none H') ∧
  ∀ (c : Addr) (L M : List Int) (H' : Hp), Dr.Found p N.toNat 60 0 0 f M → L.Perm M → L.Pairwise (· ≤ ·) → H c = none → Same H H' → H' c = some (.lst (L.map V.int)) → Q (.ref c) H'
theorem ok_endless_roots (B : Bi mg K) (d_roots_within : DefE P w K mg base "roots_within" 65 ["p", "a", "e", "seen", "N"] (sp_roots_within K)) (F : Fun K "endless_roots" "endless_roots" s_endless_roots f fd) : FnOk P w K mg base (CXE P w) 66 f fd ["p", "f", "N"] (sp_endless_roots K) := by
  refine F.okE S_endless_roots (fun vs H Q E h => ?_) (fun cdv A outer s H vs Q E hr h => ?_)
  · obtain ⟨p, b, f, N, m, rfl, _⟩ := h
    rfl
  obtain ⟨p, b, f, N, m, rfl, hS, hl, hp, hN, hb, hm, qz, qd, q⟩ := h
  have S := S_endless_roots
  refine ⟨_, ((pss_one (ps_ret (pe_callB (call_sortedI rfl) rfl B.b_sorted bt_sorted (pa_cons (pe_defE passE d_roots_within hr rfl (pa_cons (pv 0) (pa_cons pe_int (pa_cons pe_int (pa_cons (pv 1) (pa_cons (pv 2) pa_nil)))))) pa_nil))))), ?_⟩
  have p2 := Dr.primes_ge hp
  try (repeat (first | dsimp only [tSeq] | walk_at "dr1")); (try simp only [sp_roots_within]); try (repeat (first | dsimp only [tSeq] | walk_at "dr1"))
  refine ⟨p, 0, 0, N, 0, N.toNat, b, f, m, rfl, rfl, (Int.toNat_of_nonneg hN.1).symm, hS, hl, hp, by simp, by ((try clear hl hm p2); omega), hb, by ((try clear hN hl p2); omega), fun z _ => qz z, fun d hz => qd d (hz (by decide)), fun c L H1 hf nc g1 k1 => ?_⟩
  have few := hf.few hp
  refine ⟨c, rfl, L, SqL.of k1, by ((try clear hN hm k1 nc p2); omega), fun ms hms hso => ?_⟩
  intro l n_l; generalize e_l : upd _ l _ = H2; obtain ⟨g2, k2⟩ := newH e_l n_l; clear e_l
  exact q l ms L H2 hf hms hso (g1.free n_l) (g1.trans g2) k2
theorem sorted_eq : ∀ {L M : List Int}, L.Pairwise (· ≤ ·) → M.Pairwise (· ≤ ·) → L.Perm M → L = M
  | [], M, _, _, h => (List.Perm.nil_eq h)
  | x :: L, M, hL, hM, h => by
    have hx : x ∈ M := h.mem_iff.mp (List.mem_cons_self ..)
    match M, hM, h, hx with
    | y :: M, hM, h, hx =>
      obtain ⟨l1, l2⟩ := List.pairwise_cons.mp hL
      obtain ⟨m1, m2⟩ := List.pairwise_cons.mp hM
      have e : x = y := by
        have h1 : y ≤ x := by
          rcases List.mem_cons.mp hx with z | z
          · omega
          · exact m1 x z
        have h2 : x ≤ y := by
          rcases List.mem_cons.mp (h.mem_iff.mpr (List.mem_cons_self ..)) with z | z
          · ((try clear h1); omega)
          · exact l1 y z
        omega
      subst e
      rw [sorted_eq l2 m2 (List.Perm.cons_inv h)]
noncomputable def cellz (ns : List Int) (k : Int) : Int := if k < ns.length then ns.getD k.toNat 0 else 0
noncomputable def sp__law_cell_at (K : PySem.W.Frag) : Sp := fun vs H Q _ => ∃ (a : Addr) (ns : List Int) (k : Int), vs = [.ref a, .int k] ∧ SqL K H a (ns.map V.int) ∧ ns.length ≤ 63 ∧ (0 ≤ k ∧ k < 1000) ∧ Q (.int (cellz ns k)) H
theorem ok__law_cell_at (B : Bi mg K) (F : Fun K "_law_cell_at" "_law_cell_at" s__law_cell_at f fd) : FnOk P w K mg base CX0 1 f fd ["script", "k"] (sp__law_cell_at K) := by
  refine F.ok S__law_cell_at (fun vs H Q E h => ?_) (fun cdv A outer s H vs Q E hr h => ?_)
  · obtain ⟨a, ns, k, rfl, _⟩ := h
    rfl
  obtain ⟨a, ns, k, rfl, hS, hl, hk, q⟩ := h
  have S := S__law_cell_at
  refine ⟨_, ((pss_cons (ps_if (pt_cmpR op_lt (pv 1) (pe_callB call_len_seq rfl B.b_len PySem.boot_len (pa_cons (pv 0) pa_nil)) (nomark _)) (pss_one (ps_ret (pe_ix ix_list (pv 0) (pv 1) (fun _ _ => rfl)))) pss_nil)
    (pss_one (ps_ret pe_int)))), ?_⟩
  try (repeat (first | dsimp only [tSeq] | walk_at "dr1"))
  refine ⟨_, .inl hS, ?_⟩
  simp only [List.length_map]
  unfold cellz at q
  refine ite2 (fun c => ?_) (fun c => ?_)
  · rw [if_pos c] at q
    exact ⟨_, hS, _, atI_ints hk.1 c, q⟩
  · rw [if_neg c] at q
    exact q
noncomputable def sp__law_prime (_ : PySem.W.Frag) : Sp := fun vs H Q _ => ∃ (c : Int), vs = [.int c] ∧ ∀ (p : Int) (H' : Hp), p ∈ Dr.primes → Same H H' → Q (.int p) H'
theorem body__law_prime : ∃ (s1 s2 s3 : Stmt) (e1 : List Expr) (p1 p2 p3 p4 p5 p6 p7 p8 p9 p10 p11 p12 p13 p14 p15 p16 p17 p18 p19 p20 p21 p22 p23 p24 p25 : Pos), defBody s__law_prime = [s1, s2, s3] ∧
    s1 = .Assign [.Name "primes" p1] (.List e1 p2) p3 ∧ cInts e1 = some Dr.primes ∧
    s2 = .If (.Compare (.BinOp (.Name "cell" p4) .Mod (.Constant (.int 2) 0 p5) p6) [.Eq] [.Constant (.int 0) 0 p7] p8) [.Return (some (.Subscript (.Name "primes" p9) (.BinOp (.BinOp (.Name "cell" p10) .FloorDiv (.Constant (.int 2) 0 p11) p12) .Mod (.Constant (.int 4) 0 p13) p14) p15)) p16] [] p17 ∧
    s3 = .Return (some (.Subscript (.Name "primes" p18) (.BinOp (.BinOp (.Name "cell" p19) .FloorDiv (.Constant (.int 2) 0 p20) p21) .Mod (.Constant (.int 25) 0 p22) p23) p24)) p25 :=
  ⟨_, _, _, _, _, _, _, _, _, _, _, _, _, _, _, _, _, _, _, _, _, _, _, _, _, _, _, _, _, rfl, rfl, rfl, rfl, rfl⟩
theorem ok__law_prime (B : Bi mg K) (F : Fun K "_law_prime" "_law_prime" s__law_prime f fd) : FnOk P w K mg base CX0 1 f fd ["cell"] (sp__law_prime K) := by
  refine F.ok S__law_prime (fun vs H Q E h => ?_) (fun cdv A outer s H vs Q E hr h => ?_)
  · obtain ⟨c, rfl, _⟩ := h
    rfl
  obtain ⟨c, rfl, q⟩ := h
  have S := S__law_prime
  obtain ⟨s1, s2, s3, e1, p1, p2, p3, p4, p5, p6, p7, p8, p9, p10, p11, p12, p13, p14, p15, p16, p17, p18, p19, p20, p21, p22, p23, p24, p25, hb, h1, c1, h2, h3⟩ := body__law_prime
  rw [hb]
  refine ⟨_, (pss_cons (ps_setInts (i := 1) h1 c1 S.nd rfl (Or.inl rfl) (Or.inr rfl))
    (pss_cons (ps_eq h2 (ps_if (pt_cmpR op_eq (pe_op op_mod (pv 0) pe_int) pe_int (nomark _)) (pss_one (ps_ret (pe_ix ix_list (pv 1) (pe_op op_mod (pe_op op_fdivW (pv 0) pe_int) pe_int) (fun _ _ => rfl)))) pss_nil))
    (pss_one (ps_eq h3 (ps_ret (pe_ix ix_list (pv 1) (pe_op op_mod (pe_op op_fdivW (pv 0) pe_int) pe_int) (fun _ _ => rfl))))))), ?_⟩
  refine ⟨(by show 25 ≤ sizeLine; decide), fun l hl => ?_⟩
  refine ⟨_, rfl, _, _, rfl, rfl, (show (0 : Int) < 2 by decide), rfl, _, rfl, ?_⟩
  refine ite2 (fun _ => ?_) (fun _ => ?_)
  · have m := mod_in (c / 2) (show (0 : Int) < 4 by decide)
    refine ⟨_, rfl, _, rfl, _, _, rfl, rfl, ⟨by decide, by decide⟩, _, _, rfl, rfl, (show (0 : Int) < 4 by decide), l, _, _, _, rfl, rfl, SqL.of upd_same, atI_ints (ns := Dr.primes) m.1 (by have := m.2; show _ < (25 : Int); ((try clear c1 h1 h2 h3 hb hl this); omega)), ?_⟩
    exact q _ _ (getD_in (ns := Dr.primes) m.1 (by have := m.2; show _ < (25 : Int); ((try clear c1 h1 h2 h3 hb hl this); omega))) (same_new hl _)
  · have m := mod_in (c / 2) (show (0 : Int) < 25 by decide)
    refine ⟨_, rfl, _, rfl, _, _, rfl, rfl, ⟨by decide, by decide⟩, _, _, rfl, rfl, (show (0 : Int) < 25 by decide), l, _, _, _, rfl, rfl, SqL.of upd_same, atI_ints (ns := Dr.primes) m.1 m.2, ?_⟩
    exact q _ _ (getD_in (ns := Dr.primes) m.1 m.2) (same_new hl _)
noncomputable def sp__law_times (K : PySem.W.Frag) : Sp := fun vs H Q _ => ∃ (a b : Addr) (f g : List Int) (m n : Nat), vs = [.ref a, .ref b] ∧ SqL K H a (f.map V.int) ∧ SqL K H b (g.map V.int) ∧ (0 < f.length ∧ f.length ≤ 60 ∧ 0 < g.length ∧ g.length ≤ 60) ∧ Dr.PolyB f m ∧ Dr.PolyB g n ∧ (m ≤ 1000000 ∧ n ≤ 1000000) ∧
  ∀ (c : Addr) (r : List Int) (H' : Hp), Dr.IsProd f g r → Dr.PolyB r (m + n + 12) → H c = none → Same H H' → H' c = some (.lst (r.map V.int)) → Q (.ref c) H'
theorem ok__law_times (B : Bi mg K) (F : Fun K "_law_times" "_law_times" s__law_times f fd) : FnOk P w K mg base CX0 1 f fd ["f", "g"] (sp__law_times K) := by
  refine F.ok S__law_times (fun vs H Q E h => ?_) (fun cdv A outer s H vs Q E hr h => ?_)
  · obtain ⟨a, b, f, g, m, n, rfl, _⟩ := h
    rfl
  obtain ⟨a, b, f, g, m, n, rfl, hS, hS', hl, hf, hg, hmn, q⟩ := h
  have S := S__law_times
  refine ⟨_, ((pss_cons (ps_set (i := 2) S.nd rfl (Or.inl rfl) (pe_op op_rep (pe_lst (pa_cons pe_int pa_nil)) (pe_op op_sub (pe_op op_add (pe_callB call_len_seq rfl B.b_len PySem.boot_len (pa_cons (pv 0) pa_nil)) (pe_callB call_len_seq rfl B.b_len PySem.boot_len (pa_cons (pv 1) pa_nil))) pe_int)))
    (pss_cons (ps_for PassesOwn.never rfl (pi_range1 rfl B.b_range (pa_cons (pe_callB call_len_seq rfl B.b_len PySem.boot_len (pa_cons (pv 0) pa_nil)) pa_nil)) (pg_name (i := 3) S.nd rfl (Or.inl rfl)) (pss_one (ps_for PassesOwn.never rfl (pi_range1 rfl B.b_range (pa_cons (pe_callB call_len_seq rfl B.b_len PySem.boot_len (pa_cons (pv 1) pa_nil)) pa_nil)) (pg_name (i := 4) S.nd rfl (Or.inl rfl)) (pss_one (ps_asg (pe_op op_add (pe_ix ix_list (pv 2) (pe_op op_add (pv 3) (pv 4)) (fun _ _ => rfl)) (pe_op op_mulW (pe_ix ix_list (pv 0) (pv 3) (fun _ _ => rfl)) (pe_ix ix_list (pv 1) (pv 4) (fun _ _ => rfl)))) (pg_sub (pv 2) (pe_op op_add (pv 3) (pv 4)) set_list))))))
    (pss_one (ps_ret (pv 2)))))), ?_⟩
  try (repeat (first | dsimp only [tSeq] | walk_at "dr1"))
  refine ⟨by decide, ?_⟩
  intro l0 n_l0; generalize e_l0 : upd _ l0 _ = H1; obtain ⟨g1, k1⟩ := newH e_l0 n_l0; clear e_l0
  refine ⟨_, .inl (g1.seq hS), _, .inl (g1.seq hS'), ?_⟩
  simp only [List.length_map]
  refine ⟨_, k1, by ((try clear hmn k1 n_l0); omega), by ((try clear hmn k1 n_l0); omega), by simp only [List.length_cons, List.length_nil]; unfold sizeLine; ((try clear hmn k1 n_l0); omega), ?_⟩
  intro l n_l; generalize e_l : upd _ l _ = H2; obtain ⟨g2, k2⟩ := newH e_l n_l; clear e_l
  rw [rep_zero] at k2
  have g12 := g1.trans g2
  have nl : H l = none := g1.free n_l
  refine ⟨_, .inl (g12.seq hS), by simp only [List.length_map]; ((try clear hmn k1 k2 n_l n_l0 nl); omega), by simp only [List.length_map]; ((try clear hmn k1 k2 n_l n_l0 nl); omega), ?_⟩
  obtain ⟨M, hM⟩ : ∃ M : Nat, M = 2 ^ (m + n) := ⟨_, rfl⟩
  obtain ⟨Pv, hPv⟩ : ∃ Pv : Nat → St → Hp → Prop, ∀ i σ H3, Pv i σ H3 ↔ (Same H H3 ∧ ∃ (r : List Int) (t3 t4 : Option V), r.length + 1 = f.length + g.length ∧ (∀ c, c ∈ r → c.natAbs ≤ i * g.length * M) ∧ (∀ x, Dr.pev r x = Dr.pev (f.take i) x * Dr.pev g x) ∧ H3 l = some (.lst (r.map V.int)) ∧ σ = [some (.ref a), some (.ref b), some (.ref l), t3, t4]) := ⟨_, fun _ _ _ => Iff.rfl⟩
  refine forR Pv ((hPv _ _ _).mpr ⟨g12, _, none, none, by rw [List.length_replicate]; ((try clear hM hmn k1 k2 n_l n_l0 nl); omega), fun c hc => by rw [(List.mem_replicate.mp hc).2]; simp, fun x => by rw [Dr.pev_zeros]; simp [Dr.pev], k2, rfl⟩) ?_ ?_
  · intro i σ H3 hi z
    obtain ⟨g3, r, t3, t4, hrl, hrb, hre, k3, rfl⟩ := (hPv _ _ _).mp z
    simp only [List.length_map, Int.toNat_natCast] at hi
    obtain ⟨c, hc⟩ : ∃ c, f[i]? = some c := ⟨_, List.getElem?_eq_getElem hi⟩
    have ac : atI (f.map V.int) (0 + (i : Int)) = some (.int c) := by
      rw [Int.zero_add]
      exact atI_nat (by rw [List.getElem?_map, hc]; rfl)
    try (repeat (first | dsimp only [tSeq] | walk_at "dr1"))
    refine ⟨_, .inl (g3.seq hS'), by simp only [List.length_map]; ((try clear ac hM hc hi hmn hrl k1 k2 k3 n_l n_l0 nl); omega), by simp only [List.length_map]; ((try clear ac hM hc hi hmn hrl k1 k2 k3 n_l n_l0 nl); omega), ?_⟩
    obtain ⟨Pw, hPw⟩ : ∃ Pw : Nat → St → Hp → Prop, ∀ j σ H5, Pw j σ H5 ↔ (Same H H5 ∧ ∃ (r : List Int) (t4 : Option V), r.length + 1 = f.length + g.length ∧ (∀ c, c ∈ r → c.natAbs ≤ (i * g.length + j) * M) ∧ (∀ x, Dr.pev r x = Dr.pev (f.take i) x * Dr.pev g x + c * x ^ i * Dr.pev (g.take j) x) ∧ H5 l = some (.lst (r.map V.int)) ∧ σ = [some (.ref a), some (.ref b), some (.ref l), some (.int (0 + (i : Int))), t4]) := ⟨_, fun _ _ _ => Iff.rfl⟩
    refine forR Pw ((hPw _ _ _).mpr ⟨g3, r, t4, hrl, hrb, fun x => by rw [hre]; simp [Dr.pev], k3, rfl⟩) ?_ ?_
    · intro j σ H5 hj z
      obtain ⟨g5, r, t4, hrl, hrb, hre, k5, rfl⟩ := (hPw _ _ _).mp z
      simp only [List.length_map, Int.toNat_natCast] at hj
      obtain ⟨d, hd⟩ : ∃ d, g[j]? = some d := ⟨_, List.getElem?_eq_getElem hj⟩
      have ad : atI (g.map V.int) (0 + (j : Int)) = some (.int d) := by
        rw [Int.zero_add]
        exact atI_nat (by rw [List.getElem?_map, hd]; rfl)
      obtain ⟨v, e1, e2, e3, _⟩ := get_int (fs := r) (k := 0 + (i : Int) + (0 + (j : Int))) (by ((try clear ac ad hM hc hd hi hj hl hmn hrl k1 k2 k3 k5 n_l n_l0 nl); omega)) (by ((try clear ac ad hM hc hd hl hmn k1 k2 k3 k5 n_l n_l0 nl); omega))
      have hcd : (c * d).natAbs ≤ M := by
        rw [hM]
        exact Nat.le_of_lt ((hf c (List.mem_of_getElem? hc)).mul (hg d (List.mem_of_getElem? hd)))
      try (repeat (first | dsimp only [tSeq] | walk_at "dr1"))
      refine ⟨_, SqL.of k5, _, e2, _, g5.seq hS, _, ac, _, g5.seq hS', _, ad, c, rfl, d, rfl, mulSm (hf c (List.mem_of_getElem? hc)) (hg d (List.mem_of_getElem? hd)) (by ((try clear ac ad e1 e2 e3 hM hc hcd hd hi hj hl hrl k1 k2 k3 k5 n_l n_l0 nl); omega)), v, rfl, _, k5, _, e3, ?_⟩
      rw [set_int]
      have eij : (0 + (i : Int) + (0 + (j : Int))).toNat = i + j := by ((try clear ac ad e1 e2 e3 hM hc hcd hd hi hj hl hmn hrl k1 k2 k3 k5 n_l n_l0 nl); omega)
      rw [eij] at e1 ⊢
      refine (hPw _ _ _).mpr ⟨g5.up nl _, _, _, by rw [List.length_set]; exact hrl, fun e he => ?_, fun x => ?_, upd_same, rfl⟩
      · rcases mem_set he with w | w
        · exact Nat.le_trans (hrb e w) (Nat.mul_le_mul_right _ (Nat.le_succ _))
        · rw [w]
          exact steps (hrb v (List.mem_of_getElem? e1)) hcd
      · rw [Dr.pev_set x (c * d) r (i + j) v e1, hre, Dr.pev_take_succ hd, Dr.pow_add']
        generalize x ^ i = X
        generalize x ^ j = Y
        grind
    · intro σ H5 z
      obtain ⟨g5, r, t4, hrl, hrb, hre, k5, rfl⟩ := (hPw _ _ _).mp z
      simp only [List.length_map, Int.toNat_natCast] at hrb hre
      refine (hPv _ _ _).mpr ⟨g5, r, _, _, hrl, fun c hc => ?_, fun x => ?_, k5, rfl⟩
      · rw [Nat.succ_mul]
        exact hrb c hc
      · rw [hre, List.take_length, Dr.pev_take_succ hc]
        grind
  · intro σ H3 z
    obtain ⟨g3, r, t3, t4, hrl, hrb, hre, k3, rfl⟩ := (hPv _ _ _).mp z
    simp only [List.length_map, Int.toNat_natCast] at hrb hre
    try (repeat (first | dsimp only [tSeq] | walk_at "dr1"))
    rw [List.take_length] at hre
    refine q l r H3 ⟨hrl, hre⟩ (fun c hc => ?_) nl g3 k3
    have h1 := hrb c hc
    have h2 : f.length * g.length * M ≤ 3600 * M := Nat.mul_le_mul_right _ (Nat.mul_le_mul (show f.length ≤ 60 by ((try clear h1 hM hmn k1 k2 k3 n_l n_l0 nl); omega)) (show g.length ≤ 60 by ((try clear h1 hM hmn hrl k1 k2 k3 n_l n_l0 nl); omega)))
    show c.natAbs < 2 ^ (m + n + 12)
    rw [Nat.pow_add, ← hM]
    have : (2 : Nat) ^ 12 = 4096 := by decide
    have : 0 < M := by rw [hM]; exact Nat.pow_pos (by decide)
    ((try clear hl hmn hrl k1 k2 k3 n_l n_l0 nl); omega)
noncomputable def sp__law_power (_ : PySem.W.Frag) : Sp := fun vs H Q _ => ∃ (p e : Int), vs = [.int p, .int e] ∧ (2 ≤ p ∧ p < 1000) ∧ (0 ≤ e ∧ e < 100000) ∧ Q (.int (p ^ e.toNat)) H
theorem ok__law_power (B : Bi mg K) (F : Fun K "_law_power" "_law_power" s__law_power f fd) : FnOk P w K mg base CX0 1 f fd ["p", "e"] (sp__law_power K) := by
  refine F.ok S__law_power (fun vs H Q E h => ?_) (fun cdv A outer s H vs Q E hr h => ?_)
  · obtain ⟨p, e, rfl, _⟩ := h
    rfl
  obtain ⟨p, e, rfl, hp, he, q⟩ := h
  have S := S__law_power
  refine ⟨_, ((pss_cons (ps_set (i := 2) S.nd rfl (Or.inl rfl) pe_int)
    (pss_cons (ps_for PassesOwn.never rfl (pi_range1 rfl B.b_range (pa_cons (pv 1) pa_nil)) (pg_name (i := 3) S.nd rfl (Or.inl rfl)) (pss_one (ps_set (i := 2) S.nd rfl (Or.inl rfl) (pe_op op_mulW (pv 2) (pv 0)))))
    (pss_one (ps_ret (pv 2)))))), ?_⟩
  refine ⟨_, rfl, e, rfl, by ((try clear hp); omega), by ((try clear hp); omega), ?_⟩
  refine for_range (n := e.toNat) (fun i σ H' => H' = H ∧ ∃ t, σ = [some (.int p), some (.int e), some (.int (p ^ i)), t]) ⟨rfl, none, by rw [Int.pow_zero]; rfl⟩ ?_ ?_
  · rintro i σ H' hi ⟨rfl, t, rfl⟩
    refine ⟨_, rfl, _, rfl, _, _, rfl, rfl, IntMulOk.of_right (intBits_le_64 (by ((try clear he hi); omega)) (by ((try clear he hi); omega))), rfl, some (.int (0 + (i : Int))), ?_⟩
    rw [Int.pow_succ]
    rfl
  · rintro σ H' ⟨rfl, t, rfl⟩
    exact ⟨_, rfl, q⟩
theorem fct_two {p t u : Int} {q : List Int} (h : Dr.IsProd [0 - t, 1] [0 - u, 1] q) (hp : p ∈ Dr.primes) : Dr.Fct p q [(t, 1), (u, 1)] := by
  have p2 := Dr.primes_ge hp
  have one : (1 : Int) % p ≠ 0 := by rw [Int.emod_eq_of_lt (by ((try clear p2); omega)) (by omega)]; decide
  refine ⟨⟨1, [1], by decide, ⟨by simp, fun y => by simpa [Dr.pev] using one⟩, ?_⟩, fun w hw => ?_⟩
  · refine Dr.pev_inj ?_ fun x => ?_
    · have := h.len
      rw [List.length_map, Dr.PL_len (by simp)]
      simp only [List.length_cons, List.length_nil] at this ⊢
      ((try clear one p2); omega)
    · rw [h.ev, Dr.pev_map, Dr.PL_ev, Dr.PL_ev]
      simp only [Dr.PL, Dr.pev]
      grind
  · simp only [List.mem_cons, List.not_mem_nil, or_false] at hw
    rcases hw with rfl | rfl <;> exact one
theorem deep_two {p t u : Int} {q : List Int} (h : Dr.IsProd [0 - t, 1] [0 - u, 1] q) (hp : p ∈ Dr.primes) (hd : (t - u) % p ^ 60 = 0) : Dr.Deep p 60 q := by
  refine (Dr.Fct.deep hp (fct_two h hp) (.inl (by decide))).mpr fun z => ?_
  have := (List.pairwise_cons.mp z).1 (u, 1) (by simp)
  apply this
  simp only [Int.mul_one]
  exact hd
noncomputable def sp__law_twice (_ : PySem.W.Frag) : Sp := fun vs H Q _ => ∃ (p t cell : Int), vs = [.int p, .int t, .int cell] ∧ p ∈ Dr.primes ∧ Dr.Sm t 70 ∧
  ∀ (c : Addr) (q : List Int) (H' : Hp), Dr.Deep p 60 q → q.length = 3 → Dr.PolyB q 1400 → Same H H' → H' c = some (.lst (q.map V.int)) → Q (.ref c) H'
theorem ok__law_twice (B : Bi mg K) (d__law_times : Def P w K mg base "_law_times" 1 ["f", "g"] (sp__law_times K)) (d__law_power : Def P w K mg base "_law_power" 1 ["p", "e"] (sp__law_power K)) (F : Fun K "_law_twice" "_law_twice" s__law_twice f fd) : FnOk P w K mg base CX0 2 f fd ["p", "t", "cell"] (sp__law_twice K) := by
  refine F.ok S__law_twice (fun vs H Q E h => ?_) (fun cdv A outer s H vs Q E hr h => ?_)
  · obtain ⟨p, t, cell, rfl, _⟩ := h
    rfl
  obtain ⟨p, t, cell, rfl, hp, ht, q⟩ := h
  have S := S__law_twice
  have p2 := Dr.primes_ge hp
  have hpp : 2 ≤ p ∧ p < 1000 := by omega
  refine ⟨_, ((pss_cons (ps_join (ps_if (PW.pt (pw_and (pt_cmpR op_lt (pv 0) pe_int (nomark _)) (pw_and1 (pt_cmpR op_eq (pe_op op_mod (pv 2) pe_int) pe_int (nomark _))))) (pss_one (ps_ret (pe_def d__law_times hr rfl (pa_cons (pe_lst (pa_cons (pe_op op_sub pe_int (pv 1)) (pa_cons pe_int pa_nil))) (pa_cons (pe_lst (pa_cons (pe_op op_sub (pe_op op_sub pe_int (pv 1)) (pe_op op_mulW (pe_op op_add pe_int (pe_op op_mod (pe_op op_fdivW (pv 2) pe_int) pe_int)) (pe_def d__law_power hr rfl (pa_cons (pv 0) (pa_cons (pe_op op_add pe_int (pe_op op_mod (pe_op op_fdivW (pv 2) pe_int) pe_int)) pa_nil))))) (pa_cons pe_int pa_nil))) pa_nil))))) pss_nil))
    (pss_cons (ps_join (ps_if (PW.pt (pw_and (pt_cmpR op_lt (pv 0) pe_int (nomark _)) (pw_and1 (pt_cmpR op_eq (pe_op op_mod (pv 2) pe_int) pe_int (nomark _))))) (pss_one (ps_ret (pe_lst (pa_cons (pe_op op_add (pe_op op_mulW (pv 1) (pv 1)) (pe_def d__law_power hr rfl (pa_cons (pv 0) (pa_cons (pe_op op_add pe_int (pe_op op_mod (pe_op op_fdivW (pv 2) pe_int) pe_int)) pa_nil)))) (pa_cons (pe_op op_sub pe_int (pe_op op_mulW pe_int (pv 1))) (pa_cons pe_int pa_nil)))))) pss_nil))
    (pss_one (ps_ret (pe_def d__law_times hr rfl (pa_cons (pe_lst (pa_cons (pe_op op_sub pe_int (pv 1)) (pa_cons pe_int pa_nil))) (pa_cons (pe_lst (pa_cons (pe_op op_sub pe_int (pv 1)) (pa_cons pe_int pa_nil))) pa_nil)))))))), ?_⟩
  have one_ : Dr.Sm (1 : Int) 71 := sm_of 1 (by decide) (by decide)
  have b0 : Dr.PolyB [0 - t, 1] 71 := fun x hx => by
    simp only [List.mem_cons, List.not_mem_nil, or_false] at hx
    rcases hx with rfl | rfl
    · exact (by have := (Dr.Sm.zero 70).sub ht; exact this)
    · exact one_
  refine seqI ?_
  obtain ⟨R, hR⟩ : ∃ R : St → Hp → Prop, ∀ σ' H1, R σ' H1 ↔ (H1 = H ∧ σ' = [some (.int p), some (.int t), some (.int cell)]) := ⟨_, fun _ _ => Iff.rfl⟩
  have same := (hR [some (.int p), some (.int t), some (.int cell)] H).mpr ⟨rfl, rfl⟩
  refine joinB R ?_ ?_
  · try (repeat (first | dsimp only [tSeq] | walk_at "dr1")); (try simp only [sp__law_times, sp__law_power]); try (repeat (first | dsimp only [tSeq] | walk_at "dr1"))
    refine ite2 (fun c1 => ite2 (fun c2 => ?_) fun _ => same) fun _ => same
    have m3 := mod_in (cell / 12) (show (0 : Int) < 3 by decide)
    have m4 := mod_in (cell / 3) (show (0 : Int) < 4 by decide)
    obtain ⟨e, ee⟩ : ∃ e : Nat, e = (60 + cell / 12 % 3).toNat := ⟨_, rfl⟩
    have be : Dr.Sm (p ^ e) 631 := (show Dr.Sm (p ^ e) (10 * e + 1) from pow_bits hpp _).mono (by ((try clear c1 c2 hpp m4 p2); omega))
    have bj : Dr.Sm (1 + cell / 3 % 4) 3 := sm_of 4 (by ((try clear c1 c2 ee hpp m3 p2); omega)) (by decide)
    refine ⟨by decide, ?_⟩
    intro l1 n_l1; generalize e_l1 : upd _ l1 _ = H1; obtain ⟨g1, k1⟩ := newH e_l1 n_l1; clear e_l1
    refine ⟨⟨by decide, by decide⟩, ⟨by decide, by decide⟩, hpp.1, hpp.2, by ((try clear c1 c2 ee hpp k1 m4 n_l1 p2); omega), by ((try clear c1 c2 ee hpp k1 m4 n_l1 p2); omega), ?_⟩
    rw [← ee]
    refine ⟨mulSm bj be (by decide), by decide, ?_⟩
    rw [show 0 - t - (1 + cell / 3 % 4) * p ^ e = 0 - (t + (1 + cell / 3 % 4) * p ^ e) by ((try clear c1 c2 ee hpp k1 m3 m4 n_l1 p2); omega)]
    intro l2 n_l2; generalize e_l2 : upd _ l2 _ = H2; obtain ⟨g2, k2⟩ := newH e_l2 n_l2; clear e_l2
    have b1 : Dr.PolyB [0 - (t + (1 + cell / 3 % 4) * p ^ e), 1] 640 := fun x hx => by
      simp only [List.mem_cons, List.not_mem_nil, or_false] at hx
      rcases hx with rfl | rfl
      · exact ((Dr.Sm.zero 70).sub (ht.add (bj.mul be))).mono (by decide)
      · exact one_.mono (by decide)
    refine ⟨[0 - t, 1], SqL.of (g2 _ _ k1), [0 - (t + (1 + cell / 3 % 4) * p ^ e), 1], SqL.of k2, by simp, by simp, by simp, by simp, 71, b0, 640, b1, by decide, by decide, fun c r H3 hpr hb' nc g3 k3 => q c r H3 (deep_two hpr hp ?_) ?_ (fun x hx => (hb' x hx).mono (by decide)) (g1.trans (g2.trans g3)) k3⟩
    · rw [show t - (t + (1 + cell / 3 % 4) * p ^ e) = p ^ e * -(1 + cell / 3 % 4) by rw [Int.mul_neg, Int.mul_comm (p ^ e)]; ((try clear c1 c2 ee hpp k1 k2 k3 m3 m4 n_l1 n_l2 nc p2); omega)]
      exact Dr.dvd_mul_r _ (Dr.pow_dv (by ((try clear c1 c2 hpp k1 k2 k3 m4 n_l1 n_l2 nc p2); omega)))
    · have := hpr.len
      simp only [List.length_cons, List.length_nil] at this
      ((try clear c1 c2 ee hpp k1 k2 k3 m3 m4 n_l1 n_l2 nc p2); omega)
  intro σ' H1 z
  obtain ⟨rfl, rfl⟩ := (hR _ _).mp z
  clear hR z same
  refine seqI ?_
  obtain ⟨R, hR⟩ : ∃ R : St → Hp → Prop, ∀ σ' H2, R σ' H2 ↔ (H2 = H1 ∧ σ' = [some (.int p), some (.int t), some (.int cell)]) := ⟨_, fun _ _ => Iff.rfl⟩
  have same := (hR [some (.int p), some (.int t), some (.int cell)] H1).mpr ⟨rfl, rfl⟩
  refine joinB R ?_ ?_
  · try (repeat (first | dsimp only [tSeq] | walk_at "dr1")); (try simp only [sp__law_times, sp__law_power]); try (repeat (first | dsimp only [tSeq] | walk_at "dr1"))
    refine ite2 (fun c1 => ite2 (fun c2 => ?_) fun _ => same) fun _ => same
    have m12 := mod_in (cell / 3) (show (0 : Int) < 12 by decide)
    obtain ⟨e, ee⟩ : ∃ e : Nat, e = (119 + cell / 3 % 12).toNat := ⟨_, rfl⟩
    have be : Dr.Sm (p ^ e) 1311 := (show Dr.Sm (p ^ e) (10 * e + 1) from pow_bits hpp _).mono (by ((try clear c1 c2 hpp p2); omega))
    refine ⟨mulSm ht ht (by decide), ⟨by decide, by decide⟩, hpp.1, hpp.2, by ((try clear c1 c2 ee hpp p2); omega), by ((try clear c1 c2 ee hpp p2); omega), ?_⟩
    rw [← ee]
    refine ⟨IntMulOk.of_left (by decide), by decide, ?_⟩
    intro l1 n_l1; generalize e_l1 : upd _ l1 _ = H2; obtain ⟨g2, k2⟩ := newH e_l1 n_l1; clear e_l1
    refine q l1 [t * t + p ^ e, 0 - 2 * t, 1] H2 (Dr.Deep.square hp (m := e) (w := t) (u := 1) (K := 1) (by decide) rfl (fun y => ?_) (by ((try clear c1 c2 hpp k2 n_l1 p2); omega))) rfl (fun x hx => ?_) g2 k2
    · simp only [Dr.pev]
      generalize p ^ e = A
      grind
    · simp only [List.mem_cons, List.not_mem_nil, or_false] at hx
      rcases hx with rfl | rfl | rfl
      · exact ((ht.mul ht).add be).mono (by decide)
      · exact ((Dr.Sm.zero 70).sub ((sm_of (k := 2) 2 (by decide) (by decide)).mul ht)).mono (by decide)
      · exact one_.mono (by decide)
  intro σ' H2 z
  obtain ⟨rfl, rfl⟩ := (hR _ _).mp z
  clear hR z same
  try (repeat (first | dsimp only [tSeq] | walk_at "dr1")); (try simp only [sp__law_times, sp__law_power]); try (repeat (first | dsimp only [tSeq] | walk_at "dr1"))
  refine ⟨by decide, ?_⟩
  intro l1 n_l1; generalize e_l1 : upd _ l1 _ = H1; obtain ⟨g1, k1⟩ := newH e_l1 n_l1; clear e_l1
  refine ⟨by decide, ?_⟩
  intro l2 n_l2; generalize e_l2 : upd _ l2 _ = H2; obtain ⟨g2, k2⟩ := newH e_l2 n_l2; clear e_l2
  refine ⟨[0 - t, 1], SqL.of (g2 _ _ k1), [0 - t, 1], SqL.of k2, by simp, by simp, by simp, by simp, 71, b0, 71, b0, by decide, by decide, fun c r H3 hpr hb' nc g3 k3 => q c r H3 (deep_two hpr hp ?_) ?_ (fun x hx => (hb' x hx).mono (by decide)) (g1.trans (g2.trans g3)) k3⟩
  · rw [Int.sub_self]
    simp
  · have := hpr.len
    simp only [List.length_cons, List.length_nil] at this
    ((try clear hpp k1 k2 k3 n_l1 n_l2 nc p2); omega)
noncomputable def ndK : List Bool := [true, true, false, false, false, false, false, false, false, false, false, false, false]
noncomputable def tdK : List Bool := [true, false, true, false, false, false, false, false, false, false, false, false, false]
noncomputable def sp__law_kinds (K : PySem.W.Frag) : Sp := fun vs H Q _ => ∃ (p : Int) (b : Addr) (f : List Int) (N : Int) (m : Nat), vs = [.int p, .ref b, .int N] ∧ SqL K H b (f.map V.int) ∧ (0 < f.length ∧ f.length ≤ 13) ∧ p ∈ Dr.primes ∧ (0 ≤ N ∧ N ≤ 60) ∧ Dr.PolyB f m ∧ m ≤ 2560 ∧ ((∀ x, x ∈ f → x = 0) ∨ Dr.Deep p 60 f) ∧
  ∀ (c : Addr) (bs : List Bool) (H' : Hp), Same H H' → H' c = some (.lst (bs.map V.bl)) → ((∀ x, x ∈ f → x = 0) → bs = ndK) → ((∃ x, x ∈ f ∧ x ≠ 0) → bs = tdK) → Q (.ref c) H'
theorem ok__law_kinds (B : Bi mg K) (d_endless_roots : DefE P w K mg base "endless_roots" 66 ["p", "f", "N"] (sp_endless_roots K)) (F : Fun K "_law_kinds" "_law_kinds" s__law_kinds f fd) : FnOk P w K mg base CX0 67 f fd ["p", "f", "N"] (sp__law_kinds K) := by
  refine F.ok S__law_kinds (fun vs H Q E h => ?_) (fun cdv A outer s H vs Q E hr h => ?_)
  · obtain ⟨p, b, f, N, m, rfl, _⟩ := h
    rfl
  obtain ⟨p, b, f, N, m, rfl, hS, hl, hp, hN, hb, hm, hor, q⟩ := h
  have S := S__law_kinds
  have p2 := Dr.primes_ge hp
  refine ⟨_, ((pss_cons (ps_set (i := 3) S.nd rfl (Or.inl rfl) (pe_lst pa_nil))
    (pss_cons (ps_join (ps_tryAs rfl rfl rfl B.c_RestError S.nd (i := 4) rfl rfl (fun _ _ _ hx => (pss_one (ps_expr (pe_defX hx d_endless_roots hr rfl (pa_cons (pv 0) (pa_cons (pv 1) (pa_cons (pv 2) pa_nil))))))) (fun _ => (pss_cons (ps_set (i := 3) S.nd rfl (Or.inl rfl) (pe_lst (pa_cons (pe_callB (call_isiX (K := K) rfl) rfl B.b_isinstance L2.bt_isinstance (pa_cons (pv 4) (pa_cons (pe_bltn (v := .ty "ValueError") rfl B.b_ValueError L2.bt_ValueError rfl) pa_nil))) (pa_cons (pe_callB (call_isiX (K := K) rfl) rfl B.b_isinstance L2.bt_isinstance (pa_cons (pv 4) (pa_cons (pe_glob (v := .ref _) rfl B.c_NoDepth rfl) pa_nil))) (pa_cons (pe_callB (call_isiX (K := K) rfl) rfl B.b_isinstance L2.bt_isinstance (pa_cons (pv 4) (pa_cons (pe_glob (v := .ref _) rfl B.c_TooDeep rfl) pa_nil))) (pa_cons (pe_callB (call_isiX (K := K) rfl) rfl B.b_isinstance L2.bt_isinstance (pa_cons (pv 4) (pa_cons (pe_glob (v := .ref _) rfl B.c_NoBall rfl) pa_nil))) pa_nil))))))
    (pss_cons (ps_set (i := 3) S.nd rfl (Or.inl rfl) (pe_op op_cat (pv 3) (pe_lst (pa_cons (pe_callB (call_isiX (K := K) rfl) rfl B.b_isinstance L2.bt_isinstance (pa_cons (pv 4) (pa_cons (pe_glob (v := .ref _) rfl B.c_NoInverse rfl) pa_nil))) (pa_cons (pe_callB (call_isiX (K := K) rfl) rfl B.b_isinstance L2.bt_isinstance (pa_cons (pv 4) (pa_cons (pe_glob (v := .ref _) rfl B.c_NoName rfl) pa_nil))) (pa_cons (pe_callB (call_isiX (K := K) rfl) rfl B.b_isinstance L2.bt_isinstance (pa_cons (pv 4) (pa_cons (pe_glob (v := .ref _) rfl B.c_NoParts rfl) pa_nil))) pa_nil))))))
    (pss_cons (ps_set (i := 3) S.nd rfl (Or.inl rfl) (pe_op op_cat (pv 3) (pe_lst (pa_cons (pe_callB (call_isiX (K := K) rfl) rfl B.b_isinstance L2.bt_isinstance (pa_cons (pv 4) (pa_cons (pe_glob (v := .ref _) rfl B.c_NoPrime rfl) pa_nil))) (pa_cons (pe_callB (call_isiX (K := K) rfl) rfl B.b_isinstance L2.bt_isinstance (pa_cons (pv 4) (pa_cons (pe_glob (v := .ref _) rfl B.c_NoRow rfl) pa_nil))) (pa_cons (pe_callB (call_isiX (K := K) rfl) rfl B.b_isinstance L2.bt_isinstance (pa_cons (pv 4) (pa_cons (pe_glob (v := .ref _) rfl B.c_NoSmall rfl) pa_nil))) pa_nil))))))
    (pss_one (ps_set (i := 3) S.nd rfl (Or.inl rfl) (pe_op op_cat (pv 3) (pe_lst (pa_cons (pe_callB (call_isiX (K := K) rfl) rfl B.b_isinstance L2.bt_isinstance (pa_cons (pv 4) (pa_cons (pe_glob (v := .ref _) rfl B.c_NoText rfl) pa_nil))) (pa_cons (pe_callB (call_isiX (K := K) rfl) rfl B.b_isinstance L2.bt_isinstance (pa_cons (pv 4) (pa_cons (pe_glob (v := .ref _) rfl B.c_NoSingle rfl) pa_nil))) (pa_cons (pe_callB (call_isiX (K := K) rfl) rfl B.b_isinstance L2.bt_isinstance (pa_cons (pv 4) (pa_cons (pe_glob (v := .ref _) rfl B.c_TooGreat rfl) pa_nil))) pa_nil)))))))))))))
    (pss_one (ps_ret (pv 3)))))), ?_⟩
  (try dsimp only); (first | refine seqI ?_ | skip); try walk_at "dr1"; (try simp only [sp_endless_roots]); try walk_at "dr1"
  refine ⟨by decide, ?_⟩
  intro l1 n_l1; generalize e_l1 : upd _ l1 _ = H1; obtain ⟨g1, k1⟩ := newH e_l1 n_l1; clear e_l1
  refine seqI ?_
  obtain ⟨R, hR⟩ : ∃ R : St → Hp → Prop, ∀ σ' H2, R σ' H2 ↔ (Same H H2 ∧ ∃ (c : Addr) (bs : List Bool) (t4 : Option V), H2 c = some (.lst (bs.map V.bl)) ∧ ((∀ x, x ∈ f → x = 0) → bs = ndK) ∧ ((∃ x, x ∈ f ∧ x ≠ 0) → bs = tdK) ∧ σ' = [some (.int p), some (.ref b), some (.int N), some (.ref c), t4]) := ⟨_, fun _ _ => Iff.rfl⟩
  refine joinB R ?_ ?_
  · (try dsimp only); (first | refine seqI ?_ | skip); try walk_at "dr1"; (try simp only [sp_endless_roots]); try walk_at "dr1"
    refine ⟨f, g1.seq hS, by ((try clear hN hm hor k1 n_l1 p2); omega), by ((try clear hN hm hor k1 n_l1 p2); omega), hp, by ((try clear hl hm hor k1 n_l1 p2); omega), by ((try clear hl hm hor k1 n_l1 p2); omega), m, hb, hm, fun hz H2 g2 => ⟨B.m_NoDepth_RestError, _, rfl, fun ea n_ea => ?_⟩, fun hd hz H2 g2 => ⟨B.m_TooDeep_RestError, _, rfl, fun ea n_ea => ?_⟩, fun c L M H2 hf _ _ _ _ _ => ?_⟩
    · generalize e_ea : upd _ ea _ = H3
      obtain ⟨g3, k3⟩ := newH e_ea n_ea
      clear e_ea
      (try dsimp only); (first | refine seqI ?_ | skip); try walk_at "dr1"; (try simp only [sp_endless_roots]); try walk_at "dr1"
      refine ⟨_, k3, B.f_NoDepth, _, B.i_NoDepth_ValueError, _, k3, B.f_NoDepth, _, B.i_NoDepth_NoDepth, _, k3, B.f_NoDepth, _, B.i_NoDepth_TooDeep, _, k3, B.f_NoDepth, _, B.i_NoDepth_NoBall, by decide, ?_⟩
      intro b1 n_b1; generalize e_b1 : upd _ b1 _ = H4; obtain ⟨g4, k4⟩ := newH e_b1 n_b1; clear e_b1
      (try dsimp only); (first | refine seqI ?_ | skip); try walk_at "dr1"; (try simp only [sp_endless_roots]); try walk_at "dr1"
      refine ⟨_, (g4 _ _ k3), B.f_NoDepth, _, B.i_NoDepth_NoInverse, _, (g4 _ _ k3), B.f_NoDepth, _, B.i_NoDepth_NoName, _, (g4 _ _ k3), B.f_NoDepth, _, B.i_NoDepth_NoParts, by decide, ?_⟩
      intro b2 n_b2; generalize e_b2 : upd _ b2 _ = H5; obtain ⟨g5, k5⟩ := newH e_b2 n_b2; clear e_b2
      refine ⟨_, g5 _ _ k4, _, k5, by decide, ?_⟩
      intro b3 n_b3; generalize e_b3 : upd _ b3 _ = H6; obtain ⟨g6, k6⟩ := newH e_b3 n_b3; clear e_b3
      have G6 := g4.trans (g5.trans g6)
      (try dsimp only); (first | refine seqI ?_ | skip); try walk_at "dr1"; (try simp only [sp_endless_roots]); try walk_at "dr1"
      refine ⟨_, (G6 _ _ k3), B.f_NoDepth, _, B.i_NoDepth_NoPrime, _, (G6 _ _ k3), B.f_NoDepth, _, B.i_NoDepth_NoRow, _, (G6 _ _ k3), B.f_NoDepth, _, B.i_NoDepth_NoSmall, by decide, ?_⟩
      intro b4 n_b4; generalize e_b4 : upd _ b4 _ = H7; obtain ⟨g7, k7⟩ := newH e_b4 n_b4; clear e_b4
      refine ⟨_, g7 _ _ k6, _, k7, by decide, ?_⟩
      intro b5 n_b5; generalize e_b5 : upd _ b5 _ = H8; obtain ⟨g8, k8⟩ := newH e_b5 n_b5; clear e_b5
      have G8 := G6.trans (g7.trans g8)
      (try dsimp only); (first | refine seqI ?_ | skip); try walk_at "dr1"; (try simp only [sp_endless_roots]); try walk_at "dr1"
      refine ⟨_, (G8 _ _ k3), B.f_NoDepth, _, B.i_NoDepth_NoText, _, (G8 _ _ k3), B.f_NoDepth, _, B.i_NoDepth_NoSingle, _, (G8 _ _ k3), B.f_NoDepth, _, B.i_NoDepth_TooGreat, by decide, ?_⟩
      intro b6 n_b6; generalize e_b6 : upd _ b6 _ = H9; obtain ⟨g9, k9⟩ := newH e_b6 n_b6; clear e_b6
      refine ⟨_, g9 _ _ k8, _, k9, by decide, ?_⟩
      intro b7 n_b7; generalize e_b7 : upd _ b7 _ = H10; obtain ⟨g10, k10⟩ := newH e_b7 n_b7; clear e_b7
      try dsimp only [Ends.gone]
      refine (hR _ _).mpr ⟨g1.trans (g2.trans (g3.trans (G8.trans (g9.trans g10)))), b7, ndK, _, k10, fun _ => rfl, fun ⟨x, hx, x0⟩ => absurd (hz x hx) x0, rfl⟩
    · generalize e_ea : upd _ ea _ = H3
      obtain ⟨g3, k3⟩ := newH e_ea n_ea
      clear e_ea
      (try dsimp only); (first | refine seqI ?_ | skip); try walk_at "dr1"; (try simp only [sp_endless_roots]); try walk_at "dr1"
      refine ⟨_, k3, B.f_TooDeep, _, B.i_TooDeep_ValueError, _, k3, B.f_TooDeep, _, B.i_TooDeep_NoDepth, _, k3, B.f_TooDeep, _, B.i_TooDeep_TooDeep, _, k3, B.f_TooDeep, _, B.i_TooDeep_NoBall, by decide, ?_⟩
      intro b1 n_b1; generalize e_b1 : upd _ b1 _ = H4; obtain ⟨g4, k4⟩ := newH e_b1 n_b1; clear e_b1
      (try dsimp only); (first | refine seqI ?_ | skip); try walk_at "dr1"; (try simp only [sp_endless_roots]); try walk_at "dr1"
      refine ⟨_, (g4 _ _ k3), B.f_TooDeep, _, B.i_TooDeep_NoInverse, _, (g4 _ _ k3), B.f_TooDeep, _, B.i_TooDeep_NoName, _, (g4 _ _ k3), B.f_TooDeep, _, B.i_TooDeep_NoParts, by decide, ?_⟩
      intro b2 n_b2; generalize e_b2 : upd _ b2 _ = H5; obtain ⟨g5, k5⟩ := newH e_b2 n_b2; clear e_b2
      refine ⟨_, g5 _ _ k4, _, k5, by decide, ?_⟩
      intro b3 n_b3; generalize e_b3 : upd _ b3 _ = H6; obtain ⟨g6, k6⟩ := newH e_b3 n_b3; clear e_b3
      have G6 := g4.trans (g5.trans g6)
      (try dsimp only); (first | refine seqI ?_ | skip); try walk_at "dr1"; (try simp only [sp_endless_roots]); try walk_at "dr1"
      refine ⟨_, (G6 _ _ k3), B.f_TooDeep, _, B.i_TooDeep_NoPrime, _, (G6 _ _ k3), B.f_TooDeep, _, B.i_TooDeep_NoRow, _, (G6 _ _ k3), B.f_TooDeep, _, B.i_TooDeep_NoSmall, by decide, ?_⟩
      intro b4 n_b4; generalize e_b4 : upd _ b4 _ = H7; obtain ⟨g7, k7⟩ := newH e_b4 n_b4; clear e_b4
      refine ⟨_, g7 _ _ k6, _, k7, by decide, ?_⟩
      intro b5 n_b5; generalize e_b5 : upd _ b5 _ = H8; obtain ⟨g8, k8⟩ := newH e_b5 n_b5; clear e_b5
      have G8 := G6.trans (g7.trans g8)
      (try dsimp only); (first | refine seqI ?_ | skip); try walk_at "dr1"; (try simp only [sp_endless_roots]); try walk_at "dr1"
      refine ⟨_, (G8 _ _ k3), B.f_TooDeep, _, B.i_TooDeep_NoText, _, (G8 _ _ k3), B.f_TooDeep, _, B.i_TooDeep_NoSingle, _, (G8 _ _ k3), B.f_TooDeep, _, B.i_TooDeep_TooGreat, by decide, ?_⟩
      intro b6 n_b6; generalize e_b6 : upd _ b6 _ = H9; obtain ⟨g9, k9⟩ := newH e_b6 n_b6; clear e_b6
      refine ⟨_, g9 _ _ k8, _, k9, by decide, ?_⟩
      intro b7 n_b7; generalize e_b7 : upd _ b7 _ = H10; obtain ⟨g10, k10⟩ := newH e_b7 n_b7; clear e_b7
      try dsimp only [Ends.gone]
      refine (hR _ _).mpr ⟨g1.trans (g2.trans (g3.trans (G8.trans (g9.trans g10)))), b7, tdK, _, k10, fun hz2 => ?_, fun _ => rfl, rfl⟩
      obtain ⟨x, hx, x0⟩ := hz
      exact absurd (hz2 x hx) x0
    · exfalso
      rcases hor with hz | hd
      · obtain ⟨cc, hc, _⟩ := hf
        obtain ⟨x, hx, n⟩ := hc.one
        rw [hz x hx] at n
        exact n (by simp)
      · exact hf.not_deep (by ((try clear hN hl hm k1 n_l1); omega)) hd
  intro σ' H2 z
  obtain ⟨g2, c, bs, t4, kc, h1, h2, rfl⟩ := (hR _ _).mp z
  clear hR z
  try (repeat (first | dsimp only [tSeq] | walk_at "dr1")); (try simp only [sp_endless_roots]); try (repeat (first | dsimp only [tSeq] | walk_at "dr1"))
  exact q c bs H2 g2 kc h1 h2
theorem neLB {K : PySem.W.Frag} {H : Hp} {a b : Addr} {Q : VK} (bs : List Bool) (h : SqL K H a (bs.map V.bl)) (h' : SqL K H b (bs.map V.bl)) (q : Q (.bl false) H) : rEqD K true (.ref a) (.ref b) H Q := by
  obtain ⟨d, e, h1, h2, h3, h4, h5⟩ := eqLB (Q := fun v _ => v = .bl true) bs h h' rfl
  refine ⟨d, e, h1, h2, h3, h4, ?_⟩
  rw [if_neg (by decide)] at h5
  have : PyData.eqv d e = true := by
    injection h5
  rw [if_pos rfl, this]
  exact q
theorem comp_scale {K : PySem.W.Frag} {H : Hp} {a : Addr} {l : List Int} {t : Int} {m : Nat} {σ : St} {Q : VK} {i : Nat} (hS : SqL K H a (l.map V.int)) (hl : l.length ≤ 60) (hb : Dr.PolyB l m) (hm : m ≤ 1000) (hi : σ[i]? = some (some (.int t))) (q : ∀ r, H r = none → Q (.ref r) (upd H r (.lst ((l.map ((1 + t % 4) * ·)).map V.int)))) :
    CompIt (Itl K a) [i] (fun _ H Q => Q true H) (tOp (rI IntMulOk fun i j => V.int (i * j)) (tOp (rI0 fun i j => V.int (i + j)) (tC (V.int 1)) (tOp (rI (fun _ j => 0 < j) fun i j => V.int (i % j)) (tVar 1) (tC (V.int 4)))) (tVar 0)) σ H Q := by
  obtain ⟨Pc, hPc⟩ : ∃ Pc : Nat → List V → Hp → Prop, ∀ i ys H1, Pc i ys H1 ↔ (H1 = H ∧ ys = ((l.take i).map ((1 + t % 4) * ·)).map V.int) := ⟨_, fun _ _ _ => Iff.rfl⟩
  have m4 := mod_in t (show (0 : Int) < 4 by decide)
  refine compI l Pc (by unfold sizeLine; ((try clear hi hm m4); omega)) ((hPc _ _ _).mpr ⟨rfl, by simp⟩) (fun i ys H4 z => by obtain ⟨rfl, _⟩ := (hPc _ _ _).mp z; exact hS) ?_ ?_
  · intro j c ys H1 hc z
    obtain ⟨rfl, rfl⟩ := (hPc _ _ _).mp z
    simp only [capV, List.map_cons, List.map_nil, hi, Option.getD_some]
    try (repeat (first | dsimp only [tSeq] | walk_at "dr1"))
    refine ⟨mulSm (sm_of (k := 3) 4 (by ((try clear hc hi hl hm); omega)) (by decide)) (hb c (List.mem_of_getElem? hc)) (by ((try clear hc hi hl m4); omega)), (hPc _ _ _).mpr ⟨rfl, ?_⟩⟩
    rw [List.take_add_one, hc, List.map_append, List.map_append]
    simp
  · intro ys H1 z
    obtain ⟨rfl, rfl⟩ := (hPc _ _ _).mp z
    intro r hr
    have := q r hr
    rw [List.take_length]
    exact this
theorem ok_law (B : Bi mg K) (d_endless_roots : DefE P w K mg base "endless_roots" 66 ["p", "f", "N"] (sp_endless_roots K)) (d__law_cell_at : Def P w K mg base "_law_cell_at" 1 ["script", "k"] (sp__law_cell_at K)) (d__law_prime : Def P w K mg base "_law_prime" 1 ["cell"] (sp__law_prime K)) (d__law_times : Def P w K mg base "_law_times" 1 ["f", "g"] (sp__law_times K)) (d__law_power : Def P w K mg base "_law_power" 1 ["p", "e"] (sp__law_power K)) (d__law_twice : Def P w K mg base "_law_twice" 2 ["p", "t", "cell"] (sp__law_twice K)) (d__law_kinds : Def P w K mg base "_law_kinds" 67 ["p", "f", "N"] (sp__law_kinds K)) (F : Fun K "law" "law" s_law f fd) : FnOk P w K mg base CX0 68 f fd ["script"] (spLaw K) := by
  refine F.ok S_law (fun vs H Q E h => ?_) (fun cdv A outer s H vs Q E hr h => ?_)
  · obtain ⟨a, ns, rfl, _⟩ := h
    rfl
  obtain ⟨a, ns, rfl, hS, hl, hbits, q⟩ := h
  have S := S_law
  refine ⟨_, ((pss_cons (ps_set (i := 1) S.nd rfl (Or.inl rfl) (pe_def d__law_prime hr rfl (pa_cons (pe_def d__law_cell_at hr rfl (pa_cons (pv 0) (pa_cons pe_int pa_nil))) pa_nil)))
    (pss_cons (ps_for PassesOwn.never rfl (pi_range2 rfl B.b_range (pa_cons pe_int (pa_cons (pe_callB (call_max2 rfl) rfl B.b_max L2.bt_max (pa_cons pe_int (pa_cons (pe_callB (call_min2 rfl) rfl B.b_min L2.bt_min (pa_cons (pe_callB call_len_seq rfl B.b_len PySem.boot_len (pa_cons (pv 0) pa_nil)) (pa_cons (pe_op op_add pe_int (pe_op op_mulW pe_int (pe_callTy call_intB rfl B.b_int L2.bt_int (pa_cons (pe_cmpR op_lt (pv 1) pe_int (nomark _)) pa_nil)))) pa_nil))) pa_nil))) pa_nil))) (pg_name (i := 2) S.nd rfl (Or.inl rfl)) (pss_cons (ps_set (i := 3) S.nd rfl (Or.inr rfl) (pe_def d__law_cell_at hr rfl (pa_cons (pv 0) (pa_cons (pv 2) pa_nil))))
    (pss_cons (ps_set (i := 4) S.nd rfl (Or.inl rfl) (pe_op op_mod (pv 3) pe_int))
    (pss_cons (ps_set (i := 5) S.nd rfl (Or.inl rfl) (pe_op op_sub (pe_op op_mod (pe_op op_fdivW (pv 3) pe_int) pe_int) pe_int))
    (pss_cons (ps_set (i := 6) S.nd rfl (Or.inl rfl) (pe_op op_sub (pe_op op_mod (pe_op op_fdivW (pv 3) pe_int) pe_int) pe_int))
    (pss_cons (ps_join (ps_if (pt_cmpR op_eq (pe_op op_mod (pe_op op_fdivW (pv 3) pe_int) pe_int) pe_int (nomark _)) (pss_one (ps_set (i := 6) S.nd rfl (Or.inl rfl) (pe_op op_mod (pv 3) (pe_op op_pow pe_int pe_int)))) pss_nil))
    (pss_cons (ps_set (i := 7) S.nd rfl (Or.inl rfl) (pe_def d__law_times hr rfl (pa_cons (pe_def d__law_twice hr rfl (pa_cons (pv 1) (pa_cons (pv 6) (pa_cons (pe_op op_fdivW (pv 3) pe_int) pa_nil)))) (pa_cons (pe_comp [3] ["cell"] rfl rfl ⟨rfl, trivial⟩ ⟨rfl, rfl, rfl, rfl, trivial⟩ rfl rfl (by decide) (by decide) rfl rfl (by decide) (pi_list (pe_lst (pa_cons (pe_op op_sub pe_int (pv 5)) (pa_cons pe_int pa_nil)))) (fun _ _ _ _ => pts_nil) (fun _ _ _ _ => (pe_op op_mulW (pe_op op_add pe_int (pe_op op_mod (pv 1) pe_int)) (pv 0)))) pa_nil))))
    (pss_cons (ps_set (i := 8) S.nd rfl (Or.inl rfl) (pe_op op_rep (pe_lst (pa_cons pe_int pa_nil)) (pe_op op_add pe_int (pe_op op_mod (pv 3) pe_int))))
    (pss_cons (ps_set (i := 9) S.nd rfl (Or.inl rfl) (pe_callTy call_list_of rfl B.b_list L2.bt_list (pa_cons (pv 8) pa_nil)))
    (pss_cons (ps_set (i := 10) S.nd rfl (Or.inl rfl) (pe_callTy call_list_of rfl B.b_list L2.bt_list (pa_cons (pv 7) pa_nil)))
    (pss_cons (ps_if (PW.pt (pw_or (pt_cmpR (op_neD hr.units) (pe_def d__law_kinds hr rfl (pa_cons (pv 1) (pa_cons (pv 9) (pa_cons (pv 4) pa_nil)))) (pe_op op_cat (pe_lst (pa_cons pe_bl (pa_cons pe_bl pa_nil))) (pe_op op_rep (pe_lst (pa_cons pe_bl pa_nil)) pe_int)) (nomark _)) (pw_or1 (pt_cmpR (op_neD hr.units) (pv 9) (pv 8) (nomark _))))) (pss_one (ps_ret pe_bl)) pss_nil)
    (pss_cons (ps_if (PW.pt (pw_or (pt_cmpR (op_neD hr.units) (pe_def d__law_kinds hr rfl (pa_cons (pv 1) (pa_cons (pv 10) (pa_cons (pv 4) pa_nil)))) (pe_op op_cat (pe_lst (pa_cons pe_bl (pa_cons pe_bl (pa_cons pe_bl pa_nil)))) (pe_op op_rep (pe_lst (pa_cons pe_bl pa_nil)) pe_int)) (nomark _)) (pw_or1 (pt_cmpR (op_neD hr.units) (pv 10) (pv 7) (nomark _))))) (pss_one (ps_ret pe_bl)) pss_nil)
    (pss_cons (ps_set (i := 11) S.nd rfl (Or.inl rfl) (pe_def d__law_power hr rfl (pa_cons (pv 1) (pa_cons (pv 4) pa_nil))))
    (pss_cons (ps_if (pt_cmpR (op_neD hr.units) (pe_defE pass00 d_endless_roots hr rfl (pa_cons (pv 1) (pa_cons (pe_lst (pa_cons (pe_op op_sub pe_int (pv 5)) (pa_cons pe_int pa_nil))) (pa_cons (pv 4) pa_nil)))) (pe_lst (pa_cons (pe_op op_mod (pv 5) (pv 11)) pa_nil)) (nomark _)) (pss_one (ps_ret pe_bl)) pss_nil)
    (pss_one (ps_if (pt_cmpR op_lt (pv 1) pe_int (nomark _)) (pss_cons (ps_set (i := 12) S.nd rfl (Or.inl rfl) (pe_op op_add (pv 6) (pe_def d__law_power hr rfl (pa_cons (pv 1) (pa_cons pe_int pa_nil)))))
    (pss_cons (ps_set (i := 13) S.nd rfl (Or.inl rfl) (pe_def d__law_times hr rfl (pa_cons (pe_lst (pa_cons (pe_op op_sub pe_int (pv 6)) (pa_cons pe_int pa_nil))) (pa_cons (pe_lst (pa_cons (pe_op op_sub pe_int (pv 12)) (pa_cons pe_int pa_nil))) pa_nil))))
    (pss_one (ps_if (pt_cmpR (op_neD hr.units) (pe_defE pass00 d_endless_roots hr rfl (pa_cons (pv 1) (pa_cons (pv 13) (pa_cons (pv 4) pa_nil)))) (pe_callB (call_sortedI rfl) rfl B.b_sorted bt_sorted (pa_cons (pe_lst (pa_cons (pe_op op_mod (pv 6) (pv 11)) (pa_cons (pe_op op_mod (pv 12) (pv 11)) pa_nil))) pa_nil)) (nomark _)) (pss_one (ps_ret pe_bl)) pss_nil)))) pss_nil))))))))))))))))
    (pss_one (ps_ret pe_bl))))), ?_⟩
  (try dsimp only); (first | refine seqI ?_ | skip); try walk_at "dr1"; (try simp only [sp_endless_roots, sp__law_cell_at, sp__law_prime, sp__law_times, sp__law_power, sp__law_twice, sp__law_kinds]); try walk_at "dr1"
  refine ⟨ns, hS, hl, fun p H1 hp g1 => ?_⟩
  have p2 := Dr.primes_ge hp
  have hpp : 2 ≤ p ∧ p < 1000 := by ((try clear hl); omega)
  (try dsimp only); (first | refine seqI ?_ | skip); try walk_at "dr1"; (try simp only [sp_endless_roots, sp__law_cell_at, sp__law_prime, sp__law_times, sp__law_power, sp__law_twice, sp__law_kinds]); try walk_at "dr1"
  refine ⟨_, .inl (g1.seq hS), ?_⟩
  rw [List.length_map]
  generalize eT : (if _ > (2 : Int) then _ else (2 : Int)) = T
  have bT : 2 ≤ T ∧ T ≤ 4 := by
    rw [← eT]
    split <;> split <;> split <;> ((try clear eT hpp p2); omega)
  clear eT
  refine ⟨IntMulOk.of_left (by decide), by decide, by decide, by ((try clear hl hpp p2); omega), by ((try clear hl hpp p2); omega), ?_⟩
  obtain ⟨Pv, hPv⟩ : ∃ Pv : Nat → St → Hp → Prop, ∀ i σ H2, Pv i σ H2 ↔ (Same H H2 ∧ ∃ (t2 t3 t4 t5 t6 t7 t8 t9 t10 t11 t12 t13 : Option V), σ = [some (.ref a), some (.int p), t2, t3, t4, t5, t6, t7, t8, t9, t10, t11, t12, t13]) := ⟨_, fun _ _ _ => Iff.rfl⟩
  refine forR Pv ((hPv _ _ _).mpr ⟨g1, _, _, _, _, _, _, _, _, _, _, _, _, rfl⟩) ?_ (fun σ H' _ => ?_)
  case refine_2 =>
    try (repeat (first | dsimp only [tSeq] | walk_at "dr1")); (try simp only [sp_endless_roots, sp__law_cell_at, sp__law_prime, sp__law_times, sp__law_power, sp__law_twice, sp__law_kinds]); try (repeat (first | dsimp only [tSeq] | walk_at "dr1"))
    exact q H'
  intro i σ H2 hi z
  obtain ⟨G2, t2, t3, t4, t5, t6, t7, t8, t9, t10, t11, t12, t13, rfl⟩ := (hPv _ _ _).mp z
  have hS2 := G2.seq hS
  have hk : (0 : Int) ≤ 1 + (i : Int) ∧ (1 : Int) + (i : Int) < 60 := by ((try clear hl hpp p2); omega)
  generalize (1 : Int) + (i : Int) = k at hk ⊢
  (try dsimp only); (first | refine seqI ?_ | skip); try walk_at "dr1"; (try simp only [sp_endless_roots, sp__law_cell_at, sp__law_prime, sp__law_times, sp__law_power, sp__law_twice, sp__law_kinds]); try walk_at "dr1"
  refine ⟨ns, hS2, hl, by ((try clear bT hi hl hpp p2); omega), by ((try clear bT hi hl hpp p2); omega), ?_⟩
  generalize cellz ns k = cell
  (try dsimp only); (first | refine seqI ?_ | skip); try walk_at "dr1"; (try simp only [sp_endless_roots, sp__law_cell_at, sp__law_prime, sp__law_times, sp__law_power, sp__law_twice, sp__law_kinds]); try walk_at "dr1"
  have mN := mod_in cell (show (0 : Int) < 61 by decide)
  have m4 := mod_in cell (show (0 : Int) < 4 by decide)
  have m13 := mod_in cell (show (0 : Int) < 13 by decide)
  have mu := mod_in (cell / 61) (show (0 : Int) < 41 by decide)
  have mt := mod_in (cell / 2501) (show (0 : Int) < 41 by decide)
  generalize cell % 61 = N at mN ⊢
  (try dsimp only); (first | refine seqI ?_ | skip); try walk_at "dr1"; (try simp only [sp_endless_roots, sp__law_cell_at, sp__law_prime, sp__law_times, sp__law_power, sp__law_twice, sp__law_kinds]); try walk_at "dr1"
  refine ⟨⟨by decide, by decide⟩, ?_⟩
  obtain ⟨u, eu⟩ : ∃ u, u = cell / 61 % 41 - 20 := ⟨_, rfl⟩
  rw [← eu]
  have bu : -20 ≤ u ∧ u ≤ 20 := by ((try clear bT hi hk hl hpp m13 m4 mN mt p2); omega)
  (try dsimp only); (first | refine seqI ?_ | skip); try walk_at "dr1"; (try simp only [sp_endless_roots, sp__law_cell_at, sp__law_prime, sp__law_times, sp__law_power, sp__law_twice, sp__law_kinds]); try walk_at "dr1"
  refine ⟨⟨by decide, by decide⟩, ?_⟩
  refine seqI ?_
  obtain ⟨R, hR⟩ : ∃ R : St → Hp → Prop, ∀ σ' H3, R σ' H3 ↔ (H3 = H2 ∧ ∃ t : Int, Dr.Sm t 70 ∧ σ' = [some (.ref a), some (.int p), some (.int k), some (.int cell), some (.int N), some (.int u), some (.int t), t7, t8, t9, t10, t11, t12, t13]) := ⟨_, fun _ _ => Iff.rfl⟩
  refine joinB R ?_ ?_
  · try (repeat (first | dsimp only [tSeq] | walk_at "dr1")); (try simp only [sp_endless_roots, sp__law_cell_at, sp__law_prime, sp__law_times, sp__law_power, sp__law_twice, sp__law_kinds]); try (repeat (first | dsimp only [tSeq] | walk_at "dr1"))
    have e20 : (10 : Int) ^ (20 : Int).toNat = 100000000000000000000 := by decide
    rw [e20]
    have m20 := mod_in cell (show (0 : Int) < 100000000000000000000 by decide)
    refine ⟨⟨by decide, by decide⟩, ite2 (fun _ => ?_) (fun _ => ?_)⟩
    · exact ⟨⟨by decide, by decide, by decide⟩, by decide, (hR _ _).mpr ⟨rfl, _, sm_of 100000000000000000000 (by ((try clear bT bu e20 eu hi hk hl hpp m13 m4 mN mt mu p2); omega)) (by decide), rfl⟩⟩
    · exact (hR _ _).mpr ⟨rfl, _, sm_of 50 (by ((try clear bT bu e20 eu hi hk hl hpp m13 m20 m4 mN mu p2); omega)) (by decide), rfl⟩
  intro σ' H3 z
  obtain ⟨rfl, t, bt, rfl⟩ := (hR _ _).mp z
  clear hR z
  (try dsimp only); (first | refine seqI ?_ | skip); try walk_at "dr1"; (try simp only [sp_endless_roots, sp__law_cell_at, sp__law_prime, sp__law_times, sp__law_power, sp__law_twice, sp__law_kinds]); try walk_at "dr1"
  refine ⟨⟨by decide, by decide⟩, hp, bt, fun lt tw H4 dt lt3 btw g4 k4 => ⟨by decide, ?_⟩⟩
  intro l5 n_l5; generalize e_l5 : upd _ l5 _ = H5; obtain ⟨g5, k5⟩ := newH e_l5 n_l5; clear e_l5
  have k5 : H5 l5 = some (.lst ([0 - u, 1].map V.int)) := k5
  have b5 : Dr.PolyB [0 - u, 1] 6 := fun x hx => by
    simp only [List.mem_cons, List.not_mem_nil, or_false] at hx
    rcases hx with z | z <;> rw [z] <;> exact sm_of 21 (by ((try clear bT bu hi hk hl hpp k4 k5 lt3 m13 m4 mN mt n_l5 p2); omega)) (by decide)
  refine ⟨⟨_, SqL.of k5⟩, comp_scale (SqL.of k5) (by simp) b5 (by decide) rfl ?_⟩
  intro l6 n_l6; generalize e_l6 : upd _ l6 _ = H6; obtain ⟨g6, k6⟩ := newH e_l6 n_l6; clear e_l6
  have b6 : Dr.PolyB ([0 - u, 1].map ((1 + cell % 4) * ·)) 10 := fun x hx => by
    obtain ⟨y, hy, rfl⟩ := List.mem_map.mp hx
    exact ((sm_of (k := 3) 4 (by ((try clear bT bu eu hi hk hl hpp k4 k5 k6 lt3 m13 mN mt mu n_l5 n_l6 p2); omega)) (by decide)).mul (b5 y hy)).mono (by decide)
  refine ⟨l6, rfl, tw, SqL.of (g6 _ _ (g5 _ _ k4)), _, SqL.of k6, by ((try clear bT bu eu hi hk hl hpp k4 k5 k6 m13 m4 mN mt mu n_l5 n_l6 p2); omega), by ((try clear bT bu eu hi hk hl hpp k4 k5 k6 m13 m4 mN mt mu n_l5 n_l6 p2); omega), by simp, by simp, 1400, btw, 10, b6, by decide, by decide, fun lf f H7 hpr bf nf g7 kf => ?_⟩
  have G7 := g4.trans (g5.trans (g6.trans g7))
  have lf4 : f.length = 4 := by
    have := hpr.len
    simp only [List.length_map, List.length_cons, List.length_nil] at this
    ((try clear bT bu eu hi hk hl hpp k4 k5 k6 kf m13 m4 mN mt mu n_l5 n_l6 nf p2); omega)
  have df : Dr.Deep p 60 f := Dr.Deep.mul hp dt ⟨(1 + cell % 4) * 1, by simp, by ((try clear bT bu eu hi hk hl hpp k4 k5 k6 kf lf4 lt3 m13 mN mt mu n_l5 n_l6 nf p2); omega)⟩ hpr
  have nzf : ∃ x, x ∈ f ∧ x ≠ 0 := by
    obtain ⟨c, _, _, hc, _⟩ := id df
    obtain ⟨x, hx, n⟩ := hc.one
    exact ⟨x, hx, fun z => n (by rw [z]; simp)⟩
  have bf : Dr.PolyB f 1422 := bf
  (try dsimp only); (first | refine seqI ?_ | skip); try walk_at "dr1"; (try simp only [sp_endless_roots, sp__law_cell_at, sp__law_prime, sp__law_times, sp__law_power, sp__law_twice, sp__law_kinds]); try walk_at "dr1"
  refine ⟨by decide, ?_⟩
  intro l8 n_l8; generalize e_l8 : upd _ l8 _ = H8; obtain ⟨g8, k8⟩ := newH e_l8 n_l8; clear e_l8
  refine ⟨_, k8, by ((try clear bT bu eu hi hk hl hpp k4 k5 k6 k8 kf lf4 lt3 m4 mN mt mu n_l5 n_l6 n_l8 nf p2); omega), by ((try clear bT bu eu hi hk hl hpp k4 k5 k6 k8 kf lf4 lt3 m4 mN mt mu n_l5 n_l6 n_l8 nf p2); omega), by simp only [List.length_cons, List.length_nil]; unfold sizeLine; ((try clear bT bu eu hi hk hl hpp k4 k5 k6 k8 kf lf4 lt3 m4 mN mt mu n_l5 n_l6 n_l8 nf p2); omega), ?_⟩
  intro ln n_ln; generalize e_ln : upd _ ln _ = H9; obtain ⟨g9, k9⟩ := newH e_ln n_ln; clear e_ln
  obtain ⟨n, en⟩ : ∃ n : Nat, n = (1 + cell % 13).toNat := ⟨_, rfl⟩
  have bn : 1 ≤ n ∧ n ≤ 13 := by ((try clear bT bu eu hi hk hl hpp k4 k5 k6 k8 k9 kf lf4 lt3 m4 mN mt mu n_l5 n_l6 n_l8 n_ln nf p2); omega)
  rw [← en] at k9
  have k9 : H9 ln = some (.lst ((List.replicate n (0 : Int)).map V.int)) := by
    rw [k9, List.flatten_replicate_singleton, List.map_replicate]
  (try dsimp only); (first | refine seqI ?_ | skip); try walk_at "dr1"; (try simp only [sp_endless_roots, sp__law_cell_at, sp__law_prime, sp__law_times, sp__law_power, sp__law_twice, sp__law_kinds]); try walk_at "dr1"
  refine ⟨_, .inl (SqL.of k9), ?_⟩
  intro lo n_lo; generalize e_lo : upd _ lo _ = H10; obtain ⟨g10, k10⟩ := newH e_lo n_lo; clear e_lo
  have kf10 := g10 _ _ (g9 _ _ (g8 _ _ kf))
  (try dsimp only); (first | refine seqI ?_ | skip); try walk_at "dr1"; (try simp only [sp_endless_roots, sp__law_cell_at, sp__law_prime, sp__law_times, sp__law_power, sp__law_twice, sp__law_kinds]); try walk_at "dr1"
  refine ⟨_, .inl (SqL.of kf10), ?_⟩
  intro lx n_lx; generalize e_lx : upd _ lx _ = H11; obtain ⟨g11, k11⟩ := newH e_lx n_lx; clear e_lx
  have kf11 := g11 _ _ kf10
  have kn11 := g11 _ _ (g10 _ _ k9)
  have ko11 := g11 _ _ k10
  have G11 := G7.trans (g8.trans (g9.trans (g10.trans g11)))
  clear k8 k9 k10 k4 k5 k6
  (try dsimp only); (first | refine seqI ?_ | skip); try walk_at "dr1"; (try simp only [sp_endless_roots, sp__law_cell_at, sp__law_prime, sp__law_times, sp__law_power, sp__law_twice, sp__law_kinds]); try walk_at "dr1"
  refine ⟨List.replicate n 0, SqL.of ko11, by rw [List.length_replicate]; ((try clear bT bu eu hi hk hl hpp k11 k5 k9 kf kf10 kf11 kn11 ko11 lf4 lt3 m13 m4 mN mt mu n_l5 n_l6 n_l8 n_ln n_lo n_lx nf p2); omega), by rw [List.length_replicate]; ((try clear bT bu eu hi hk hl hpp k11 k5 k9 kf kf10 kf11 kn11 ko11 lf4 lt3 m13 m4 mN mt mu n_l5 n_l6 n_l8 n_ln n_lo n_lx nf p2); omega), hp, by ((try clear bT bn bu en eu hi hk hl hpp k11 k5 k9 kf kf10 kf11 kn11 ko11 lf4 lt3 m13 m4 mt mu n_l5 n_l6 n_l8 n_ln n_lo n_lx nf p2); omega), by ((try clear bT bn bu en eu hi hk hl hpp k11 k5 k9 kf kf10 kf11 kn11 ko11 lf4 lt3 m13 m4 mt mu n_l5 n_l6 n_l8 n_ln n_lo n_lx nf p2); omega), 1, fun x hx => by rw [(List.mem_replicate.mp hx).2]; exact Dr.Sm.zero _, by decide, .inl (fun x hx => (List.mem_replicate.mp hx).2), fun c1 bs H12 g12 k12 h1 _ => ⟨by decide, ?_⟩⟩
  have e12 := h1 (fun x hx => (List.mem_replicate.mp hx).2)
  subst e12
  intro d1 n_d1; generalize e_d1 : upd _ d1 _ = J1; obtain ⟨i1, w1⟩ := newH e_d1 n_d1; clear e_d1
  refine ⟨by decide, ?_⟩
  intro d2 n_d2; generalize e_d2 : upd _ d2 _ = J2; obtain ⟨i2, w2⟩ := newH e_d2 n_d2; clear e_d2
  refine ⟨_, w2, by decide, by decide, by decide, ?_⟩
  intro d3 n_d3; generalize e_d3 : upd _ d3 _ = J3; obtain ⟨i3, w3⟩ := newH e_d3 n_d3; clear e_d3
  refine ⟨_, i3 _ _ (i2 _ _ w1), _, w3, by decide, ?_⟩
  intro d4 n_d4; generalize e_d4 : upd _ d4 _ = J4; obtain ⟨i4, w4⟩ := newH e_d4 n_d4; clear e_d4
  have I4 := i1.trans (i2.trans (i3.trans i4))
  refine neLB ndK (SqL.of (I4 _ _ k12)) (SqL.of w4) ⟨_, rfl, ?_⟩
  rw [if_neg (by decide)]
  have G12 := g12.trans I4
  refine neL1 (SqL.of (G12 _ _ ko11)) (SqL.of (G12 _ _ kn11)) ⟨_, rfl, ?_⟩
  rw [if_neg (by decide)]
  have kf12 := G12 _ _ kf11
  have kx12 := G12 _ _ k11
  clear w1 w2 w3 w4 k12 k11 kf11 ko11 kn11
  (try dsimp only); (first | refine seqI ?_ | skip); try walk_at "dr1"; (try simp only [sp_endless_roots, sp__law_cell_at, sp__law_prime, sp__law_times, sp__law_power, sp__law_twice, sp__law_kinds]); try walk_at "dr1"
  refine ⟨f, SqL.of kx12, by ((try clear bT bn bu en eu hi hk hl hpp k5 k9 kf kf10 kf12 kx12 lt3 m13 m4 mN mt mu n_d1 n_d2 n_d3 n_d4 n_l5 n_l6 n_l8 n_ln n_lo n_lx nf p2); omega), by ((try clear bT bn bu en eu hi hk hl hpp k5 k9 kf kf10 kf12 kx12 lt3 m13 m4 mN mt mu n_d1 n_d2 n_d3 n_d4 n_l5 n_l6 n_l8 n_ln n_lo n_lx nf p2); omega), hp, by ((try clear bT bn bu en eu hi hk hl hpp k5 k9 kf kf10 kf12 kx12 lf4 lt3 m13 m4 mt mu n_d1 n_d2 n_d3 n_d4 n_l5 n_l6 n_l8 n_ln n_lo n_lx nf p2); omega), by ((try clear bT bn bu en eu hi hk hl hpp k5 k9 kf kf10 kf12 kx12 lf4 lt3 m13 m4 mt mu n_d1 n_d2 n_d3 n_d4 n_l5 n_l6 n_l8 n_ln n_lo n_lx nf p2); omega), 1422, bf, by decide, .inr df, fun c2 bs2 H13 g13 k13 _ h2 => ⟨by decide, ?_⟩⟩
  have e13 := h2 nzf
  subst e13
  intro d5 n_d5; generalize e_d5 : upd _ d5 _ = J5; obtain ⟨i5, w5⟩ := newH e_d5 n_d5; clear e_d5
  refine ⟨by decide, ?_⟩
  intro d6 n_d6; generalize e_d6 : upd _ d6 _ = J6; obtain ⟨i6, w6⟩ := newH e_d6 n_d6; clear e_d6
  refine ⟨_, w6, by decide, by decide, by decide, ?_⟩
  intro d7 n_d7; generalize e_d7 : upd _ d7 _ = J7; obtain ⟨i7, w7⟩ := newH e_d7 n_d7; clear e_d7
  refine ⟨_, i7 _ _ (i6 _ _ w5), _, w7, by decide, ?_⟩
  intro d8 n_d8; generalize e_d8 : upd _ d8 _ = J8; obtain ⟨i8, w8⟩ := newH e_d8 n_d8; clear e_d8
  have I8 := i5.trans (i6.trans (i7.trans i8))
  refine neLB tdK (SqL.of (I8 _ _ k13)) (SqL.of w8) ⟨_, rfl, ?_⟩
  rw [if_neg (by decide)]
  have G13 := g13.trans I8
  refine neL1 (SqL.of (G13 _ _ kx12)) (SqL.of (G13 _ _ kf12)) ⟨_, rfl, ?_⟩
  rw [if_neg (by decide)]
  have G := G2.trans (G11.trans (G12.trans G13))
  clear w5 w6 w7 w8 k13 kf12 kx12
  (try dsimp only); (first | refine seqI ?_ | skip); try walk_at "dr1"; (try simp only [sp_endless_roots, sp__law_cell_at, sp__law_prime, sp__law_times, sp__law_power, sp__law_twice, sp__law_kinds]); try walk_at "dr1"
  refine ⟨hpp.1, hpp.2, by ((try clear bT bn bu en eu hi hk hl hpp k5 k9 kf kf10 lf4 lt3 m13 m4 mt mu n_d1 n_d2 n_d3 n_d4 n_d5 n_d6 n_d7 n_d8 n_l5 n_l6 n_l8 n_ln n_lo n_lx nf p2); omega), by ((try clear bT bn bu en eu hi hk hl hpp k5 k9 kf kf10 lf4 lt3 m13 m4 mt mu n_d1 n_d2 n_d3 n_d4 n_d5 n_d6 n_d7 n_d8 n_l5 n_l6 n_l8 n_ln n_lo n_lx nf p2); omega), ?_⟩
  (try dsimp only); (first | refine seqI ?_ | skip); try walk_at "dr1"; (try simp only [sp_endless_roots, sp__law_cell_at, sp__law_prime, sp__law_times, sp__law_power, sp__law_twice, sp__law_kinds]); try walk_at "dr1"
  refine ⟨by decide, ?_⟩
  intro l14 n_l14; generalize e_l14 : upd _ l14 _ = H14; obtain ⟨g14, k14⟩ := newH e_l14 n_l14; clear e_l14
  have k14 : H14 l14 = some (.lst ([0 - u, 1].map V.int)) := k14
  have q0 := Dr.pow_pos hpp.1 N.toNat
  have one : (1 : Int) % p ≠ 0 := by rw [Int.emod_eq_of_lt (by ((try clear bT bn bu en eu hi hk hl hpp k14 k5 k9 kf kf10 lf4 lt3 m13 m4 mN mt mu n_d1 n_d2 n_d3 n_d4 n_d5 n_d6 n_d7 n_d8 n_l14 n_l5 n_l6 n_l8 n_ln n_lo n_lx nf p2 q0); omega)) (by ((try clear bT bn bu en eu hi hk hl hpp k14 k5 k9 kf kf10 lf4 lt3 m13 m4 mN mt mu n_d1 n_d2 n_d3 n_d4 n_d5 n_d6 n_d7 n_d8 n_l14 n_l5 n_l6 n_l8 n_ln n_lo n_lx nf q0); omega))]; decide
  have f1 : Dr.Fct p [0 - u, 1] [(u, 1)] := Dr.Fct.lin (Dr.Fct.start hpp.1 (k := 1) (by decide)) ⟨by simp, fun x => by simp [Dr.pev]⟩ one
  have hvl : ∀ w : Int, Dr.vl p N.toNat (fun _ => 1) 0 0 (w, 1) = w % p ^ N.toNat := fun w => by
    unfold Dr.vl
    rw [Int.pow_zero, Int.one_mul, Int.zero_add, Int.mul_one]
  refine ⟨[0 - u, 1], SqL.of k14, by simp, by simp, hp, by ((try clear bT bn bu en eu hi hk hl hpp k14 k5 k9 kf kf10 lf4 lt3 m13 m4 mt mu n_d1 n_d2 n_d3 n_d4 n_d5 n_d6 n_d7 n_d8 n_l14 n_l5 n_l6 n_l8 n_ln n_lo n_lx nf one p2 q0); omega), by ((try clear bT bn bu en eu hi hk hl hpp k14 k5 k9 kf kf10 lf4 lt3 m13 m4 mt mu n_d1 n_d2 n_d3 n_d4 n_d5 n_d6 n_d7 n_d8 n_l14 n_l5 n_l6 n_l8 n_ln n_lo n_lx nf one p2 q0); omega), 6, b5, by decide, fun z => absurd (z 1 (by simp)) (by decide), fun z => absurd (List.pairwise_singleton _ _) ((Dr.Fct.deep hp f1 (.inl (by decide))).mp z), fun c15 L M H15 hf hLM _ _ g15 k15 => ⟨q0, by decide, ?_⟩⟩
  intro l16 n_l16; generalize e_l16 : upd _ l16 _ = H16; obtain ⟨g16, k16⟩ := newH e_l16 n_l16; clear e_l16
  have eM := hLM.trans (Dr.Fct.found (β := fun _ => 1) hp f1 (fun w hw => by rw [List.mem_singleton.mp hw]; simp) hf)
  rw [List.map_cons, List.map_nil, hvl] at eM
  have eL := List.perm_singleton.mp eM
  subst eL
  refine neL1 (SqL.of (g16 _ _ k15)) (SqL.of k16) ⟨_, rfl, ?_⟩
  rw [if_neg (by decide)]
  have G16 := G.trans (g14.trans (g15.trans g16))
  clear k14 k15 k16 eM
  (try dsimp only); (first | refine seqI ?_ | skip); try walk_at "dr1"; (try simp only [sp_endless_roots, sp__law_cell_at, sp__law_prime, sp__law_times, sp__law_power, sp__law_twice, sp__law_kinds]); try walk_at "dr1"
  refine ite2 (fun c11 => ?_) (fun _ => (hPv _ _ _).mpr ⟨G16, _, _, _, _, _, _, _, _, _, _, _, _, rfl⟩)
  have b59 : Dr.Sm (p ^ 59) 631 := (show Dr.Sm (p ^ 59) (10 * 59 + 1) from pow_bits hpp _).mono (by decide)
  (try dsimp only); (first | refine seqI ?_ | skip); try walk_at "dr1"; (try simp only [sp_endless_roots, sp__law_cell_at, sp__law_prime, sp__law_times, sp__law_power, sp__law_twice, sp__law_kinds]); try walk_at "dr1"
  refine ⟨hpp.1, hpp.2, ?_⟩
  rw [show Int.toNat 59 = 59 from rfl]
  obtain ⟨v, ev⟩ : ∃ v, v = t + p ^ 59 := ⟨_, rfl⟩
  rw [← ev]
  have bv : Dr.Sm v 640 := by rw [ev]; exact (bt.add b59).mono (by decide)
  have bx : ∀ {w : Int} {n : Nat}, Dr.Sm w n → 2 ≤ n → Dr.PolyB [0 - w, 1] (n + 1) := fun {w n} hw hn x hx => by
    simp only [List.mem_cons, List.not_mem_nil, or_false] at hx
    rcases hx with z | z <;> rw [z]
    · have := (Dr.Sm.zero n).sub hw
      rwa [Nat.max_self] at this
    · exact (sm_of (k := 1) 1 (by decide) (by decide)).mono (by ((try clear bT bn bu c11 en eu ev hi hk hl hpp k14 k5 k9 kf kf10 lf4 lt3 m13 m4 mN mt mu n_d1 n_d2 n_d3 n_d4 n_d5 n_d6 n_d7 n_d8 n_l14 n_l16 n_l5 n_l6 n_l8 n_ln n_lo n_lx nf one p2 q0 z); omega))
  (try dsimp only); (first | refine seqI ?_ | skip); try walk_at "dr1"; (try simp only [sp_endless_roots, sp__law_cell_at, sp__law_prime, sp__law_times, sp__law_power, sp__law_twice, sp__law_kinds]); try walk_at "dr1"
  refine ⟨by decide, ?_⟩
  intro l17 n_l17; generalize e_l17 : upd _ l17 _ = H17; obtain ⟨g17, k17⟩ := newH e_l17 n_l17; clear e_l17
  have k17 : H17 l17 = some (.lst ([0 - t, 1].map V.int)) := k17
  refine ⟨by decide, ?_⟩
  intro l18 n_l18; generalize e_l18 : upd _ l18 _ = H18; obtain ⟨g18, k18⟩ := newH e_l18 n_l18; clear e_l18
  have k18 : H18 l18 = some (.lst ([0 - v, 1].map V.int)) := k18
  refine ⟨[0 - t, 1], SqL.of (g18 _ _ k17), [0 - v, 1], SqL.of k18, by simp, by simp, by simp, by simp, 71, bx bt (by decide), 641, bx bv (by decide), by decide, by decide, fun lnr nr H19 hnr bnr _ g19 k19 => ?_⟩
  have f2 := fct_two hnr hp
  have ln3 : nr.length = 3 := by
    have := hnr.len
    simp only [List.length_cons, List.length_nil] at this
    ((try clear bT bn bu c11 en eu ev hi hk hl hpp k14 k17 k18 k19 k5 k9 kf kf10 lf4 lt3 m13 m4 mN mt mu n_d1 n_d2 n_d3 n_d4 n_d5 n_d6 n_d7 n_d8 n_l14 n_l16 n_l17 n_l18 n_l5 n_l6 n_l8 n_ln n_lo n_lx nf one p2 q0); omega)
  have ap : Dr.Apart p 60 [(t, 1), (v, 1)] := by
    refine List.pairwise_cons.mpr ⟨fun w hw => ?_, List.pairwise_singleton _ _⟩
    rw [List.mem_singleton.mp hw]
    simp only [Int.mul_one]
    rw [ev, show t - (t + p ^ 59) = p ^ 59 * (-1) by ((try clear bT bn bu c11 en eu ev hi hk hl hpp k14 k17 k18 k19 k5 k9 kf kf10 lf4 ln3 lt3 m13 m4 mN mt mu n_d1 n_d2 n_d3 n_d4 n_d5 n_d6 n_d7 n_d8 n_l14 n_l16 n_l17 n_l18 n_l5 n_l6 n_l8 n_ln n_lo n_lx nf one p2 q0); omega)]
    intro z
    have := (Dr.mul_pow_dv hpp.1 (by decide : 59 ≤ 60)).mp z
    rw [show 60 - 59 = 1 by rfl, Int.pow_one] at this
    apply one
    have := Dr.dvd_mul_l (-1) this
    simpa using this
  have nz2 : ∃ x, x ∈ nr ∧ x ≠ 0 := by
    obtain ⟨c, F, hc, _⟩ := f2.free hp
    obtain ⟨x, hx, n⟩ := hc.one
    exact ⟨x, hx, fun z => n (by rw [z]; simp)⟩
  (try dsimp only); (first | refine seqI ?_ | skip); try walk_at "dr1"; (try simp only [sp_endless_roots, sp__law_cell_at, sp__law_prime, sp__law_times, sp__law_power, sp__law_twice, sp__law_kinds]); try walk_at "dr1"
  refine ⟨nr, SqL.of k19, by ((try clear bT bn bu c11 en eu ev hi hk hl hpp k14 k17 k18 k19 k5 k9 kf kf10 lf4 lt3 m13 m4 mN mt mu n_d1 n_d2 n_d3 n_d4 n_d5 n_d6 n_d7 n_d8 n_l14 n_l16 n_l17 n_l18 n_l5 n_l6 n_l8 n_ln n_lo n_lx nf one p2 q0); omega), by ((try clear bT bn bu c11 en eu ev hi hk hl hpp k14 k17 k18 k19 k5 k9 kf kf10 lf4 lt3 m13 m4 mN mt mu n_d1 n_d2 n_d3 n_d4 n_d5 n_d6 n_d7 n_d8 n_l14 n_l16 n_l17 n_l18 n_l5 n_l6 n_l8 n_ln n_lo n_lx nf one p2 q0); omega), hp, by ((try clear bT bn bu c11 en eu ev hi hk hl hpp k14 k17 k18 k19 k5 k9 kf kf10 lf4 ln3 lt3 m13 m4 mt mu n_d1 n_d2 n_d3 n_d4 n_d5 n_d6 n_d7 n_d8 n_l14 n_l16 n_l17 n_l18 n_l5 n_l6 n_l8 n_ln n_lo n_lx nf one p2 q0); omega), by ((try clear bT bn bu c11 en eu ev hi hk hl hpp k14 k17 k18 k19 k5 k9 kf kf10 lf4 ln3 lt3 m13 m4 mt mu n_d1 n_d2 n_d3 n_d4 n_d5 n_d6 n_d7 n_d8 n_l14 n_l16 n_l17 n_l18 n_l5 n_l6 n_l8 n_ln n_lo n_lx nf one p2 q0); omega), 724, bnr, by decide, fun z => ?_, fun z => absurd ap ((Dr.Fct.deep hp f2 (.inl (by decide))).mp z), fun c20 L2 M2 H20 hf2 hLM2 hso _ g20 k20 => ⟨q0, q0, by decide, ?_⟩⟩
  · obtain ⟨x, hx, x0⟩ := nz2
    exact absurd (z x hx) x0
  intro l21 n_l21; generalize e_l21 : upd _ l21 _ = H21; obtain ⟨g21, k21⟩ := newH e_l21 n_l21; clear e_l21
  have k21 : H21 l21 = some (.lst ([t % p ^ N.toNat, v % p ^ N.toNat].map V.int)) := k21
  refine ⟨_, SqL.of k21, by simp, fun ms hms hso2 => ?_⟩
  intro l22 n_l22; generalize e_l22 : upd _ l22 _ = H22; obtain ⟨g22, k22⟩ := newH e_l22 n_l22; clear e_l22
  have eM2 := hLM2.trans (Dr.Fct.found (β := fun _ => 1) hp f2 (fun w hw => by
    simp only [List.mem_cons, List.not_mem_nil, or_false] at hw
    rcases hw with z | z <;> rw [z] <;> simp) hf2)
  rw [List.map_cons, List.map_cons, List.map_nil, hvl, hvl] at eM2
  have eq2 : L2 = ms := sorted_eq hso hso2 (eM2.trans hms.symm)
  subst eq2
  refine neL1 (SqL.of (g22 _ _ (g21 _ _ k20))) (SqL.of k22) ⟨_, rfl, ?_⟩
  rw [if_neg (by decide)]
  exact (hPv _ _ _).mpr ⟨G16.trans (g17.trans (g18.trans (g19.trans (g20.trans (g21.trans g22))))), _, _, _, _, _, _, _, _, _, _, _, _, rfl⟩
theorem all_mk {h : Heap} {fa f1 f2 f3 f4 f5 f6 f7 f8 f9 f10 f11 f12 f13 f14 f15 f16 f17 f18 f19 f20 f21 f22 f23 f24 : Addr} (X : K.In h) (G : h.Ns mainGlobals mg) (hfa : mg "law" = some (.ref fa))
    {od1 an1 od2 an2 od3 an3 od4 an4 od5 an5 od6 an6 od7 an7 od8 an8 od9 an9 od10 an10 od11 an11 od12 an12 od13 an13 od14 an14 od15 an15 od16 an16 od17 an17 od18 an18 od19 an19 od20 an20 od21 an21 od22 an22 od23 an23 od24 an24 : Option Addr} {sl1 sl2 sl3 sl4 sl5 sl6 sl7 sl8 sl9 sl10 sl11 sl12 sl13 sl14 sl15 sl16 sl17 sl18 sl19 sl20 sl21 sl22 sl23 sl24 : Array (Option Value)} {oc1 kV1 dc1 pm1 cd1 ct1 oc2 kV2 dc2 pm2 cd2 ct2 oc3 kV3 dc3 pm3 cd3 ct3 oc4 kV4 dc4 pm4 cd4 ct4 oc5 kV5 dc5 pm5 cd5 ct5 oc6 kV6 dc6 pm6 cd6 ct6 oc7 kV7 dc7 pm7 cd7 ct7 oc8 kV8 dc8 pm8 cd8 ct8 oc9 kV9 dc9 pm9 cd9 ct9 oc10 kV10 dc10 pm10 cd10 ct10 oc11 kV11 dc11 pm11 cd11 ct11 oc12 kV12 dc12 pm12 cd12 ct12 oc13 kV13 dc13 pm13 cd13 ct13 oc14 kV14 dc14 pm14 cd14 ct14 oc15 kV15 dc15 pm15 cd15 ct15 oc16 kV16 dc16 pm16 cd16 ct16 oc17 kV17 dc17 pm17 cd17 ct17 oc18 kV18 dc18 pm18 cd18 ct18 oc19 kV19 dc19 pm19 cd19 ct19 oc20 kV20 dc20 pm20 cd20 ct20 oc21 kV21 dc21 pm21 cd21 ct21 oc22 kV22 dc22 pm22 cd22 ct22 oc23 kV23 dc23 pm23 cd23 ct23 oc24 kV24 dc24 pm24 cd24 ct24 : Value}
    (a1 : PySem.W.nsIn K mainGlobals "depth_of" = some (some (.ref f1))) (l1 : K.lookup f1 = some ⟨oc1, od1, .func (PySem.W.fnOf "depth_of" "depth_of" (defArgs s_depth_of) (defBody s_depth_of) (defScope s_depth_of) .none kV1 dc1 pm1 an1 cd1 ct1), sl1⟩) (c1 : PySem.W.codeIn K cd1 "depth_of" = true) (k1 : PySem.W.keepIn K (.ref f1) = true)
    (a2 : PySem.W.nsIn K mainGlobals "power_of" = some (some (.ref f2))) (l2 : K.lookup f2 = some ⟨oc2, od2, .func (PySem.W.fnOf "power_of" "power_of" (defArgs s_power_of) (defBody s_power_of) (defScope s_power_of) .none kV2 dc2 pm2 an2 cd2 ct2), sl2⟩) (c2 : PySem.W.codeIn K cd2 "power_of" = true) (k2 : PySem.W.keepIn K (.ref f2) = true)
    (a3 : PySem.W.nsIn K mainGlobals "inverse_by_prime" = some (some (.ref f3))) (l3 : K.lookup f3 = some ⟨oc3, od3, .func (PySem.W.fnOf "inverse_by_prime" "inverse_by_prime" (defArgs s_inverse_by_prime) (defBody s_inverse_by_prime) (defScope s_inverse_by_prime) .none kV3 dc3 pm3 an3 cd3 ct3), sl3⟩) (c3 : PySem.W.codeIn K cd3 "inverse_by_prime" = true) (k3 : PySem.W.keepIn K (.ref f3) = true)
    (a4 : PySem.W.nsIn K mainGlobals "inverse_of" = some (some (.ref f4))) (l4 : K.lookup f4 = some ⟨oc4, od4, .func (PySem.W.fnOf "inverse_of" "inverse_of" (defArgs s_inverse_of) (defBody s_inverse_of) (defScope s_inverse_of) .none kV4 dc4 pm4 an4 cd4 ct4), sl4⟩) (c4 : PySem.W.codeIn K cd4 "inverse_of" = true) (k4 : PySem.W.keepIn K (.ref f4) = true)
    (a5 : PySem.W.nsIn K mainGlobals "worth_at" = some (some (.ref f5))) (l5 : K.lookup f5 = some ⟨oc5, od5, .func (PySem.W.fnOf "worth_at" "worth_at" (defArgs s_worth_at) (defBody s_worth_at) (defScope s_worth_at) .none kV5 dc5 pm5 an5 cd5 ct5), sl5⟩) (c5 : PySem.W.codeIn K cd5 "worth_at" = true) (k5 : PySem.W.keepIn K (.ref f5) = true)
    (a6 : PySem.W.nsIn K mainGlobals "degree_of" = some (some (.ref f6))) (l6 : K.lookup f6 = some ⟨oc6, od6, .func (PySem.W.fnOf "degree_of" "degree_of" (defArgs s_degree_of) (defBody s_degree_of) (defScope s_degree_of) .none kV6 dc6 pm6 an6 cd6 ct6), sl6⟩) (c6 : PySem.W.codeIn K cd6 "degree_of" = true) (k6 : PySem.W.keepIn K (.ref f6) = true)
    (a7 : PySem.W.nsIn K mainGlobals "poly_product" = some (some (.ref f7))) (l7 : K.lookup f7 = some ⟨oc7, od7, .func (PySem.W.fnOf "poly_product" "poly_product" (defArgs s_poly_product) (defBody s_poly_product) (defScope s_poly_product) .none kV7 dc7 pm7 an7 cd7 ct7), sl7⟩) (c7 : PySem.W.codeIn K cd7 "poly_product" = true) (k7 : PySem.W.keepIn K (.ref f7) = true)
    (a8 : PySem.W.nsIn K mainGlobals "slope_of" = some (some (.ref f8))) (l8 : K.lookup f8 = some ⟨oc8, od8, .func (PySem.W.fnOf "slope_of" "slope_of" (defArgs s_slope_of) (defBody s_slope_of) (defScope s_slope_of) .none kV8 dc8 pm8 an8 cd8 ct8), sl8⟩) (c8 : PySem.W.codeIn K cd8 "slope_of" = true) (k8 : PySem.W.keepIn K (.ref f8) = true)
    (a9 : PySem.W.nsIn K mainGlobals "seen_from" = some (some (.ref f9))) (l9 : K.lookup f9 = some ⟨oc9, od9, .func (PySem.W.fnOf "seen_from" "seen_from" (defArgs s_seen_from) (defBody s_seen_from) (defScope s_seen_from) .none kV9 dc9 pm9 an9 cd9 ct9), sl9⟩) (c9 : PySem.W.codeIn K cd9 "seen_from" = true) (k9 : PySem.W.keepIn K (.ref f9) = true)
    (a10 : PySem.W.nsIn K mainGlobals "content_of" = some (some (.ref f10))) (l10 : K.lookup f10 = some ⟨oc10, od10, .func (PySem.W.fnOf "content_of" "content_of" (defArgs s_content_of) (defBody s_content_of) (defScope s_content_of) .none kV10 dc10 pm10 an10 cd10 ct10), sl10⟩) (c10 : PySem.W.codeIn K cd10 "content_of" = true) (k10 : PySem.W.keepIn K (.ref f10) = true)
    (a11 : PySem.W.nsIn K mainGlobals "without_content" = some (some (.ref f11))) (l11 : K.lookup f11 = some ⟨oc11, od11, .func (PySem.W.fnOf "without_content" "without_content" (defArgs s_without_content) (defBody s_without_content) (defScope s_without_content) .none kV11 dc11 pm11 an11 cd11 ct11), sl11⟩) (c11 : PySem.W.codeIn K cd11 "without_content" = true) (k11 : PySem.W.keepIn K (.ref f11) = true)
    (a12 : PySem.W.nsIn K mainGlobals "rests_by_prime" = some (some (.ref f12))) (l12 : K.lookup f12 = some ⟨oc12, od12, .func (PySem.W.fnOf "rests_by_prime" "rests_by_prime" (defArgs s_rests_by_prime) (defBody s_rests_by_prime) (defScope s_rests_by_prime) .none kV12 dc12 pm12 an12 cd12 ct12), sl12⟩) (c12 : PySem.W.codeIn K cd12 "rests_by_prime" = true) (k12 : PySem.W.keepIn K (.ref f12) = true)
    (a13 : PySem.W.nsIn K mainGlobals "single_depth" = some (some (.ref f13))) (l13 : K.lookup f13 = some ⟨oc13, od13, .func (PySem.W.fnOf "single_depth" "single_depth" (defArgs s_single_depth) (defBody s_single_depth) (defScope s_single_depth) .none kV13 dc13 pm13 an13 cd13 ct13), sl13⟩) (c13 : PySem.W.codeIn K cd13 "single_depth" = true) (k13 : PySem.W.keepIn K (.ref f13) = true)
    (a14 : PySem.W.nsIn K mainGlobals "root_of" = some (some (.ref f14))) (l14 : K.lookup f14 = some ⟨oc14, od14, .func (PySem.W.fnOf "root_of" "root_of" (defArgs s_root_of) (defBody s_root_of) (defScope s_root_of) .none kV14 dc14 pm14 an14 cd14 ct14), sl14⟩) (c14 : PySem.W.codeIn K cd14 "root_of" = true) (k14 : PySem.W.keepIn K (.ref f14) = true)
    (a15 : PySem.W.nsIn K mainGlobals "deepened" = some (some (.ref f15))) (l15 : K.lookup f15 = some ⟨oc15, od15, .func (PySem.W.fnOf "deepened" "deepened" (defArgs s_deepened) (defBody s_deepened) (defScope s_deepened) .none kV15 dc15 pm15 an15 cd15 ct15), sl15⟩) (c15 : PySem.W.codeIn K cd15 "deepened" = true) (k15 : PySem.W.keepIn K (.ref f15) = true)
    (a16 : PySem.W.nsIn K mainGlobals "roots_within" = some (some (.ref f16))) (l16 : K.lookup f16 = some ⟨oc16, od16, .func (PySem.W.fnOf "roots_within" "roots_within" (defArgs s_roots_within) (defBody s_roots_within) (defScope s_roots_within) .none kV16 dc16 pm16 an16 cd16 ct16), sl16⟩) (c16 : PySem.W.codeIn K cd16 "roots_within" = true) (k16 : PySem.W.keepIn K (.ref f16) = true)
    (a17 : PySem.W.nsIn K mainGlobals "endless_roots" = some (some (.ref f17))) (l17 : K.lookup f17 = some ⟨oc17, od17, .func (PySem.W.fnOf "endless_roots" "endless_roots" (defArgs s_endless_roots) (defBody s_endless_roots) (defScope s_endless_roots) .none kV17 dc17 pm17 an17 cd17 ct17), sl17⟩) (c17 : PySem.W.codeIn K cd17 "endless_roots" = true) (k17 : PySem.W.keepIn K (.ref f17) = true)
    (a18 : PySem.W.nsIn K mainGlobals "_law_cell_at" = some (some (.ref f18))) (l18 : K.lookup f18 = some ⟨oc18, od18, .func (PySem.W.fnOf "_law_cell_at" "_law_cell_at" (defArgs s__law_cell_at) (defBody s__law_cell_at) (defScope s__law_cell_at) .none kV18 dc18 pm18 an18 cd18 ct18), sl18⟩) (c18 : PySem.W.codeIn K cd18 "_law_cell_at" = true) (k18 : PySem.W.keepIn K (.ref f18) = true)
    (a19 : PySem.W.nsIn K mainGlobals "_law_prime" = some (some (.ref f19))) (l19 : K.lookup f19 = some ⟨oc19, od19, .func (PySem.W.fnOf "_law_prime" "_law_prime" (defArgs s__law_prime) (defBody s__law_prime) (defScope s__law_prime) .none kV19 dc19 pm19 an19 cd19 ct19), sl19⟩) (c19 : PySem.W.codeIn K cd19 "_law_prime" = true) (k19 : PySem.W.keepIn K (.ref f19) = true)
    (a20 : PySem.W.nsIn K mainGlobals "_law_times" = some (some (.ref f20))) (l20 : K.lookup f20 = some ⟨oc20, od20, .func (PySem.W.fnOf "_law_times" "_law_times" (defArgs s__law_times) (defBody s__law_times) (defScope s__law_times) .none kV20 dc20 pm20 an20 cd20 ct20), sl20⟩) (c20 : PySem.W.codeIn K cd20 "_law_times" = true) (k20 : PySem.W.keepIn K (.ref f20) = true)
    (a21 : PySem.W.nsIn K mainGlobals "_law_power" = some (some (.ref f21))) (l21 : K.lookup f21 = some ⟨oc21, od21, .func (PySem.W.fnOf "_law_power" "_law_power" (defArgs s__law_power) (defBody s__law_power) (defScope s__law_power) .none kV21 dc21 pm21 an21 cd21 ct21), sl21⟩) (c21 : PySem.W.codeIn K cd21 "_law_power" = true) (k21 : PySem.W.keepIn K (.ref f21) = true)
    (a22 : PySem.W.nsIn K mainGlobals "_law_twice" = some (some (.ref f22))) (l22 : K.lookup f22 = some ⟨oc22, od22, .func (PySem.W.fnOf "_law_twice" "_law_twice" (defArgs s__law_twice) (defBody s__law_twice) (defScope s__law_twice) .none kV22 dc22 pm22 an22 cd22 ct22), sl22⟩) (c22 : PySem.W.codeIn K cd22 "_law_twice" = true) (k22 : PySem.W.keepIn K (.ref f22) = true)
    (a23 : PySem.W.nsIn K mainGlobals "_law_kinds" = some (some (.ref f23))) (l23 : K.lookup f23 = some ⟨oc23, od23, .func (PySem.W.fnOf "_law_kinds" "_law_kinds" (defArgs s__law_kinds) (defBody s__law_kinds) (defScope s__law_kinds) .none kV23 dc23 pm23 an23 cd23 ct23), sl23⟩) (c23 : PySem.W.codeIn K cd23 "_law_kinds" = true) (k23 : PySem.W.keepIn K (.ref f23) = true)
    (a24 : PySem.W.nsIn K mainGlobals "law" = some (some (.ref f24))) (l24 : K.lookup f24 = some ⟨oc24, od24, .func (PySem.W.fnOf "law" "law" (defArgs s_law) (defBody s_law) (defScope s_law) .none kV24 dc24 pm24 an24 cd24 ct24), sl24⟩) (c24 : PySem.W.codeIn K cd24 "law" = true) (k24 : PySem.W.keepIn K (.ref f24) = true)
    (z_ValueError : PySem.W.nsIn K mainGlobals "ValueError" = some none) (z_all : PySem.W.nsIn K mainGlobals "all" = some none) (z_enumerate : PySem.W.nsIn K mainGlobals "enumerate" = some none) (z_int : PySem.W.nsIn K mainGlobals "int" = some none) (z_isinstance : PySem.W.nsIn K mainGlobals "isinstance" = some none) (z_len : PySem.W.nsIn K mainGlobals "len" = some none) (z_list : PySem.W.nsIn K mainGlobals "list" = some none) (z_max : PySem.W.nsIn K mainGlobals "max" = some none) (z_min : PySem.W.nsIn K mainGlobals "min" = some none) (z_range : PySem.W.nsIn K mainGlobals "range" = some none) (z_reversed : PySem.W.nsIn K mainGlobals "reversed" = some none) (z_sorted : PySem.W.nsIn K mainGlobals "sorted" = some none) {t_GREATEST_DEPTH : Tok} (z_GREATEST_DEPTH : PySem.W.nsIn K mainGlobals "GREATEST_DEPTH" = some (some (.int 60 t_GREATEST_DEPTH))) {e_NoBall : Addr} (z_NoBall : PySem.W.nsIn K mainGlobals "NoBall" = some (some (.ref e_NoBall))) {e_NoDepth : Addr} (z_NoDepth : PySem.W.nsIn K mainGlobals "NoDepth" = some (some (.ref e_NoDepth))) {e_NoInverse : Addr} (z_NoInverse : PySem.W.nsIn K mainGlobals "NoInverse" = some (some (.ref e_NoInverse))) {e_NoName : Addr} (z_NoName : PySem.W.nsIn K mainGlobals "NoName" = some (some (.ref e_NoName))) {e_NoParts : Addr} (z_NoParts : PySem.W.nsIn K mainGlobals "NoParts" = some (some (.ref e_NoParts))) {e_NoPrime : Addr} (z_NoPrime : PySem.W.nsIn K mainGlobals "NoPrime" = some (some (.ref e_NoPrime))) {e_NoRow : Addr} (z_NoRow : PySem.W.nsIn K mainGlobals "NoRow" = some (some (.ref e_NoRow))) {e_NoSingle : Addr} (z_NoSingle : PySem.W.nsIn K mainGlobals "NoSingle" = some (some (.ref e_NoSingle))) {e_NoSmall : Addr} (z_NoSmall : PySem.W.nsIn K mainGlobals "NoSmall" = some (some (.ref e_NoSmall))) {e_NoText : Addr} (z_NoText : PySem.W.nsIn K mainGlobals "NoText" = some (some (.ref e_NoText))) {e_RestError : Addr} (z_RestError : PySem.W.nsIn K mainGlobals "RestError" = some (some (.ref e_RestError))) {e_TooDeep : Addr} (z_TooDeep : PySem.W.nsIn K mainGlobals "TooDeep" = some (some (.ref e_TooDeep))) {e_TooGreat : Addr} (z_TooGreat : PySem.W.nsIn K mainGlobals "TooGreat" = some (some (.ref e_TooGreat))) (x_NoDepth : ExcK K e_NoDepth) (x_NoSingle : ExcK K e_NoSingle) (x_TooDeep : ExcK K e_TooDeep) (m_NoDepth_RestError : PySem.W.exmOne K (.ref e_NoDepth) (.ref e_RestError) = some true) (m_TooDeep_RestError : PySem.W.exmOne K (.ref e_TooDeep) (.ref e_RestError) = some true) (f_NoDepth : Xc.ExcC K e_NoDepth) (f_TooDeep : Xc.ExcC K e_TooDeep) (i_NoDepth_NoBall : PySem.W.kitOne K (.ref e_NoDepth) (.ref e_NoBall) = some false) (i_NoDepth_NoDepth : PySem.W.kitOne K (.ref e_NoDepth) (.ref e_NoDepth) = some true) (i_NoDepth_NoInverse : PySem.W.kitOne K (.ref e_NoDepth) (.ref e_NoInverse) = some false) (i_NoDepth_NoName : PySem.W.kitOne K (.ref e_NoDepth) (.ref e_NoName) = some false) (i_NoDepth_NoParts : PySem.W.kitOne K (.ref e_NoDepth) (.ref e_NoParts) = some false) (i_NoDepth_NoPrime : PySem.W.kitOne K (.ref e_NoDepth) (.ref e_NoPrime) = some false) (i_NoDepth_NoRow : PySem.W.kitOne K (.ref e_NoDepth) (.ref e_NoRow) = some false) (i_NoDepth_NoSingle : PySem.W.kitOne K (.ref e_NoDepth) (.ref e_NoSingle) = some false) (i_NoDepth_NoSmall : PySem.W.kitOne K (.ref e_NoDepth) (.ref e_NoSmall) = some false) (i_NoDepth_NoText : PySem.W.kitOne K (.ref e_NoDepth) (.ref e_NoText) = some false) (i_NoDepth_RestError : PySem.W.kitOne K (.ref e_NoDepth) (.ref e_RestError) = some true) (i_NoDepth_TooDeep : PySem.W.kitOne K (.ref e_NoDepth) (.ref e_TooDeep) = some false) (i_NoDepth_TooGreat : PySem.W.kitOne K (.ref e_NoDepth) (.ref e_TooGreat) = some false) (i_NoDepth_ValueError : PySem.W.kitOne K (.ref e_NoDepth) (.type "ValueError") = some true) (i_TooDeep_NoBall : PySem.W.kitOne K (.ref e_TooDeep) (.ref e_NoBall) = some false) (i_TooDeep_NoDepth : PySem.W.kitOne K (.ref e_TooDeep) (.ref e_NoDepth) = some false) (i_TooDeep_NoInverse : PySem.W.kitOne K (.ref e_TooDeep) (.ref e_NoInverse) = some false) (i_TooDeep_NoName : PySem.W.kitOne K (.ref e_TooDeep) (.ref e_NoName) = some false) (i_TooDeep_NoParts : PySem.W.kitOne K (.ref e_TooDeep) (.ref e_NoParts) = some false) (i_TooDeep_NoPrime : PySem.W.kitOne K (.ref e_TooDeep) (.ref e_NoPrime) = some false) (i_TooDeep_NoRow : PySem.W.kitOne K (.ref e_TooDeep) (.ref e_NoRow) = some false) (i_TooDeep_NoSingle : PySem.W.kitOne K (.ref e_TooDeep) (.ref e_NoSingle) = some false) (i_TooDeep_NoSmall : PySem.W.kitOne K (.ref e_TooDeep) (.ref e_NoSmall) = some false) (i_TooDeep_NoText : PySem.W.kitOne K (.ref e_TooDeep) (.ref e_NoText) = some false) (i_TooDeep_RestError : PySem.W.kitOne K (.ref e_TooDeep) (.ref e_RestError) = some true) (i_TooDeep_TooDeep : PySem.W.kitOne K (.ref e_TooDeep) (.ref e_TooDeep) = some true) (i_TooDeep_TooGreat : PySem.W.kitOne K (.ref e_TooDeep) (.ref e_TooGreat) = some false) (i_TooDeep_ValueError : PySem.W.kitOne K (.ref e_TooDeep) (.type "ValueError") = some true) :
    ∃ fd : FuncData, (∀ (s : Shared) (v : Value), BindsTo s fd ⟨[v], []⟩ [("script", v)]) ∧ ∀ base : Heap, K.In base → base.Ns mainGlobals mg → FnOk P w K mg base CX0 68 fa fd ["script"] (spLaw K) := by
  have e := hfa.symm.trans (PySem.W.mg_of X G a24)
  cases e
  have F1 := fun_mk (st := s_depth_of) l1 c1 k1
  have b1 := F1.binds (ps := ["p", "x"]) fun _ _ _ _ _ _ us hl => by obtain ⟨_, _, rfl⟩ := us2 hl; rfl
  have F2 := fun_mk (st := s_power_of) l2 c2 k2
  have b2 := F2.binds (ps := ["p", "e"]) fun _ _ _ _ _ _ us hl => by obtain ⟨_, _, rfl⟩ := us2 hl; rfl
  have F3 := fun_mk (st := s_inverse_by_prime) l3 c3 k3
  have b3 := F3.binds (ps := ["p", "x"]) fun _ _ _ _ _ _ us hl => by obtain ⟨_, _, rfl⟩ := us2 hl; rfl
  have F4 := fun_mk (st := s_inverse_of) l4 c4 k4
  have b4 := F4.binds (ps := ["p", "e", "x"]) fun _ _ _ _ _ _ us hl => by obtain ⟨_, _, _, rfl⟩ := us3 hl; rfl
  have F5 := fun_mk (st := s_worth_at) l5 c5 k5
  have b5 := F5.binds (ps := ["f", "x"]) fun _ _ _ _ _ _ us hl => by obtain ⟨_, _, rfl⟩ := us2 hl; rfl
  have F6 := fun_mk (st := s_degree_of) l6 c6 k6
  have b6 := F6.binds (ps := ["f"]) fun _ _ _ _ _ _ us hl => by obtain ⟨_, rfl⟩ := us1 hl; rfl
  have F7 := fun_mk (st := s_poly_product) l7 c7 k7
  have b7 := F7.binds (ps := ["f", "g"]) fun _ _ _ _ _ _ us hl => by obtain ⟨_, _, rfl⟩ := us2 hl; rfl
  have F8 := fun_mk (st := s_slope_of) l8 c8 k8
  have b8 := F8.binds (ps := ["f"]) fun _ _ _ _ _ _ us hl => by obtain ⟨_, rfl⟩ := us1 hl; rfl
  have F9 := fun_mk (st := s_seen_from) l9 c9 k9
  have b9 := F9.binds (ps := ["p", "f", "a", "e"]) fun _ _ _ _ _ _ us hl => by obtain ⟨_, _, _, _, rfl⟩ := us4 hl; rfl
  have F10 := fun_mk (st := s_content_of) l10 c10 k10
  have b10 := F10.binds (ps := ["p", "f"]) fun _ _ _ _ _ _ us hl => by obtain ⟨_, _, rfl⟩ := us2 hl; rfl
  have F11 := fun_mk (st := s_without_content) l11 c11 k11
  have b11 := F11.binds (ps := ["p", "f"]) fun _ _ _ _ _ _ us hl => by obtain ⟨_, _, rfl⟩ := us2 hl; rfl
  have F12 := fun_mk (st := s_rests_by_prime) l12 c12 k12
  have b12 := F12.binds (ps := ["p", "f"]) fun _ _ _ _ _ _ us hl => by obtain ⟨_, _, rfl⟩ := us2 hl; rfl
  have F13 := fun_mk (st := s_single_depth) l13 c13 k13
  have b13 := F13.binds (ps := ["p", "f", "a"]) fun _ _ _ _ _ _ us hl => by obtain ⟨_, _, _, rfl⟩ := us3 hl; rfl
  have F14 := fun_mk (st := s_root_of) l14 c14 k14
  have b14 := F14.binds (ps := ["p", "f", "a", "N"]) fun _ _ _ _ _ _ us hl => by obtain ⟨_, _, _, _, rfl⟩ := us4 hl; rfl
  have F15 := fun_mk (st := s_deepened) l15 c15 k15
  have b15 := F15.binds (ps := ["p", "f", "a", "d", "N"]) fun _ _ _ _ _ _ us hl => by obtain ⟨_, _, _, _, _, rfl⟩ := us5 hl; rfl
  have F16 := fun_mk (st := s_roots_within) l16 c16 k16
  have b16 := F16.binds (ps := ["p", "a", "e", "seen", "N"]) fun _ _ _ _ _ _ us hl => by obtain ⟨_, _, _, _, _, rfl⟩ := us5 hl; rfl
  have F17 := fun_mk (st := s_endless_roots) l17 c17 k17
  have b17 := F17.binds (ps := ["p", "f", "N"]) fun _ _ _ _ _ _ us hl => by obtain ⟨_, _, _, rfl⟩ := us3 hl; rfl
  have F18 := fun_mk (st := s__law_cell_at) l18 c18 k18
  have b18 := F18.binds (ps := ["script", "k"]) fun _ _ _ _ _ _ us hl => by obtain ⟨_, _, rfl⟩ := us2 hl; rfl
  have F19 := fun_mk (st := s__law_prime) l19 c19 k19
  have b19 := F19.binds (ps := ["cell"]) fun _ _ _ _ _ _ us hl => by obtain ⟨_, rfl⟩ := us1 hl; rfl
  have F20 := fun_mk (st := s__law_times) l20 c20 k20
  have b20 := F20.binds (ps := ["f", "g"]) fun _ _ _ _ _ _ us hl => by obtain ⟨_, _, rfl⟩ := us2 hl; rfl
  have F21 := fun_mk (st := s__law_power) l21 c21 k21
  have b21 := F21.binds (ps := ["p", "e"]) fun _ _ _ _ _ _ us hl => by obtain ⟨_, _, rfl⟩ := us2 hl; rfl
  have F22 := fun_mk (st := s__law_twice) l22 c22 k22
  have b22 := F22.binds (ps := ["p", "t", "cell"]) fun _ _ _ _ _ _ us hl => by obtain ⟨_, _, _, rfl⟩ := us3 hl; rfl
  have F23 := fun_mk (st := s__law_kinds) l23 c23 k23
  have b23 := F23.binds (ps := ["p", "f", "N"]) fun _ _ _ _ _ _ us hl => by obtain ⟨_, _, _, rfl⟩ := us3 hl; rfl
  have F24 := fun_mk (st := s_law) l24 c24 k24
  have k_NoBall : clK K "NoBall" = e_NoBall := clK_of z_NoBall
  have k_NoDepth : clK K "NoDepth" = e_NoDepth := clK_of z_NoDepth
  have k_NoInverse : clK K "NoInverse" = e_NoInverse := clK_of z_NoInverse
  have k_NoName : clK K "NoName" = e_NoName := clK_of z_NoName
  have k_NoParts : clK K "NoParts" = e_NoParts := clK_of z_NoParts
  have k_NoPrime : clK K "NoPrime" = e_NoPrime := clK_of z_NoPrime
  have k_NoRow : clK K "NoRow" = e_NoRow := clK_of z_NoRow
  have k_NoSingle : clK K "NoSingle" = e_NoSingle := clK_of z_NoSingle
  have k_NoSmall : clK K "NoSmall" = e_NoSmall := clK_of z_NoSmall
  have k_NoText : clK K "NoText" = e_NoText := clK_of z_NoText
  have k_RestError : clK K "RestError" = e_RestError := clK_of z_RestError
  have k_TooDeep : clK K "TooDeep" = e_TooDeep := clK_of z_TooDeep
  have k_TooGreat : clK K "TooGreat" = e_TooGreat := clK_of z_TooGreat
  have B : Bi mg K := ⟨PySem.W.mg_none_of X G z_ValueError, PySem.W.mg_none_of X G z_all, PySem.W.mg_none_of X G z_enumerate, PySem.W.mg_none_of X G z_int, PySem.W.mg_none_of X G z_isinstance, PySem.W.mg_none_of X G z_len, PySem.W.mg_none_of X G z_list, PySem.W.mg_none_of X G z_max, PySem.W.mg_none_of X G z_min, PySem.W.mg_none_of X G z_range, PySem.W.mg_none_of X G z_reversed, PySem.W.mg_none_of X G z_sorted, ⟨_, PySem.W.mg_of X G z_GREATEST_DEPTH⟩, (by rw [k_NoBall]; exact PySem.W.mg_of X G z_NoBall), (by rw [k_NoDepth]; exact PySem.W.mg_of X G z_NoDepth), (by rw [k_NoInverse]; exact PySem.W.mg_of X G z_NoInverse), (by rw [k_NoName]; exact PySem.W.mg_of X G z_NoName), (by rw [k_NoParts]; exact PySem.W.mg_of X G z_NoParts), (by rw [k_NoPrime]; exact PySem.W.mg_of X G z_NoPrime), (by rw [k_NoRow]; exact PySem.W.mg_of X G z_NoRow), (by rw [k_NoSingle]; exact PySem.W.mg_of X G z_NoSingle), (by rw [k_NoSmall]; exact PySem.W.mg_of X G z_NoSmall), (by rw [k_NoText]; exact PySem.W.mg_of X G z_NoText), (by rw [k_RestError]; exact PySem.W.mg_of X G z_RestError), (by rw [k_TooDeep]; exact PySem.W.mg_of X G z_TooDeep), (by rw [k_TooGreat]; exact PySem.W.mg_of X G z_TooGreat), (by rw [k_NoDepth]; exact x_NoDepth), (by rw [k_NoSingle]; exact x_NoSingle), (by rw [k_TooDeep]; exact x_TooDeep), (by simp only [k_NoDepth, k_RestError]; exact m_NoDepth_RestError), (by simp only [k_TooDeep, k_RestError]; exact m_TooDeep_RestError), (by rw [k_NoDepth]; exact f_NoDepth), (by rw [k_TooDeep]; exact f_TooDeep), (by simp only [k_NoDepth, k_NoBall]; exact i_NoDepth_NoBall), (by simp only [k_NoDepth]; exact i_NoDepth_NoDepth), (by simp only [k_NoDepth, k_NoInverse]; exact i_NoDepth_NoInverse), (by simp only [k_NoDepth, k_NoName]; exact i_NoDepth_NoName), (by simp only [k_NoDepth, k_NoParts]; exact i_NoDepth_NoParts), (by simp only [k_NoDepth, k_NoPrime]; exact i_NoDepth_NoPrime), (by simp only [k_NoDepth, k_NoRow]; exact i_NoDepth_NoRow), (by simp only [k_NoDepth, k_NoSingle]; exact i_NoDepth_NoSingle), (by simp only [k_NoDepth, k_NoSmall]; exact i_NoDepth_NoSmall), (by simp only [k_NoDepth, k_NoText]; exact i_NoDepth_NoText), (by simp only [k_NoDepth, k_RestError]; exact i_NoDepth_RestError), (by simp only [k_NoDepth, k_TooDeep]; exact i_NoDepth_TooDeep), (by simp only [k_NoDepth, k_TooGreat]; exact i_NoDepth_TooGreat), (by simp only [k_NoDepth]; exact i_NoDepth_ValueError), (by simp only [k_TooDeep, k_NoBall]; exact i_TooDeep_NoBall), (by simp only [k_TooDeep, k_NoDepth]; exact i_TooDeep_NoDepth), (by simp only [k_TooDeep, k_NoInverse]; exact i_TooDeep_NoInverse), (by simp only [k_TooDeep, k_NoName]; exact i_TooDeep_NoName), (by simp only [k_TooDeep, k_NoParts]; exact i_TooDeep_NoParts), (by simp only [k_TooDeep, k_NoPrime]; exact i_TooDeep_NoPrime), (by simp only [k_TooDeep, k_NoRow]; exact i_TooDeep_NoRow), (by simp only [k_TooDeep, k_NoSingle]; exact i_TooDeep_NoSingle), (by simp only [k_TooDeep, k_NoSmall]; exact i_TooDeep_NoSmall), (by simp only [k_TooDeep, k_NoText]; exact i_TooDeep_NoText), (by simp only [k_TooDeep, k_RestError]; exact i_TooDeep_RestError), (by simp only [k_TooDeep]; exact i_TooDeep_TooDeep), (by simp only [k_TooDeep, k_TooGreat]; exact i_TooDeep_TooGreat), (by simp only [k_TooDeep]; exact i_TooDeep_ValueError)⟩
  refine ⟨PySem.W.fnOf "law" "law" (defArgs s_law) (defBody s_law) (defScope s_law) .none kV24 dc24 pm24 an24 cd24 ct24, fun s v => .of_eq rfl, fun base _ _ => ?_⟩
  have D_depth_of := def_mk (P := P) (w := w) (base := base) F1 (ok_depth_of B  F1) b1 (PySem.W.mg_of X G a1)
  have D_power_of := def_mk (P := P) (w := w) (base := base) F2 (ok_power_of B  F2) b2 (PySem.W.mg_of X G a2)
  have D_inverse_by_prime := def_mk (P := P) (w := w) (base := base) F3 (ok_inverse_by_prime B  F3) b3 (PySem.W.mg_of X G a3)
  have D_worth_at := def_mk (P := P) (w := w) (base := base) F5 (ok_worth_at B  F5) b5 (PySem.W.mg_of X G a5)
  have D_degree_of := def_mk (P := P) (w := w) (base := base) F6 (ok_degree_of B  F6) b6 (PySem.W.mg_of X G a6)
  have D_poly_product := def_mk (P := P) (w := w) (base := base) F7 (ok_poly_product B  F7) b7 (PySem.W.mg_of X G a7)
  have D_slope_of := def_mk (P := P) (w := w) (base := base) F8 (ok_slope_of B  F8) b8 (PySem.W.mg_of X G a8)
  have D__law_cell_at := def_mk (P := P) (w := w) (base := base) F18 (ok__law_cell_at B  F18) b18 (PySem.W.mg_of X G a18)
  have D__law_prime := def_mk (P := P) (w := w) (base := base) F19 (ok__law_prime B  F19) b19 (PySem.W.mg_of X G a19)
  have D__law_times := def_mk (P := P) (w := w) (base := base) F20 (ok__law_times B  F20) b20 (PySem.W.mg_of X G a20)
  have D__law_power := def_mk (P := P) (w := w) (base := base) F21 (ok__law_power B  F21) b21 (PySem.W.mg_of X G a21)
  have D_inverse_of := def_mk (P := P) (w := w) (base := base) F4 (ok_inverse_of B D_power_of D_inverse_by_prime F4) b4 (PySem.W.mg_of X G a4)
  have D_seen_from := def_mk (P := P) (w := w) (base := base) F9 (ok_seen_from B D_power_of D_poly_product F9) b9 (PySem.W.mg_of X G a9)
  have D_content_of := defE_mk (P := P) (w := w) (base := base) F10 (ok_content_of B D_degree_of F10) b10 (PySem.W.mg_of X G a10)
  have D_rests_by_prime := def_mk (P := P) (w := w) (base := base) F12 (ok_rests_by_prime B D_worth_at F12) b12 (PySem.W.mg_of X G a12)
  have D_single_depth := def_mk (P := P) (w := w) (base := base) F13 (ok_single_depth B D_depth_of D_power_of D_worth_at D_slope_of F13) b13 (PySem.W.mg_of X G a13)
  have D__law_twice := def_mk (P := P) (w := w) (base := base) F22 (ok__law_twice B D__law_times D__law_power F22) b22 (PySem.W.mg_of X G a22)
  have D_without_content := defE_mk (P := P) (w := w) (base := base) F11 (ok_without_content B D_power_of D_content_of F11) b11 (PySem.W.mg_of X G a11)
  have D_deepened := def_mk (P := P) (w := w) (base := base) F15 (ok_deepened B D_power_of D_inverse_of D_worth_at D_slope_of F15) b15 (PySem.W.mg_of X G a15)
  have D_root_of := defE_mk (P := P) (w := w) (base := base) F14 (ok_root_of B D_power_of D_single_depth D_deepened F14) b14 (PySem.W.mg_of X G a14)
  have D_roots_within := recE_mk (P := P) (w := w) (base := base) (sp := spN_roots_within K) F16 b16 (PySem.W.mg_of X G a16) 4 (fun n d => ok_roots_within B D_power_of D_worth_at D_slope_of D_seen_from D_without_content D_rests_by_prime D_root_of d F16) 60
  have D_endless_roots := defE_mk (P := P) (w := w) (base := base) F17 (ok_endless_roots B D_roots_within F17) b17 (PySem.W.mg_of X G a17)
  have D__law_kinds := def_mk (P := P) (w := w) (base := base) F23 (ok__law_kinds B D_endless_roots F23) b23 (PySem.W.mg_of X G a23)
  exact ok_law B D_endless_roots D__law_cell_at D__law_prime D__law_times D__law_power D__law_twice D__law_kinds F24
theorem k_dec : @instDecidableEqStr = @instDecidableEqStr := rfl
set_option maxHeartbeats 0 in
noncomputable def kH : Params → PySem.W.Frag := fun P => (fun (_ : @instDecidableEqStr = @instDecidableEqStr) =>
(nat_lit 2, { cls := Value.none, data := Data.dict #[] }) ::
(nat_lit 3, { cls := Value.type "dict", data := Data.dict #[{ hash := PyData.keyHash P "__name__", key := Value.str "__name__" 165, val := Value.str "law_deeprests_k46_refused_roots" 580 }, { hash := PyData.keyHash P "__doc__", key := Value.str "__doc__" 166, val := Value.none }, { hash := PyData.keyHash P "__package__", key := Value.str "__package__" 167, val := Value.none }, { hash := PyData.keyHash P "__loader__", key := Value.str "__loader__" 168, val := Value.builtin "__main__.__loader__#opaque" }, { hash := PyData.keyHash P "__spec__", key := Value.str "__spec__" 169, val := Value.none }, { hash := PyData.keyHash P "__annotations__", key := Value.str "__annotations__" 170, val := Value.ref 6 }, { hash := PyData.keyHash P "__builtins__", key := Value.str "__builtins__" 171, val := Value.ref 4 }, { hash := PyData.keyHash P "__file__", key := Value.str "__file__" 173, val := Value.str "/claim/cut.py" 172 }, { hash := PyData.keyHash P "__cached__", key := Value.str "__cached__" 174, val := Value.none }, { hash := PyData.keyHash P "RestError", key := Value.str "RestError" 206, val := Value.ref 24 }, { hash := PyData.keyHash P "NoDepth", key := Value.str "NoDepth" 222, val := Value.ref 37 }, { hash := PyData.keyHash P "NoInverse", key := Value.str "NoInverse" 238, val := Value.ref 49 }, { hash := PyData.keyHash P "NoBall", key := Value.str "NoBall" 254, val := Value.ref 61 }, { hash := PyData.keyHash P "NoSingle", key := Value.str "NoSingle" 270, val := Value.ref 73 }, { hash := PyData.keyHash P "TooDeep", key := Value.str "TooDeep" 286, val := Value.ref 85 }, { hash := PyData.keyHash P "NoSmall", key := Value.str "NoSmall" 302, val := Value.ref 97 }, { hash := PyData.keyHash P "NoParts", key := Value.str "NoParts" 318, val := Value.ref 109 }, { hash := PyData.keyHash P "NoPrime", key := Value.str "NoPrime" 334, val := Value.ref 121 }, { hash := PyData.keyHash P "NoText", key := Value.str "NoText" 350, val := Value.ref 133 }, { hash := PyData.keyHash P "NoName", key := Value.str "NoName" 366, val := Value.ref 145 }, { hash := PyData.keyHash P "NoRow", key := Value.str "NoRow" 382, val := Value.ref 157 }, { hash := PyData.keyHash P "TooGreat", key := Value.str "TooGreat" 398, val := Value.ref 169 }, { hash := PyData.keyHash P "depth_of", key := Value.str "depth_of" 410, val := Value.ref 178 }, { hash := PyData.keyHash P "power_of", key := Value.str "power_of" 420, val := Value.ref 185 }, { hash := PyData.keyHash P "inverse_by_prime", key := Value.str "inverse_by_prime" 426, val := Value.ref 190 }, { hash := PyData.keyHash P "inverse_of", key := Value.str "inverse_of" 438, val := Value.ref 197 }, { hash := PyData.keyHash P "GREATEST_DEPTH", key := Value.str "GREATEST_DEPTH" 440, val := Value.int 60 439 }, { hash := PyData.keyHash P "worth_at", key := Value.str "worth_at" 452, val := Value.ref 204 }, { hash := PyData.keyHash P "degree_of", key := Value.str "degree_of" 462, val := Value.ref 211 }, { hash := PyData.keyHash P "poly_product", key := Value.str "poly_product" 475, val := Value.ref 218 }, { hash := PyData.keyHash P "slope_of", key := Value.str "slope_of" 481, val := Value.ref 223 }, { hash := PyData.keyHash P "seen_from", key := Value.str "seen_from" 494, val := Value.ref 230 }, { hash := PyData.keyHash P "content_of", key := Value.str "content_of" 500, val := Value.ref 235 }, { hash := PyData.keyHash P "without_content", key := Value.str "without_content" 506, val := Value.ref 240 }, { hash := PyData.keyHash P "rests_by_prime", key := Value.str "rests_by_prime" 512, val := Value.ref 245 }, { hash := PyData.keyHash P "single_depth", key := Value.str "single_depth" 525, val := Value.ref 252 }, { hash := PyData.keyHash P "root_of", key := Value.str "root_of" 536, val := Value.ref 259 }, { hash := PyData.keyHash P "deepened", key := Value.str "deepened" 553, val := Value.ref 266 }, { hash := PyData.keyHash P "roots_within", key := Value.str "roots_within" 570, val := Value.ref 273 }, { hash := PyData.keyHash P "endless_roots", key := Value.str "endless_roots" 579, val := Value.ref 280 }, { hash := PyData.keyHash P "_law_cell_at", key := Value.str "_law_cell_at" 589, val := Value.ref 287 }, { hash := PyData.keyHash P "_law_prime", key := Value.str "_law_prime" 597, val := Value.ref 294 }, { hash := PyData.keyHash P "_law_times", key := Value.str "_law_times" 608, val := Value.ref 301 }, { hash := PyData.keyHash P "_law_power", key := Value.str "_law_power" 618, val := Value.ref 308 }, { hash := PyData.keyHash P "_law_twice", key := Value.str "_law_twice" 627, val := Value.ref 315 }, { hash := PyData.keyHash P "_law_kinds", key := Value.str "_law_kinds" 638, val := Value.ref 322 }, { hash := PyData.keyHash P "law", key := Value.str "law" 644, val := Value.ref 327 }] 47 }) ::
(nat_lit 15, { cls := Value.type "tuple", data := Data.seq #[Value.type "ValueError"] }) ::
(nat_lit 22, { cls := Value.type "tuple", data := Data.seq #[] }) ::
(nat_lit 23, { cls := Value.type "dict", data := Data.dict #[{ hash := PyData.keyHash P "__module__", key := Value.str "__module__" 196, val := Value.str "deeprests.errors" 187 }, { hash := PyData.keyHash P "__firstlineno__", key := Value.str "__firstlineno__" 200, val := Value.int 2 199 }, { hash := PyData.keyHash P "__static_attributes__", key := Value.str "__static_attributes__" 201, val := Value.ref 22 }, { hash := PyData.keyHash P "__weakref__", key := Value.str "__weakref__" 203, val := Value.ref 25 }, { hash := PyData.keyHash P "__doc__", key := Value.str "__doc__" 204, val := Value.none }] 3 }) ::
(nat_lit 24, { cls := Value.type "type", data := Data.cls { name := "RestError", bases := [Value.type "ValueError"], mro := [Value.ref 24, Value.type "ValueError", Value.type "Exception", Value.type "BaseException", Value.type "object"], ns := 23, qualname := "RestError", subclasses := [Value.ref 37, Value.ref 49, Value.ref 61, Value.ref 73, Value.ref 85, Value.ref 97, Value.ref 109, Value.ref 121, Value.ref 133, Value.ref 145, Value.ref 157, Value.ref 169] }, slots := #[Option.some (Value.ref 15), Option.none, Option.some (Value.str "RestError" 189), Option.some (Value.str "RestError" 197), Option.some (Value.builtin "ValueError.__new__"), Option.some (Value.bool Bool.true)] }) ::
(nat_lit 25, { cls := Value.type "getset_descriptor", data := Data.fields #[Value.str "__weakref__" 202, Value.ref 24, Value.builtin "ExceptionGroup.__weakref__", Value.none] }) ::
(nat_lit 28, { cls := Value.type "tuple", data := Data.seq #[Value.ref 24] }) ::
(nat_lit 35, { cls := Value.type "tuple", data := Data.seq #[] }) ::
(nat_lit 36, { cls := Value.type "dict", data := Data.dict #[{ hash := PyData.keyHash P "__module__", key := Value.str "__module__" 214, val := Value.str "deeprests.errors" 187 }, { hash := PyData.keyHash P "__firstlineno__", key := Value.str "__firstlineno__" 218, val := Value.int 4 217 }, { hash := PyData.keyHash P "__static_attributes__", key := Value.str "__static_attributes__" 219, val := Value.ref 35 }, { hash := PyData.keyHash P "__doc__", key := Value.str "__doc__" 220, val := Value.none }] 2 }) ::
(nat_lit 37, { cls := Value.type "type", data := Data.cls { name := "NoDepth", bases := [Value.ref 24], mro := [Value.ref 37, Value.ref 24, Value.type "ValueError", Value.type "Exception", Value.type "BaseException", Value.type "object"], ns := 36, qualname := "NoDepth" }, slots := #[Option.some (Value.ref 28), Option.none, Option.some (Value.str "NoDepth" 207), Option.some (Value.str "NoDepth" 215), Option.some (Value.builtin "ValueError.__new__"), Option.some (Value.bool Bool.true)] }) ::
(nat_lit 40, { cls := Value.type "tuple", data := Data.seq #[Value.ref 24] }) ::
(nat_lit 47, { cls := Value.type "tuple", data := Data.seq #[] }) ::
(nat_lit 48, { cls := Value.type "dict", data := Data.dict #[{ hash := PyData.keyHash P "__module__", key := Value.str "__module__" 230, val := Value.str "deeprests.errors" 187 }, { hash := PyData.keyHash P "__firstlineno__", key := Value.str "__firstlineno__" 234, val := Value.int 6 233 }, { hash := PyData.keyHash P "__static_attributes__", key := Value.str "__static_attributes__" 235, val := Value.ref 47 }, { hash := PyData.keyHash P "__doc__", key := Value.str "__doc__" 236, val := Value.none }] 2 }) ::
(nat_lit 49, { cls := Value.type "type", data := Data.cls { name := "NoInverse", bases := [Value.ref 24], mro := [Value.ref 49, Value.ref 24, Value.type "ValueError", Value.type "Exception", Value.type "BaseException", Value.type "object"], ns := 48, qualname := "NoInverse" }, slots := #[Option.some (Value.ref 40), Option.none, Option.some (Value.str "NoInverse" 223), Option.some (Value.str "NoInverse" 231), Option.some (Value.builtin "ValueError.__new__"), Option.some (Value.bool Bool.true)] }) ::
(nat_lit 52, { cls := Value.type "tuple", data := Data.seq #[Value.ref 24] }) ::
(nat_lit 59, { cls := Value.type "tuple", data := Data.seq #[] }) ::
(nat_lit 60, { cls := Value.type "dict", data := Data.dict #[{ hash := PyData.keyHash P "__module__", key := Value.str "__module__" 246, val := Value.str "deeprests.errors" 187 }, { hash := PyData.keyHash P "__firstlineno__", key := Value.str "__firstlineno__" 250, val := Value.int 8 249 }, { hash := PyData.keyHash P "__static_attributes__", key := Value.str "__static_attributes__" 251, val := Value.ref 59 }, { hash := PyData.keyHash P "__doc__", key := Value.str "__doc__" 252, val := Value.none }] 2 }) ::
(nat_lit 61, { cls := Value.type "type", data := Data.cls { name := "NoBall", bases := [Value.ref 24], mro := [Value.ref 61, Value.ref 24, Value.type "ValueError", Value.type "Exception", Value.type "BaseException", Value.type "object"], ns := 60, qualname := "NoBall" }, slots := #[Option.some (Value.ref 52), Option.none, Option.some (Value.str "NoBall" 239), Option.some (Value.str "NoBall" 247), Option.some (Value.builtin "ValueError.__new__"), Option.some (Value.bool Bool.true)] }) ::
(nat_lit 64, { cls := Value.type "tuple", data := Data.seq #[Value.ref 24] }) ::
(nat_lit 71, { cls := Value.type "tuple", data := Data.seq #[] }) ::
(nat_lit 72, { cls := Value.type "dict", data := Data.dict #[{ hash := PyData.keyHash P "__module__", key := Value.str "__module__" 262, val := Value.str "deeprests.errors" 187 }, { hash := PyData.keyHash P "__firstlineno__", key := Value.str "__firstlineno__" 266, val := Value.int 10 265 }, { hash := PyData.keyHash P "__static_attributes__", key := Value.str "__static_attributes__" 267, val := Value.ref 71 }, { hash := PyData.keyHash P "__doc__", key := Value.str "__doc__" 268, val := Value.none }] 2 }) ::
(nat_lit 73, { cls := Value.type "type", data := Data.cls { name := "NoSingle", bases := [Value.ref 24], mro := [Value.ref 73, Value.ref 24, Value.type "ValueError", Value.type "Exception", Value.type "BaseException", Value.type "object"], ns := 72, qualname := "NoSingle" }, slots := #[Option.some (Value.ref 64), Option.none, Option.some (Value.str "NoSingle" 255), Option.some (Value.str "NoSingle" 263), Option.some (Value.builtin "ValueError.__new__"), Option.some (Value.bool Bool.true)] }) ::
(nat_lit 76, { cls := Value.type "tuple", data := Data.seq #[Value.ref 24] }) ::
(nat_lit 83, { cls := Value.type "tuple", data := Data.seq #[] }) ::
(nat_lit 84, { cls := Value.type "dict", data := Data.dict #[{ hash := PyData.keyHash P "__module__", key := Value.str "__module__" 278, val := Value.str "deeprests.errors" 187 }, { hash := PyData.keyHash P "__firstlineno__", key := Value.str "__firstlineno__" 282, val := Value.int 12 281 }, { hash := PyData.keyHash P "__static_attributes__", key := Value.str "__static_attributes__" 283, val := Value.ref 83 }, { hash := PyData.keyHash P "__doc__", key := Value.str "__doc__" 284, val := Value.none }] 2 }) ::
(nat_lit 85, { cls := Value.type "type", data := Data.cls { name := "TooDeep", bases := [Value.ref 24], mro := [Value.ref 85, Value.ref 24, Value.type "ValueError", Value.type "Exception", Value.type "BaseException", Value.type "object"], ns := 84, qualname := "TooDeep" }, slots := #[Option.some (Value.ref 76), Option.none, Option.some (Value.str "TooDeep" 271), Option.some (Value.str "TooDeep" 279), Option.some (Value.builtin "ValueError.__new__"), Option.some (Value.bool Bool.true)] }) ::
(nat_lit 88, { cls := Value.type "tuple", data := Data.seq #[Value.ref 24] }) ::
(nat_lit 95, { cls := Value.type "tuple", data := Data.seq #[] }) ::
(nat_lit 96, { cls := Value.type "dict", data := Data.dict #[{ hash := PyData.keyHash P "__module__", key := Value.str "__module__" 294, val := Value.str "deeprests.errors" 187 }, { hash := PyData.keyHash P "__firstlineno__", key := Value.str "__firstlineno__" 298, val := Value.int 14 297 }, { hash := PyData.keyHash P "__static_attributes__", key := Value.str "__static_attributes__" 299, val := Value.ref 95 }, { hash := PyData.keyHash P "__doc__", key := Value.str "__doc__" 300, val := Value.none }] 2 }) ::
(nat_lit 97, { cls := Value.type "type", data := Data.cls { name := "NoSmall", bases := [Value.ref 24], mro := [Value.ref 97, Value.ref 24, Value.type "ValueError", Value.type "Exception", Value.type "BaseException", Value.type "object"], ns := 96, qualname := "NoSmall" }, slots := #[Option.some (Value.ref 88), Option.none, Option.some (Value.str "NoSmall" 287), Option.some (Value.str "NoSmall" 295), Option.some (Value.builtin "ValueError.__new__"), Option.some (Value.bool Bool.true)] }) ::
(nat_lit 100, { cls := Value.type "tuple", data := Data.seq #[Value.ref 24] }) ::
(nat_lit 107, { cls := Value.type "tuple", data := Data.seq #[] }) ::
(nat_lit 108, { cls := Value.type "dict", data := Data.dict #[{ hash := PyData.keyHash P "__module__", key := Value.str "__module__" 310, val := Value.str "deeprests.errors" 187 }, { hash := PyData.keyHash P "__firstlineno__", key := Value.str "__firstlineno__" 314, val := Value.int 16 313 }, { hash := PyData.keyHash P "__static_attributes__", key := Value.str "__static_attributes__" 315, val := Value.ref 107 }, { hash := PyData.keyHash P "__doc__", key := Value.str "__doc__" 316, val := Value.none }] 2 }) ::
(nat_lit 109, { cls := Value.type "type", data := Data.cls { name := "NoParts", bases := [Value.ref 24], mro := [Value.ref 109, Value.ref 24, Value.type "ValueError", Value.type "Exception", Value.type "BaseException", Value.type "object"], ns := 108, qualname := "NoParts" }, slots := #[Option.some (Value.ref 100), Option.none, Option.some (Value.str "NoParts" 303), Option.some (Value.str "NoParts" 311), Option.some (Value.builtin "ValueError.__new__"), Option.some (Value.bool Bool.true)] }) ::
(nat_lit 112, { cls := Value.type "tuple", data := Data.seq #[Value.ref 24] }) ::
(nat_lit 119, { cls := Value.type "tuple", data := Data.seq #[] }) ::
(nat_lit 120, { cls := Value.type "dict", data := Data.dict #[{ hash := PyData.keyHash P "__module__", key := Value.str "__module__" 326, val := Value.str "deeprests.errors" 187 }, { hash := PyData.keyHash P "__firstlineno__", key := Value.str "__firstlineno__" 330, val := Value.int 18 329 }, { hash := PyData.keyHash P "__static_attributes__", key := Value.str "__static_attributes__" 331, val := Value.ref 119 }, { hash := PyData.keyHash P "__doc__", key := Value.str "__doc__" 332, val := Value.none }] 2 }) ::
(nat_lit 121, { cls := Value.type "type", data := Data.cls { name := "NoPrime", bases := [Value.ref 24], mro := [Value.ref 121, Value.ref 24, Value.type "ValueError", Value.type "Exception", Value.type "BaseException", Value.type "object"], ns := 120, qualname := "NoPrime" }, slots := #[Option.some (Value.ref 112), Option.none, Option.some (Value.str "NoPrime" 319), Option.some (Value.str "NoPrime" 327), Option.some (Value.builtin "ValueError.__new__"), Option.some (Value.bool Bool.true)] }) ::
(nat_lit 124, { cls := Value.type "tuple", data := Data.seq #[Value.ref 24] }) ::
(nat_lit 131, { cls := Value.type "tuple", data := Data.seq #[] }) ::
(nat_lit 132, { cls := Value.type "dict", data := Data.dict #[{ hash := PyData.keyHash P "__module__", key := Value.str "__module__" 342, val := Value.str "deeprests.errors" 187 }, { hash := PyData.keyHash P "__firstlineno__", key := Value.str "__firstlineno__" 346, val := Value.int 20 345 }, { hash := PyData.keyHash P "__static_attributes__", key := Value.str "__static_attributes__" 347, val := Value.ref 131 }, { hash := PyData.keyHash P "__doc__", key := Value.str "__doc__" 348, val := Value.none }] 2 }) ::
(nat_lit 133, { cls := Value.type "type", data := Data.cls { name := "NoText", bases := [Value.ref 24], mro := [Value.ref 133, Value.ref 24, Value.type "ValueError", Value.type "Exception", Value.type "BaseException", Value.type "object"], ns := 132, qualname := "NoText" }, slots := #[Option.some (Value.ref 124), Option.none, Option.some (Value.str "NoText" 335), Option.some (Value.str "NoText" 343), Option.some (Value.builtin "ValueError.__new__"), Option.some (Value.bool Bool.true)] }) ::
(nat_lit 136, { cls := Value.type "tuple", data := Data.seq #[Value.ref 24] }) ::
(nat_lit 143, { cls := Value.type "tuple", data := Data.seq #[] }) ::
(nat_lit 144, { cls := Value.type "dict", data := Data.dict #[{ hash := PyData.keyHash P "__module__", key := Value.str "__module__" 358, val := Value.str "deeprests.errors" 187 }, { hash := PyData.keyHash P "__firstlineno__", key := Value.str "__firstlineno__" 362, val := Value.int 22 361 }, { hash := PyData.keyHash P "__static_attributes__", key := Value.str "__static_attributes__" 363, val := Value.ref 143 }, { hash := PyData.keyHash P "__doc__", key := Value.str "__doc__" 364, val := Value.none }] 2 }) ::
(nat_lit 145, { cls := Value.type "type", data := Data.cls { name := "NoName", bases := [Value.ref 24], mro := [Value.ref 145, Value.ref 24, Value.type "ValueError", Value.type "Exception", Value.type "BaseException", Value.type "object"], ns := 144, qualname := "NoName" }, slots := #[Option.some (Value.ref 136), Option.none, Option.some (Value.str "NoName" 351), Option.some (Value.str "NoName" 359), Option.some (Value.builtin "ValueError.__new__"), Option.some (Value.bool Bool.true)] }) ::
(nat_lit 148, { cls := Value.type "tuple", data := Data.seq #[Value.ref 24] }) ::
(nat_lit 155, { cls := Value.type "tuple", data := Data.seq #[] }) ::
(nat_lit 156, { cls := Value.type "dict", data := Data.dict #[{ hash := PyData.keyHash P "__module__", key := Value.str "__module__" 374, val := Value.str "deeprests.errors" 187 }, { hash := PyData.keyHash P "__firstlineno__", key := Value.str "__firstlineno__" 378, val := Value.int 24 377 }, { hash := PyData.keyHash P "__static_attributes__", key := Value.str "__static_attributes__" 379, val := Value.ref 155 }, { hash := PyData.keyHash P "__doc__", key := Value.str "__doc__" 380, val := Value.none }] 2 }) ::
(nat_lit 157, { cls := Value.type "type", data := Data.cls { name := "NoRow", bases := [Value.ref 24], mro := [Value.ref 157, Value.ref 24, Value.type "ValueError", Value.type "Exception", Value.type "BaseException", Value.type "object"], ns := 156, qualname := "NoRow" }, slots := #[Option.some (Value.ref 148), Option.none, Option.some (Value.str "NoRow" 367), Option.some (Value.str "NoRow" 375), Option.some (Value.builtin "ValueError.__new__"), Option.some (Value.bool Bool.true)] }) ::
(nat_lit 160, { cls := Value.type "tuple", data := Data.seq #[Value.ref 24] }) ::
(nat_lit 167, { cls := Value.type "tuple", data := Data.seq #[] }) ::
(nat_lit 168, { cls := Value.type "dict", data := Data.dict #[{ hash := PyData.keyHash P "__module__", key := Value.str "__module__" 390, val := Value.str "deeprests.errors" 187 }, { hash := PyData.keyHash P "__firstlineno__", key := Value.str "__firstlineno__" 394, val := Value.int 26 393 }, { hash := PyData.keyHash P "__static_attributes__", key := Value.str "__static_attributes__" 395, val := Value.ref 167 }, { hash := PyData.keyHash P "__doc__", key := Value.str "__doc__" 396, val := Value.none }] 2 }) ::
(nat_lit 169, { cls := Value.type "type", data := Data.cls { name := "TooGreat", bases := [Value.ref 24], mro := [Value.ref 169, Value.ref 24, Value.type "ValueError", Value.type "Exception", Value.type "BaseException", Value.type "object"], ns := 168, qualname := "TooGreat" }, slots := #[Option.some (Value.ref 160), Option.none, Option.some (Value.str "TooGreat" 383), Option.some (Value.str "TooGreat" 391), Option.some (Value.builtin "ValueError.__new__"), Option.some (Value.bool Bool.true)] }) ::
(nat_lit 172, { cls := Value.type "tuple", data := Data.seq #[] }) ::
(nat_lit 174, { cls := Value.type "tuple", data := Data.seq #[Value.str "p" 404, Value.str "x" 405, Value.str "depth" 406, Value.str "left" 407] }) ::
(nat_lit 175, { cls := Value.type "tuple", data := Data.seq #[] }) ::
(nat_lit 177, { cls := Value.type "code", data := Data.fields #[Value.str "depth_of" 401, Value.str "depth_of" 402, Value.str "/claim/cut.py" 403, Value.int 29 0, Value.int 2 0, Value.int 0 0, Value.int 0 0, Value.int 3 0, Value.ref 172, Value.bool Bool.true, Value.int 181 0, Value.ref 173, Value.none, Value.ref 174, Value.ref 175, Value.ref 176, Value.int 408 0, Value.int 29 0, Value.str "/claim/cut.py" 409] }) ::
(nat_lit 178, ⟨(Value.type "function"), none, .func (PySem.W.fnOf "depth_of" "depth_of" (defArgs s_depth_of) (defBody s_depth_of) (defScope s_depth_of) (Value.none) (Value.none) (Value.none) (Value.str "deeprests.primes" 399) none (Value.ref 177) (Value.none)), #[]⟩) ::
(nat_lit 179, { cls := Value.type "tuple", data := Data.seq #[] }) ::
(nat_lit 181, { cls := Value.type "tuple", data := Data.seq #[Value.str "p" 414, Value.str "e" 415, Value.str "power" 416, Value.str "turn" 417] }) ::
(nat_lit 182, { cls := Value.type "tuple", data := Data.seq #[] }) ::
(nat_lit 184, { cls := Value.type "code", data := Data.fields #[Value.str "power_of" 411, Value.str "power_of" 412, Value.str "/claim/cut.py" 413, Value.int 38 0, Value.int 2 0, Value.int 0 0, Value.int 0 0, Value.int 3 0, Value.ref 179, Value.bool Bool.true, Value.int 181 0, Value.ref 180, Value.none, Value.ref 181, Value.ref 182, Value.ref 183, Value.int 418 0, Value.int 38 0, Value.str "/claim/cut.py" 419] }) ::
(nat_lit 185, ⟨(Value.type "function"), none, .func (PySem.W.fnOf "power_of" "power_of" (defArgs s_power_of) (defBody s_power_of) (defScope s_power_of) (Value.none) (Value.none) (Value.none) (Value.str "deeprests.primes" 399) none (Value.ref 184) (Value.none)), #[]⟩) ::
(nat_lit 186, { cls := Value.type "tuple", data := Data.seq #[] }) ::
(nat_lit 189, { cls := Value.type "code", data := Data.fields #[Value.str "inverse_by_prime" 421, Value.str "inverse_by_prime" 422, Value.str "/claim/cut.py" 423, Value.int 43 0, Value.int 2 0, Value.int 0 0, Value.int 0 0, Value.int 3 0, Value.ref 186, Value.bool Bool.true, Value.int 181 0, Value.ref 187, Value.none, Value.none, Value.none, Value.ref 188, Value.int 424 0, Value.int 43 0, Value.str "/claim/cut.py" 425] }) ::
(nat_lit 190, ⟨(Value.type "function"), none, .func (PySem.W.fnOf "inverse_by_prime" "inverse_by_prime" (defArgs s_inverse_by_prime) (defBody s_inverse_by_prime) (defScope s_inverse_by_prime) (Value.none) (Value.none) (Value.none) (Value.str "deeprests.primes" 399) none (Value.ref 189) (Value.none)), #[]⟩) ::
(nat_lit 191, { cls := Value.type "tuple", data := Data.seq #[] }) ::
(nat_lit 193, { cls := Value.type "tuple", data := Data.seq #[Value.str "p" 430, Value.str "e" 431, Value.str "x" 432, Value.str "power" 433, Value.str "y" 434, Value.str "reached" 435] }) ::
(nat_lit 194, { cls := Value.type "tuple", data := Data.seq #[] }) ::
(nat_lit 196, { cls := Value.type "code", data := Data.fields #[Value.str "inverse_of" 427, Value.str "inverse_of" 428, Value.str "/claim/cut.py" 429, Value.int 46 0, Value.int 3 0, Value.int 0 0, Value.int 0 0, Value.int 3 0, Value.ref 191, Value.bool Bool.true, Value.int 181 0, Value.ref 192, Value.none, Value.ref 193, Value.ref 194, Value.ref 195, Value.int 436 0, Value.int 46 0, Value.str "/claim/cut.py" 437] }) ::
(nat_lit 197, ⟨(Value.type "function"), none, .func (PySem.W.fnOf "inverse_of" "inverse_of" (defArgs s_inverse_of) (defBody s_inverse_of) (defScope s_inverse_of) (Value.none) (Value.none) (Value.none) (Value.str "deeprests.primes" 399) none (Value.ref 196) (Value.none)), #[]⟩) ::
(nat_lit 198, { cls := Value.type "tuple", data := Data.seq #[] }) ::
(nat_lit 200, { cls := Value.type "tuple", data := Data.seq #[Value.str "f" 446, Value.str "x" 447, Value.str "worth" 448, Value.str "number" 449] }) ::
(nat_lit 201, { cls := Value.type "tuple", data := Data.seq #[] }) ::
(nat_lit 203, { cls := Value.type "code", data := Data.fields #[Value.str "worth_at" 443, Value.str "worth_at" 444, Value.str "/claim/cut.py" 445, Value.int 60 0, Value.int 2 0, Value.int 0 0, Value.int 0 0, Value.int 3 0, Value.ref 198, Value.bool Bool.true, Value.int 181 0, Value.ref 199, Value.none, Value.ref 200, Value.ref 201, Value.ref 202, Value.int 450 0, Value.int 60 0, Value.str "/claim/cut.py" 451] }) ::
(nat_lit 204, ⟨(Value.type "function"), none, .func (PySem.W.fnOf "worth_at" "worth_at" (defArgs s_worth_at) (defBody s_worth_at) (defScope s_worth_at) (Value.none) (Value.none) (Value.none) (Value.str "deeprests.polynomials" 441) none (Value.ref 203) (Value.none)), #[]⟩) ::
(nat_lit 205, { cls := Value.type "tuple", data := Data.seq #[] }) ::
(nat_lit 207, { cls := Value.type "tuple", data := Data.seq #[Value.str "f" 456, Value.str "degree" 457, Value.str "place" 458, Value.str "number" 459] }) ::
(nat_lit 208, { cls := Value.type "tuple", data := Data.seq #[] }) ::
(nat_lit 210, { cls := Value.type "code", data := Data.fields #[Value.str "degree_of" 453, Value.str "degree_of" 454, Value.str "/claim/cut.py" 455, Value.int 65 0, Value.int 1 0, Value.int 0 0, Value.int 0 0, Value.int 3 0, Value.ref 205, Value.bool Bool.true, Value.int 181 0, Value.ref 206, Value.none, Value.ref 207, Value.ref 208, Value.ref 209, Value.int 460 0, Value.int 65 0, Value.str "/claim/cut.py" 461] }) ::
(nat_lit 211, ⟨(Value.type "function"), none, .func (PySem.W.fnOf "degree_of" "degree_of" (defArgs s_degree_of) (defBody s_degree_of) (defScope s_degree_of) (Value.none) (Value.none) (Value.none) (Value.str "deeprests.polynomials" 441) none (Value.ref 210) (Value.none)), #[]⟩) ::
(nat_lit 212, { cls := Value.type "tuple", data := Data.seq #[] }) ::
(nat_lit 214, { cls := Value.type "tuple", data := Data.seq #[Value.str "f" 466, Value.str "g" 467, Value.str "product" 468, Value.str "place" 469, Value.str "number" 470, Value.str "other_place" 471, Value.str "other_number" 472] }) ::
(nat_lit 215, { cls := Value.type "tuple", data := Data.seq #[] }) ::
(nat_lit 217, { cls := Value.type "code", data := Data.fields #[Value.str "poly_product" 463, Value.str "poly_product" 464, Value.str "/claim/cut.py" 465, Value.int 71 0, Value.int 2 0, Value.int 0 0, Value.int 0 0, Value.int 3 0, Value.ref 212, Value.bool Bool.true, Value.int 181 0, Value.ref 213, Value.none, Value.ref 214, Value.ref 215, Value.ref 216, Value.int 473 0, Value.int 71 0, Value.str "/claim/cut.py" 474] }) ::
(nat_lit 218, ⟨(Value.type "function"), none, .func (PySem.W.fnOf "poly_product" "poly_product" (defArgs s_poly_product) (defBody s_poly_product) (defScope s_poly_product) (Value.none) (Value.none) (Value.none) (Value.str "deeprests.polynomials" 441) none (Value.ref 217) (Value.none)), #[]⟩) ::
(nat_lit 219, { cls := Value.type "tuple", data := Data.seq #[] }) ::
(nat_lit 222, { cls := Value.type "code", data := Data.fields #[Value.str "slope_of" 476, Value.str "slope_of" 477, Value.str "/claim/cut.py" 478, Value.int 77 0, Value.int 1 0, Value.int 0 0, Value.int 0 0, Value.int 3 0, Value.ref 219, Value.bool Bool.true, Value.int 181 0, Value.ref 220, Value.none, Value.none, Value.none, Value.ref 221, Value.int 479 0, Value.int 77 0, Value.str "/claim/cut.py" 480] }) ::
(nat_lit 223, ⟨(Value.type "function"), none, .func (PySem.W.fnOf "slope_of" "slope_of" (defArgs s_slope_of) (defBody s_slope_of) (defScope s_slope_of) (Value.none) (Value.none) (Value.none) (Value.str "deeprests.polynomials" 441) none (Value.ref 222) (Value.none)), #[]⟩) ::
(nat_lit 224, { cls := Value.type "tuple", data := Data.seq #[] }) ::
(nat_lit 226, { cls := Value.type "tuple", data := Data.seq #[Value.str "p" 485, Value.str "f" 486, Value.str "a" 487, Value.str "e" 488, Value.str "place_seen" 489, Value.str "seen" 490, Value.str "number" 491] }) ::
(nat_lit 227, { cls := Value.type "tuple", data := Data.seq #[] }) ::
(nat_lit 229, { cls := Value.type "code", data := Data.fields #[Value.str "seen_from" 482, Value.str "seen_from" 483, Value.str "/claim/cut.py" 484, Value.int 81 0, Value.int 4 0, Value.int 0 0, Value.int 0 0, Value.int 3 0, Value.ref 224, Value.bool Bool.true, Value.int 181 0, Value.ref 225, Value.none, Value.ref 226, Value.ref 227, Value.ref 228, Value.int 492 0, Value.int 81 0, Value.str "/claim/cut.py" 493] }) ::
(nat_lit 230, ⟨(Value.type "function"), none, .func (PySem.W.fnOf "seen_from" "seen_from" (defArgs s_seen_from) (defBody s_seen_from) (defScope s_seen_from) (Value.none) (Value.none) (Value.none) (Value.str "deeprests.polynomials" 441) none (Value.ref 229) (Value.none)), #[]⟩) ::
(nat_lit 231, { cls := Value.type "tuple", data := Data.seq #[] }) ::
(nat_lit 234, { cls := Value.type "code", data := Data.fields #[Value.str "content_of" 495, Value.str "content_of" 496, Value.str "/claim/cut.py" 497, Value.int 88 0, Value.int 2 0, Value.int 0 0, Value.int 0 0, Value.int 3 0, Value.ref 231, Value.bool Bool.true, Value.int 181 0, Value.ref 232, Value.none, Value.none, Value.none, Value.ref 233, Value.int 498 0, Value.int 88 0, Value.str "/claim/cut.py" 499] }) ::
(nat_lit 235, ⟨(Value.type "function"), none, .func (PySem.W.fnOf "content_of" "content_of" (defArgs s_content_of) (defBody s_content_of) (defScope s_content_of) (Value.none) (Value.none) (Value.none) (Value.str "deeprests.polynomials" 441) none (Value.ref 234) (Value.none)), #[]⟩) ::
(nat_lit 236, { cls := Value.type "tuple", data := Data.seq #[] }) ::
(nat_lit 239, { cls := Value.type "code", data := Data.fields #[Value.str "without_content" 501, Value.str "without_content" 502, Value.str "/claim/cut.py" 503, Value.int 97 0, Value.int 2 0, Value.int 0 0, Value.int 0 0, Value.int 3 0, Value.ref 236, Value.bool Bool.true, Value.int 181 0, Value.ref 237, Value.none, Value.none, Value.none, Value.ref 238, Value.int 504 0, Value.int 97 0, Value.str "/claim/cut.py" 505] }) ::
(nat_lit 240, ⟨(Value.type "function"), none, .func (PySem.W.fnOf "without_content" "without_content" (defArgs s_without_content) (defBody s_without_content) (defScope s_without_content) (Value.none) (Value.none) (Value.none) (Value.str "deeprests.polynomials" 441) none (Value.ref 239) (Value.none)), #[]⟩) ::
(nat_lit 241, { cls := Value.type "tuple", data := Data.seq #[] }) ::
(nat_lit 244, { cls := Value.type "code", data := Data.fields #[Value.str "rests_by_prime" 507, Value.str "rests_by_prime" 508, Value.str "/claim/cut.py" 509, Value.int 100 0, Value.int 2 0, Value.int 0 0, Value.int 0 0, Value.int 3 0, Value.ref 241, Value.bool Bool.true, Value.int 181 0, Value.ref 242, Value.none, Value.none, Value.none, Value.ref 243, Value.int 510 0, Value.int 100 0, Value.str "/claim/cut.py" 511] }) ::
(nat_lit 245, ⟨(Value.type "function"), none, .func (PySem.W.fnOf "rests_by_prime" "rests_by_prime" (defArgs s_rests_by_prime) (defBody s_rests_by_prime) (defScope s_rests_by_prime) (Value.none) (Value.none) (Value.none) (Value.str "deeprests.polynomials" 441) none (Value.ref 244) (Value.none)), #[]⟩) ::
(nat_lit 246, { cls := Value.type "tuple", data := Data.seq #[] }) ::
(nat_lit 248, { cls := Value.type "tuple", data := Data.seq #[Value.str "p" 518, Value.str "f" 519, Value.str "a" 520, Value.str "rise" 521, Value.str "d" 522] }) ::
(nat_lit 249, { cls := Value.type "tuple", data := Data.seq #[] }) ::
(nat_lit 251, { cls := Value.type "code", data := Data.fields #[Value.str "single_depth" 515, Value.str "single_depth" 516, Value.str "/claim/cut.py" 517, Value.int 104 0, Value.int 3 0, Value.int 0 0, Value.int 0 0, Value.int 3 0, Value.ref 246, Value.bool Bool.true, Value.int 181 0, Value.ref 247, Value.none, Value.ref 248, Value.ref 249, Value.ref 250, Value.int 523 0, Value.int 104 0, Value.str "/claim/cut.py" 524] }) ::
(nat_lit 252, ⟨(Value.type "function"), none, .func (PySem.W.fnOf "single_depth" "single_depth" (defArgs s_single_depth) (defBody s_single_depth) (defScope s_single_depth) (Value.none) (Value.none) (Value.none) (Value.str "deeprests.roots" 513) none (Value.ref 251) (Value.none)), #[]⟩) ::
(nat_lit 253, { cls := Value.type "tuple", data := Data.seq #[] }) ::
(nat_lit 255, { cls := Value.type "tuple", data := Data.seq #[Value.str "p" 529, Value.str "f" 530, Value.str "a" 531, Value.str "N" 532, Value.str "d" 533] }) ::
(nat_lit 256, { cls := Value.type "tuple", data := Data.seq #[] }) ::
(nat_lit 258, { cls := Value.type "code", data := Data.fields #[Value.str "root_of" 526, Value.str "root_of" 527, Value.str "/claim/cut.py" 528, Value.int 112 0, Value.int 4 0, Value.int 0 0, Value.int 0 0, Value.int 3 0, Value.ref 253, Value.bool Bool.true, Value.int 181 0, Value.ref 254, Value.none, Value.ref 255, Value.ref 256, Value.ref 257, Value.int 534 0, Value.int 112 0, Value.str "/claim/cut.py" 535] }) ::
(nat_lit 259, ⟨(Value.type "function"), none, .func (PySem.W.fnOf "root_of" "root_of" (defArgs s_root_of) (defBody s_root_of) (defScope s_root_of) (Value.none) (Value.none) (Value.none) (Value.str "deeprests.roots" 513) none (Value.ref 258) (Value.none)), #[]⟩) ::
(nat_lit 260, { cls := Value.type "tuple", data := Data.seq #[] }) ::
(nat_lit 262, { cls := Value.type "tuple", data := Data.seq #[Value.str "p" 540, Value.str "f" 541, Value.str "a" 542, Value.str "d" 543, Value.str "N" 544, Value.str "power" 545, Value.str "worth_power" 546, Value.str "root" 547, Value.str "inverse" 548, Value.str "turn" 549, Value.str "t" 550] }) ::
(nat_lit 263, { cls := Value.type "tuple", data := Data.seq #[] }) ::
(nat_lit 265, { cls := Value.type "code", data := Data.fields #[Value.str "deepened" 537, Value.str "deepened" 538, Value.str "/claim/cut.py" 539, Value.int 119 0, Value.int 5 0, Value.int 0 0, Value.int 0 0, Value.int 3 0, Value.ref 260, Value.bool Bool.true, Value.int 181 0, Value.ref 261, Value.none, Value.ref 262, Value.ref 263, Value.ref 264, Value.int 551 0, Value.int 119 0, Value.str "/claim/cut.py" 552] }) ::
(nat_lit 266, ⟨(Value.type "function"), none, .func (PySem.W.fnOf "deepened" "deepened" (defArgs s_deepened) (defBody s_deepened) (defScope s_deepened) (Value.none) (Value.none) (Value.none) (Value.str "deeprests.roots" 513) none (Value.ref 265) (Value.none)), #[]⟩) ::
(nat_lit 267, { cls := Value.type "tuple", data := Data.seq #[] }) ::
(nat_lit 269, { cls := Value.type "tuple", data := Data.seq #[Value.str "p" 557, Value.str "a" 558, Value.str "e" 559, Value.str "seen" 560, Value.str "N" 561, Value.str "freed" 562, Value.str "slope" 563, Value.str "power" 564, Value.str "roots" 565, Value.str "r" 566, Value.str "root" 567] }) ::
(nat_lit 270, { cls := Value.type "tuple", data := Data.seq #[] }) ::
(nat_lit 272, { cls := Value.type "code", data := Data.fields #[Value.str "roots_within" 554, Value.str "roots_within" 555, Value.str "/claim/cut.py" 556, Value.int 130 0, Value.int 5 0, Value.int 0 0, Value.int 0 0, Value.int 3 0, Value.ref 267, Value.bool Bool.true, Value.int 181 0, Value.ref 268, Value.none, Value.ref 269, Value.ref 270, Value.ref 271, Value.int 568 0, Value.int 130 0, Value.str "/claim/cut.py" 569] }) ::
(nat_lit 273, ⟨(Value.type "function"), none, .func (PySem.W.fnOf "roots_within" "roots_within" (defArgs s_roots_within) (defBody s_roots_within) (defScope s_roots_within) (Value.none) (Value.none) (Value.none) (Value.str "deeprests.roots" 513) none (Value.ref 272) (Value.none)), #[]⟩) ::
(nat_lit 274, { cls := Value.type "tuple", data := Data.seq #[] }) ::
(nat_lit 276, { cls := Value.type "tuple", data := Data.seq #[Value.str "p" 574, Value.str "f" 575, Value.str "N" 576] }) ::
(nat_lit 277, { cls := Value.type "tuple", data := Data.seq #[] }) ::
(nat_lit 279, { cls := Value.type "code", data := Data.fields #[Value.str "endless_roots" 571, Value.str "endless_roots" 572, Value.str "/claim/cut.py" 573, Value.int 144 0, Value.int 3 0, Value.int 0 0, Value.int 0 0, Value.int 3 0, Value.ref 274, Value.bool Bool.true, Value.int 181 0, Value.ref 275, Value.none, Value.ref 276, Value.ref 277, Value.ref 278, Value.int 577 0, Value.int 144 0, Value.str "/claim/cut.py" 578] }) ::
(nat_lit 280, ⟨(Value.type "function"), none, .func (PySem.W.fnOf "endless_roots" "endless_roots" (defArgs s_endless_roots) (defBody s_endless_roots) (defScope s_endless_roots) (Value.none) (Value.none) (Value.none) (Value.str "deeprests.roots" 513) none (Value.ref 279) (Value.none)), #[]⟩) ::
(nat_lit 281, { cls := Value.type "tuple", data := Data.seq #[] }) ::
(nat_lit 283, { cls := Value.type "tuple", data := Data.seq #[Value.str "script" 585, Value.str "k" 586] }) ::
(nat_lit 284, { cls := Value.type "tuple", data := Data.seq #[] }) ::
(nat_lit 286, { cls := Value.type "code", data := Data.fields #[Value.str "_law_cell_at" 582, Value.str "_law_cell_at" 583, Value.str "/claim/cut.py" 584, Value.int 147 0, Value.int 2 0, Value.int 0 0, Value.int 0 0, Value.int 3 0, Value.ref 281, Value.bool Bool.true, Value.int 181 0, Value.ref 282, Value.none, Value.ref 283, Value.ref 284, Value.ref 285, Value.int 587 0, Value.int 147 0, Value.str "/claim/cut.py" 588] }) ::
(nat_lit 287, ⟨(Value.type "function"), none, .func (PySem.W.fnOf "_law_cell_at" "_law_cell_at" (defArgs s__law_cell_at) (defBody s__law_cell_at) (defScope s__law_cell_at) (Value.none) (Value.none) (Value.none) (Value.str "law_deeprests_k46_refused_roots" 580) none (Value.ref 286) (Value.none)), #[]⟩) ::
(nat_lit 288, { cls := Value.type "tuple", data := Data.seq #[] }) ::
(nat_lit 290, { cls := Value.type "tuple", data := Data.seq #[Value.str "cell" 593, Value.str "primes" 594] }) ::
(nat_lit 291, { cls := Value.type "tuple", data := Data.seq #[] }) ::
(nat_lit 293, { cls := Value.type "code", data := Data.fields #[Value.str "_law_prime" 590, Value.str "_law_prime" 591, Value.str "/claim/cut.py" 592, Value.int 151 0, Value.int 1 0, Value.int 0 0, Value.int 0 0, Value.int 3 0, Value.ref 288, Value.bool Bool.true, Value.int 181 0, Value.ref 289, Value.none, Value.ref 290, Value.ref 291, Value.ref 292, Value.int 595 0, Value.int 151 0, Value.str "/claim/cut.py" 596] }) ::
(nat_lit 294, ⟨(Value.type "function"), none, .func (PySem.W.fnOf "_law_prime" "_law_prime" (defArgs s__law_prime) (defBody s__law_prime) (defScope s__law_prime) (Value.none) (Value.none) (Value.none) (Value.str "law_deeprests_k46_refused_roots" 580) none (Value.ref 293) (Value.none)), #[]⟩) ::
(nat_lit 295, { cls := Value.type "tuple", data := Data.seq #[] }) ::
(nat_lit 297, { cls := Value.type "tuple", data := Data.seq #[Value.str "f" 601, Value.str "g" 602, Value.str "found" 603, Value.str "k" 604, Value.str "j" 605] }) ::
(nat_lit 298, { cls := Value.type "tuple", data := Data.seq #[] }) ::
(nat_lit 300, { cls := Value.type "code", data := Data.fields #[Value.str "_law_times" 598, Value.str "_law_times" 599, Value.str "/claim/cut.py" 600, Value.int 156 0, Value.int 2 0, Value.int 0 0, Value.int 0 0, Value.int 3 0, Value.ref 295, Value.bool Bool.true, Value.int 181 0, Value.ref 296, Value.none, Value.ref 297, Value.ref 298, Value.ref 299, Value.int 606 0, Value.int 156 0, Value.str "/claim/cut.py" 607] }) ::
(nat_lit 301, ⟨(Value.type "function"), none, .func (PySem.W.fnOf "_law_times" "_law_times" (defArgs s__law_times) (defBody s__law_times) (defScope s__law_times) (Value.none) (Value.none) (Value.none) (Value.str "law_deeprests_k46_refused_roots" 580) none (Value.ref 300) (Value.none)), #[]⟩) ::
(nat_lit 302, { cls := Value.type "tuple", data := Data.seq #[] }) ::
(nat_lit 304, { cls := Value.type "tuple", data := Data.seq #[Value.str "p" 612, Value.str "e" 613, Value.str "found" 614, Value.str "k" 615] }) ::
(nat_lit 305, { cls := Value.type "tuple", data := Data.seq #[] }) ::
(nat_lit 307, { cls := Value.type "code", data := Data.fields #[Value.str "_law_power" 609, Value.str "_law_power" 610, Value.str "/claim/cut.py" 611, Value.int 162 0, Value.int 2 0, Value.int 0 0, Value.int 0 0, Value.int 3 0, Value.ref 302, Value.bool Bool.true, Value.int 181 0, Value.ref 303, Value.none, Value.ref 304, Value.ref 305, Value.ref 306, Value.int 616 0, Value.int 162 0, Value.str "/claim/cut.py" 617] }) ::
(nat_lit 308, ⟨(Value.type "function"), none, .func (PySem.W.fnOf "_law_power" "_law_power" (defArgs s__law_power) (defBody s__law_power) (defScope s__law_power) (Value.none) (Value.none) (Value.none) (Value.str "law_deeprests_k46_refused_roots" 580) none (Value.ref 307) (Value.none)), #[]⟩) ::
(nat_lit 309, { cls := Value.type "tuple", data := Data.seq #[] }) ::
(nat_lit 311, { cls := Value.type "tuple", data := Data.seq #[Value.str "p" 622, Value.str "t" 623, Value.str "cell" 624] }) ::
(nat_lit 312, { cls := Value.type "tuple", data := Data.seq #[] }) ::
(nat_lit 314, { cls := Value.type "code", data := Data.fields #[Value.str "_law_twice" 619, Value.str "_law_twice" 620, Value.str "/claim/cut.py" 621, Value.int 167 0, Value.int 3 0, Value.int 0 0, Value.int 0 0, Value.int 3 0, Value.ref 309, Value.bool Bool.true, Value.int 181 0, Value.ref 310, Value.none, Value.ref 311, Value.ref 312, Value.ref 313, Value.int 625 0, Value.int 167 0, Value.str "/claim/cut.py" 626] }) ::
(nat_lit 315, ⟨(Value.type "function"), none, .func (PySem.W.fnOf "_law_twice" "_law_twice" (defArgs s__law_twice) (defBody s__law_twice) (defScope s__law_twice) (Value.none) (Value.none) (Value.none) (Value.str "law_deeprests_k46_refused_roots" 580) none (Value.ref 314) (Value.none)), #[]⟩) ::
(nat_lit 316, { cls := Value.type "tuple", data := Data.seq #[] }) ::
(nat_lit 318, { cls := Value.type "tuple", data := Data.seq #[Value.str "p" 631, Value.str "f" 632, Value.str "N" 633, Value.str "kinds" 634, Value.str "e" 635] }) ::
(nat_lit 319, { cls := Value.type "tuple", data := Data.seq #[] }) ::
(nat_lit 321, { cls := Value.type "code", data := Data.fields #[Value.str "_law_kinds" 628, Value.str "_law_kinds" 629, Value.str "/claim/cut.py" 630, Value.int 173 0, Value.int 3 0, Value.int 0 0, Value.int 0 0, Value.int 3 0, Value.ref 316, Value.bool Bool.true, Value.int 181 0, Value.ref 317, Value.none, Value.ref 318, Value.ref 319, Value.ref 320, Value.int 636 0, Value.int 173 0, Value.str "/claim/cut.py" 637] }) ::
(nat_lit 322, ⟨(Value.type "function"), none, .func (PySem.W.fnOf "_law_kinds" "_law_kinds" (defArgs s__law_kinds) (defBody s__law_kinds) (defScope s__law_kinds) (Value.none) (Value.none) (Value.none) (Value.str "law_deeprests_k46_refused_roots" 580) none (Value.ref 321) (Value.none)), #[]⟩) ::
(nat_lit 323, { cls := Value.type "tuple", data := Data.seq #[] }) ::
(nat_lit 326, { cls := Value.type "code", data := Data.fields #[Value.str "law" 639, Value.str "law" 640, Value.str "/claim/cut.py" 641, Value.int 183 0, Value.int 1 0, Value.int 0 0, Value.int 0 0, Value.int 3 0, Value.ref 323, Value.bool Bool.true, Value.int 181 0, Value.ref 324, Value.none, Value.none, Value.none, Value.ref 325, Value.int 642 0, Value.int 183 0, Value.str "/claim/cut.py" 643] }) ::
(nat_lit 327, ⟨(Value.type "function"), none, .func (PySem.W.fnOf "law" "law" (defArgs s_law) (defBody s_law) (defScope s_law) (Value.none) (Value.none) (Value.none) (Value.str "law_deeprests_k46_refused_roots" 580) none (Value.ref 326) (Value.none)), #[]⟩) :: []) k_dec
end
end K46
open PySem PySem.W PyProof.Rows
set_option maxRecDepth 100000 in
set_option maxHeartbeats 0 in
theorem PySem.Challenge.cw_deeprests_k46_refused_roots_holds : PySem.Challenge.rw_deeprests_k46_refused_roots.Holds := by
  w_on; o_law; o_head (kHook K46.kH [nat_lit 2, nat_lit 3, nat_lit 15, nat_lit 22, nat_lit 23, nat_lit 24, nat_lit 25, nat_lit 28, nat_lit 35, nat_lit 36, nat_lit 37, nat_lit 40, nat_lit 47, nat_lit 48, nat_lit 49, nat_lit 52, nat_lit 59, nat_lit 60, nat_lit 61, nat_lit 64, nat_lit 71, nat_lit 72, nat_lit 73, nat_lit 76, nat_lit 83, nat_lit 84, nat_lit 85, nat_lit 88, nat_lit 95, nat_lit 96, nat_lit 97, nat_lit 100, nat_lit 107, nat_lit 108, nat_lit 109, nat_lit 112, nat_lit 119, nat_lit 120, nat_lit 121, nat_lit 124, nat_lit 131, nat_lit 132, nat_lit 133, nat_lit 136, nat_lit 143, nat_lit 144, nat_lit 145, nat_lit 148, nat_lit 155, nat_lit 156, nat_lit 157, nat_lit 160, nat_lit 167, nat_lit 168, nat_lit 169, nat_lit 172, nat_lit 174, nat_lit 175, nat_lit 177, nat_lit 178, nat_lit 179, nat_lit 181, nat_lit 182, nat_lit 184, nat_lit 185, nat_lit 186, nat_lit 189, nat_lit 190, nat_lit 191, nat_lit 193, nat_lit 194, nat_lit 196, nat_lit 197, nat_lit 198, nat_lit 200, nat_lit 201, nat_lit 203, nat_lit 204, nat_lit 205, nat_lit 207, nat_lit 208, nat_lit 210, nat_lit 211, nat_lit 212, nat_lit 214, nat_lit 215, nat_lit 217, nat_lit 218, nat_lit 219, nat_lit 222, nat_lit 223, nat_lit 224, nat_lit 226, nat_lit 227, nat_lit 229, nat_lit 230, nat_lit 231, nat_lit 234, nat_lit 235, nat_lit 236, nat_lit 239, nat_lit 240, nat_lit 241, nat_lit 244, nat_lit 245, nat_lit 246, nat_lit 248, nat_lit 249, nat_lit 251, nat_lit 252, nat_lit 253, nat_lit 255, nat_lit 256, nat_lit 258, nat_lit 259, nat_lit 260, nat_lit 262, nat_lit 263, nat_lit 265, nat_lit 266, nat_lit 267, nat_lit 269, nat_lit 270, nat_lit 272, nat_lit 273, nat_lit 274, nat_lit 276, nat_lit 277, nat_lit 279, nat_lit 280, nat_lit 281, nat_lit 283, nat_lit 284, nat_lit 286, nat_lit 287, nat_lit 288, nat_lit 290, nat_lit 291, nat_lit 293, nat_lit 294, nat_lit 295, nat_lit 297, nat_lit 298, nat_lit 300, nat_lit 301, nat_lit 302, nat_lit 304, nat_lit 305, nat_lit 307, nat_lit 308, nat_lit 309, nat_lit 311, nat_lit 312, nat_lit 314, nat_lit 315, nat_lit 316, nat_lit 318, nat_lit 319, nat_lit 321, nat_lit 322, nat_lit 323, nat_lit 326, nat_lit 327] (fun _ => by kernel_rfl)); (case hw => w_witness2)
  k_fill
  refine L2.walk_law (l := PySem.Challenge.rw_deeprests_k46_refused_roots) (k := 68) (CX := fun _ => L2.CX0) rfl rfl ⟨rfl, by decide, by decide⟩ (fun w h Y => PySem.W.kIn_of Y) (fun _ _ _ _ _ z => z) ?F
  case F =>
    intro w mg fa h KX G hmg
    refine' K46.all_mk KX G hmg ?a1 ?l1 ?c1 ?k1 ?a2 ?l2 ?c2 ?k2 ?a3 ?l3 ?c3 ?k3 ?a4 ?l4 ?c4 ?k4 ?a5 ?l5 ?c5 ?k5 ?a6 ?l6 ?c6 ?k6 ?a7 ?l7 ?c7 ?k7 ?a8 ?l8 ?c8 ?k8 ?a9 ?l9 ?c9 ?k9 ?a10 ?l10 ?c10 ?k10 ?a11 ?l11 ?c11 ?k11 ?a12 ?l12 ?c12 ?k12 ?a13 ?l13 ?c13 ?k13 ?a14 ?l14 ?c14 ?k14 ?a15 ?l15 ?c15 ?k15 ?a16 ?l16 ?c16 ?k16 ?a17 ?l17 ?c17 ?k17 ?a18 ?l18 ?c18 ?k18 ?a19 ?l19 ?c19 ?k19 ?a20 ?l20 ?c20 ?k20 ?a21 ?l21 ?c21 ?k21 ?a22 ?l22 ?c22 ?k22 ?a23 ?l23 ?c23 ?k23 ?a24 ?l24 ?c24 ?k24 ?z_ValueError ?z_all ?z_enumerate ?z_int ?z_isinstance ?z_len ?z_list ?z_max ?z_min ?z_range ?z_reversed ?z_sorted ?z_GREATEST_DEPTH ?z_NoBall ?z_NoDepth ?z_NoInverse ?z_NoName ?z_NoParts ?z_NoPrime ?z_NoRow ?z_NoSingle ?z_NoSmall ?z_NoText ?z_RestError ?z_TooDeep ?z_TooGreat ?x_NoDepth ?x_NoSingle ?x_TooDeep ?m_NoDepth_RestError ?m_TooDeep_RestError ?f_NoDepth ?f_TooDeep ?i_NoDepth_NoBall ?i_NoDepth_NoDepth ?i_NoDepth_NoInverse ?i_NoDepth_NoName ?i_NoDepth_NoParts ?i_NoDepth_NoPrime ?i_NoDepth_NoRow ?i_NoDepth_NoSingle ?i_NoDepth_NoSmall ?i_NoDepth_NoText ?i_NoDepth_RestError ?i_NoDepth_TooDeep ?i_NoDepth_TooGreat ?i_NoDepth_ValueError ?i_TooDeep_NoBall ?i_TooDeep_NoDepth ?i_TooDeep_NoInverse ?i_TooDeep_NoName ?i_TooDeep_NoParts ?i_TooDeep_NoPrime ?i_TooDeep_NoRow ?i_TooDeep_NoSingle ?i_TooDeep_NoSmall ?i_TooDeep_NoText ?i_TooDeep_RestError ?i_TooDeep_TooDeep ?i_TooDeep_TooGreat ?i_TooDeep_ValueError
    (case a1 => k_is)
    (case l1 => k_is)
    (case c1 => k_is)
    (case k1 => k_is)
    (case a2 => k_is)
    (case l2 => k_is)
    (case c2 => k_is)
    (case k2 => k_is)
    (case a3 => k_is)
    (case l3 => k_is)
    (case c3 => k_is)
    (case k3 => k_is)
    (case a4 => k_is)
    (case l4 => k_is)
    (case c4 => k_is)
    (case k4 => k_is)
    (case a5 => k_is)
    (case l5 => k_is)
    (case c5 => k_is)
    (case k5 => k_is)
    (case a6 => k_is)
    (case l6 => k_is)
    (case c6 => k_is)
    (case k6 => k_is)
    (case a7 => k_is)
    (case l7 => k_is)
    (case c7 => k_is)
    (case k7 => k_is)
    (case a8 => k_is)
    (case l8 => k_is)
    (case c8 => k_is)
    (case k8 => k_is)
    (case a9 => k_is)
    (case l9 => k_is)
    (case c9 => k_is)
    (case k9 => k_is)
    (case a10 => k_is)
    (case l10 => k_is)
    (case c10 => k_is)
    (case k10 => k_is)
    (case a11 => k_is)
    (case l11 => k_is)
    (case c11 => k_is)
    (case k11 => k_is)
    (case a12 => k_is)
    (case l12 => k_is)
    (case c12 => k_is)
    (case k12 => k_is)
    (case a13 => k_is)
    (case l13 => k_is)
    (case c13 => k_is)
    (case k13 => k_is)
    (case a14 => k_is)
    (case l14 => k_is)
    (case c14 => k_is)
    (case k14 => k_is)
    (case a15 => k_is)
    (case l15 => k_is)
    (case c15 => k_is)
    (case k15 => k_is)
    (case a16 => k_is)
    (case l16 => k_is)
    (case c16 => k_is)
    (case k16 => k_is)
    (case a17 => k_is)
    (case l17 => k_is)
    (case c17 => k_is)
    (case k17 => k_is)
    (case a18 => k_is)
    (case l18 => k_is)
    (case c18 => k_is)
    (case k18 => k_is)
    (case a19 => k_is)
    (case l19 => k_is)
    (case c19 => k_is)
    (case k19 => k_is)
    (case a20 => k_is)
    (case l20 => k_is)
    (case c20 => k_is)
    (case k20 => k_is)
    (case a21 => k_is)
    (case l21 => k_is)
    (case c21 => k_is)
    (case k21 => k_is)
    (case a22 => k_is)
    (case l22 => k_is)
    (case c22 => k_is)
    (case k22 => k_is)
    (case a23 => k_is)
    (case l23 => k_is)
    (case c23 => k_is)
    (case k23 => k_is)
    (case a24 => k_is)
    (case l24 => k_is)
    (case c24 => k_is)
    (case k24 => k_is)
    (case z_ValueError => k_is)
    (case z_all => kernel_rfl)
    (case z_enumerate => k_is)
    (case z_int => k_is)
    (case z_isinstance => k_is)
    (case z_len => k_is)
    (case z_list => k_is)
    (case z_max => k_is)
    (case z_min => k_is)
    (case z_range => k_is)
    (case z_reversed => k_is)
    (case z_sorted => k_is)
    (case z_GREATEST_DEPTH => k_is)
    (case z_NoBall => k_is)
    (case z_NoDepth => k_is)
    (case z_NoInverse => k_is)
    (case z_NoName => k_is)
    (case z_NoParts => k_is)
    (case z_NoPrime => k_is)
    (case z_NoRow => k_is)
    (case z_NoSingle => k_is)
    (case z_NoSmall => k_is)
    (case z_NoText => k_is)
    (case z_RestError => k_is)
    (case z_TooDeep => k_is)
    (case z_TooGreat => k_is)
    (case x_NoDepth => show PySem.W.excIn _ _ _ _ = true; kernel_rfl)
    (case x_NoSingle => show PySem.W.excIn _ _ _ _ = true; kernel_rfl)
    (case x_TooDeep => show PySem.W.excIn _ _ _ _ = true; kernel_rfl)
    (case m_NoDepth_RestError => kernel_rfl)
    (case m_TooDeep_RestError => kernel_rfl)
    (case f_NoDepth => exact ⟨by k_is, by k_is, by k_is, by k_is, by k_is, by k_is, by k_is, by k_is⟩)
    (case f_TooDeep => exact ⟨by k_is, by k_is, by k_is, by k_is, by k_is, by k_is, by k_is, by k_is⟩)
    (case i_NoDepth_NoBall => kernel_rfl)
    (case i_NoDepth_NoDepth => kernel_rfl)
    (case i_NoDepth_NoInverse => kernel_rfl)
    (case i_NoDepth_NoName => kernel_rfl)
    (case i_NoDepth_NoParts => kernel_rfl)
    (case i_NoDepth_NoPrime => kernel_rfl)
    (case i_NoDepth_NoRow => kernel_rfl)
    (case i_NoDepth_NoSingle => kernel_rfl)
    (case i_NoDepth_NoSmall => kernel_rfl)
    (case i_NoDepth_NoText => kernel_rfl)
    (case i_NoDepth_RestError => kernel_rfl)
    (case i_NoDepth_TooDeep => kernel_rfl)
    (case i_NoDepth_TooGreat => kernel_rfl)
    (case i_NoDepth_ValueError => kernel_rfl)
    (case i_TooDeep_NoBall => kernel_rfl)
    (case i_TooDeep_NoDepth => kernel_rfl)
    (case i_TooDeep_NoInverse => kernel_rfl)
    (case i_TooDeep_NoName => kernel_rfl)
    (case i_TooDeep_NoParts => kernel_rfl)
    (case i_TooDeep_NoPrime => kernel_rfl)
    (case i_TooDeep_NoRow => kernel_rfl)
    (case i_TooDeep_NoSingle => kernel_rfl)
    (case i_TooDeep_NoSmall => kernel_rfl)
    (case i_TooDeep_NoText => kernel_rfl)
    (case i_TooDeep_RestError => kernel_rfl)
    (case i_TooDeep_TooDeep => kernel_rfl)
    (case i_TooDeep_TooGreat => kernel_rfl)
    (case i_TooDeep_ValueError => kernel_rfl)