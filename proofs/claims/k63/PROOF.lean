import PyProof.Rows.All
import Wide.All
import OpenK.AllK
import Wide.FinOn
import Lean
import PyProof.EqAt
import PyProof.EqKinds
import PyProof.TupleCall
import PySem.Challenge.RW_deeprests_k63_whole_border_of_a_product
set_option Elab.async false
set_option linter.all false
set_option maxRecDepth 100000
namespace L2
open PySem PySem.Spec PyProof.Rows
abbrev Key := Sum Int Str
def keyIs : Key → Value → Bool
  | .inl k, v => Value.isInt k v
  | .inr x, v => Value.isStrOf x v
def keyH (w : World) : Key → Int
  | .inl k => hashInt k
  | .inr x => hashStr w x
theorem keyIs_shape : ∀ {k : Key} {v : Value}, keyIs k v = true → (∃ i t, k = Sum.inl i ∧ v = Value.int i t) ∨ (∃ x t, k = Sum.inr x ∧ v = Value.str x t)
  | .inl i, v, h => by
    obtain ⟨t, e⟩ := Value.isInt_shape (k := i) (v := v) h
    exact .inl ⟨i, t, rfl, e⟩
  | .inr x, v, h => by
    obtain ⟨t, e⟩ := Value.isStrOf_shape (x := x) (v := v) h
    exact .inr ⟨x, t, rfl, e⟩
theorem key_ll (a b : Int) : decide ((Sum.inl a : Key) = Sum.inl b) = (a == b) := by
  by_cases e : a = b
  · subst e; simp
  · have h : ¬ (Sum.inl a : Key) = Sum.inl b := fun q => e (Sum.inl.inj q)
    rw [decide_eq_false h]
    exact (beq_eq_false_iff_ne.mpr e).symm
theorem key_rr (a b : Str) : decide ((Sum.inr a : Key) = Sum.inr b) = decide (a = b) := by
  by_cases e : a = b
  · subst e; simp
  · have h : ¬ (Sum.inr a : Key) = Sum.inr b := fun q => e (Sum.inr.inj q)
    rw [decide_eq_false h, decide_eq_false e]
theorem key_lr (a : Int) (b : Str) : decide ((Sum.inl a : Key) = Sum.inr b) = false := decide_eq_false (fun q => nomatch q)
theorem key_rl (a : Str) (b : Int) : decide ((Sum.inr a : Key) = Sum.inl b) = false := decide_eq_false (fun q => nomatch q)
def mixKind (prog : Program) (w : World) : PySem.KeyKind prog w Key where
  is := keyIs
  hash := keyH w
  inj := fun v a b ha hb => by
    rcases keyIs_shape ha with ⟨i, t, rfl, rfl⟩ | ⟨x, t, rfl, rfl⟩
    · rcases keyIs_shape hb with ⟨j, u, rfl, e⟩ | ⟨y, u, rfl, e⟩
      · injection e with e1 _; rw [e1]
      · exact nomatch e
    · rcases keyIs_shape hb with ⟨j, u, rfl, e⟩ | ⟨y, u, rfl, e⟩
      · exact nomatch e
      · injection e with e1 _; rw [e1]
  byValue := fun k v h => by
    rcases keyIs_shape h with ⟨i, t, rfl, rfl⟩ | ⟨x, t, rfl, rfl⟩ <;> rfl
  pyHash := fun hv h => by
    rcases keyIs_shape hv with ⟨i, t, rfl, rfl⟩ | ⟨x, t, rfl, rfl⟩
    · exact wpAny_pyHash_int h
    · exact wpAny_pyHash_str h
  eqBool := fun hu hv h => by
    rcases keyIs_shape hu with ⟨i, t, rfl, rfl⟩ | ⟨x, t, rfl, rfl⟩
    · rcases keyIs_shape hv with ⟨j, u, rfl, rfl⟩ | ⟨y, u, rfl, rfl⟩
      · rw [key_ll] at h; exact wpAny_eqBool_int h
      · rw [key_lr] at h; exact SeqAt.EqAt.int_str i t y u _ _ _ _ h
    · rcases keyIs_shape hv with ⟨j, u, rfl, rfl⟩ | ⟨y, u, rfl, rfl⟩
      · rw [key_rl] at h; exact SeqAt.EqAt.str_int x t j u _ _ _ _ h
      · rw [key_rr] at h; exact wpAny_eqBool_str h
  «strs» := fun k x t v h => by
    rcases keyIs_shape h with ⟨i, u, rfl, e⟩ | ⟨y, u, rfl, e⟩
    · exact nomatch e
    · injection e with e1 _
      subst e1
      cases v <;> rfl
end L2
namespace L2
open PySem PySem.Spec PyProof.Rows
inductive V where
  | non | bl (b : Bool) | int (i : Int) | str (x : Str) | byt (b : Array UInt8) | flt (b : UInt64) | ref (a : Addr) | ty (n : String)
  deriving DecidableEq
def RelV : V → Value → Prop
  | .non, u => u = Value.none
  | .bl b, u => u = Value.bool b
  | .int i, u => ∃ t, u = Value.int i t
  | .str x, u => ∃ t, u = Value.str x t
  | .byt b, u => ∃ t, u = Value.bytes b t
  | .flt b, u => ∃ t, u = Value.float b t
  | .ref a, u => u = Value.ref a
  | .ty n, u => u = Value.type n
abbrev Vals : List V → List Value → Prop := Paired RelV
theorem Vals.length {xs : List V} {us : List Value} (r : Vals xs us) : xs.length = us.length := Paired.length r
theorem Vals.get : ∀ {xs : List V} {us : List Value} {i : Nat} {x : V}, Vals xs us → xs[i]? = some x → ∃ u, us[i]? = some u ∧ RelV x u
  | _, _, _, _, .nil, e => by simp at e
  | _, _, 0, _, .cons r _, e => by simp at e; subst e; exact ⟨_, rfl, r⟩
  | _, _, i + 1, x, .cons _ t, e => by
    obtain ⟨u, h1, h2⟩ := Vals.get (i := i) (x := x) t (by simpa using e)
    exact ⟨u, by simpa using h1, h2⟩
theorem Vals.set {x : V} {u : Value} (r : RelV x u) : ∀ {xs : List V} {us : List Value} (i : Nat), Vals xs us → Vals (xs.set i x) (us.set i u)
  | _, _, _, .nil => .nil
  | _, _, 0, .cons _ t => .cons r t
  | _, _, i + 1, .cons q t => .cons q (Vals.set r i t)
theorem Vals.append : ∀ {xs ys : List V} {us ws : List Value}, Vals xs us → Vals ys ws → Vals (xs ++ ys) (us ++ ws)
  | _, _, _, _, .nil, s => s
  | _, _, _, _, .cons r t, s => .cons r (Vals.append t s)
theorem Vals.take : ∀ {xs : List V} {us : List Value} (n : Nat), Vals xs us → Vals (xs.take n) (us.take n)
  | _, _, 0, _ => .nil
  | _, _, _ + 1, .nil => .nil
  | _, _, n + 1, .cons r t => .cons r (Vals.take n t)
theorem Vals.drop : ∀ {xs : List V} {us : List Value} (n : Nat), Vals xs us → Vals (xs.drop n) (us.drop n)
  | _, _, 0, r => r
  | _, _, _ + 1, .nil => .nil
  | _, _, n + 1, .cons _ t => Vals.drop n t
def RelO : Option V → Option Value → Prop
  | some v, some u => RelV v u
  | none, none => True
  | _, _ => False
def KV {κ : Type} : List (κ × V) → List (κ × Value) → Prop := Paired fun (p : κ × V) (q : κ × Value) => p.1 = q.1 ∧ RelV p.2 q.2
def kV : Key → V
  | .inl i => .int i
  | .inr x => .str x
inductive HO where
  | lst (xs : List V)
  | tup (xs : List V)
  | dK (kvs : List (Key × V)) | dT (kvs : List (List Key × V))
  | set (S : Int → Bool) (n : Nat)
  | ins (C dx : Addr) (fs : List (Str × V))
  | own (x : Addr)
  | xd (fs : List (Str × V))
  | met (f x : Addr)
  | rng (lo hi : Int)
  | frz (o : Obj) (u : HO)
  | tbl (ps : Array Value)
  | ext (φ : Heap → Prop)
abbrev Hp := Addr → Option HO
def upd (H : Hp) (a : Addr) (o : HO) : Hp := fun b => if b = a then some o else H b
theorem upd_same {H : Hp} {a : Addr} {o : HO} : upd H a o a = some o := by unfold upd; rw [if_pos rfl]
theorem upd_ne {H : Hp} {a b : Addr} {o : HO} (h : b ≠ a) : upd H a o b = H b := by unfold upd; rw [if_neg h]
theorem ne_of_none {H : Hp} {a b : Addr} {o : HO} (h : H a = some o) (h' : H b = none) : a ≠ b := by
  intro e; subst e; rw [h] at h'; cases h'
section
variable (P : Program) (w : World)
def ObjOk (H : Hp) (h : Heap) (a : Addr) : HO → Prop
  | .lst xs => xs.length ≤ sizeLine ∧ ∃ (its : List Value) (n : Nat), Vals xs its ∧ h.get? a = some { cls := .type "list", data := .seq its.toArray n }
  | .tup xs => xs.length ≤ sizeLine ∧ ∃ its : List Value, Vals xs its ∧ IsTup h a its.toArray
  | .dK kvs => kvs.length ≤ sizeLine ∧ (a == sysModules) = false ∧ ∃ vs, KV kvs vs ∧ h.DictOf (mixKind P w) a vs
  | .dT kvs => kvs.length ≤ sizeLine ∧ (a == sysModules) = false ∧ ∃ xs : List (List Key × Addr × Value),
      Paired (fun (p : List Key × V) (q : List Key × Addr × Value) => p.1 = q.1 ∧ H q.2.1 = some (.tup (p.1.map kV)) ∧ RelV p.2 q.2.2) kvs xs ∧
      ∃ o es ep, h.get? a = some o ∧ o.ExactDict ∧ o.data = .dict es ep ∧ es.toList = xs.map (entryOfKey (tupleKind (mixKind P w))) ∧ (xs.map (·.1)).Nodup
  | .set S n => h.SetOf (intKind P w) a S n
  | .ins C dx fs => H dx = some (.own a) ∧ fs.length ≤ 1000 ∧ dx ≠ a ∧ h.get? a = some (PySem.W.instObj C dx) ∧
      ∃ mA, h.Ns1 dx mA ∧ (∀ f, RelO (fs.lookup f) (mA f)) ∧ PySem.Within mA (fs.map (·.1))
  | .own _ => ∃ o, h.get? a = some o
  | .xd fs => ∃ mA, h.Ns1 a mA ∧ ∀ f, RelO (fs.lookup f) (mA f)
  | .rng lo hi => ∃ t u v, h.get? a = some { cls := .type "range", data := .fields #[.int lo t, .int hi u, .int 1 v] }
  | .frz o u => h.get? a = some o ∧ ObjOk H h a u
  | .tbl ps => h.get? a = some { cls := .none, data := .fields ps }
  | .met f x => h.get? a = some (PySem.W.methodObj (.ref f) (.ref x))
  | .ext φ => φ h ∧ (∃ o, h.get? a = some o) ∧ ∀ h1 h2 : Heap, φ h1 → (∀ o, h1.get? a = some o → h2.get? a = some o) → φ h2
def HOk (H : Hp) (h : Heap) : Prop := ∀ a o, H a = some o → ObjOk P w H h a o
end
section
variable {P : Program} {w : World} {H H' : Hp} {h h' : Heap} {a : Addr} {o : HO}
theorem ObjOk.lt (x : ObjOk P w H h a o) : a < h.objs.size := by
  cases o with
  | lst xs => obtain ⟨_, _, _, _, e⟩ := x; exact Heap.lt_size e
  | tup xs => obtain ⟨_, _, _, p⟩ := x; exact p.lt
  | dK kvs => obtain ⟨_, _, _, _, o, _, _, e, _⟩ := x; exact Heap.lt_size e
  | dT kvs => obtain ⟨_, _, _, _, o, _, _, e, _⟩ := x; exact Heap.lt_size e
  | set S n => obtain ⟨o, _, _, _, e, _⟩ := x; exact Heap.lt_size e
  | ins C dx fs => obtain ⟨_, _, _, e, _⟩ := x; exact Heap.lt_size e
  | own y => obtain ⟨_, e⟩ := x; exact Heap.lt_size e
  | xd fs => obtain ⟨_, ⟨_, _, _, e, _⟩, _⟩ := x; exact Heap.lt_size e
  | rng lo hi => obtain ⟨_, _, _, e⟩ := x; exact Heap.lt_size e
  | frz ob u => obtain ⟨e, _⟩ := x; exact Heap.lt_size e
  | tbl ps => exact Heap.lt_size (show h.get? a = some _ from x)
  | met f y => exact Heap.lt_size (show h.get? a = some _ from x)
  | ext φ => obtain ⟨_, ⟨_, e⟩, _⟩ := x; exact Heap.lt_size e
theorem Paired.mapP {α β : Type} {F G : α → β → Prop} : ∀ {l₁ : List α} {l₂ : List β}, Paired F l₁ l₂ → (∀ a b, F a b → G a b) → Paired G l₁ l₂
  | _, _, .nil, _ => .nil
  | _, _, .cons r t, f => .cons (f _ _ r) (Paired.mapP t f)
theorem ObjOk.stay (x : ObjOk P w H h a o) (k : ∀ b u, (b = a ∨ H b = some (.own a)) → h.get? b = some u → h'.get? b = some u)
    (ho : ∀ b, H b = some (.own a) → H' b = some (.own a)) (ht : ∀ b xs, H b = some (.tup xs) → H' b = some (.tup xs)) : ObjOk P w H' h' a o := by
  induction o with
  | lst xs => obtain ⟨z, its, n, r, e⟩ := x; exact ⟨z, its, n, r, k _ _ (.inl rfl) e⟩
  | tup xs => obtain ⟨z, its, r, ob, e, c⟩ := x; exact ⟨z, its, r, ob, k _ _ (.inl rfl) e, c⟩
  | dK kvs => obtain ⟨z, y, vs, r, ob, es, ep, e, c⟩ := x; exact ⟨z, y, vs, r, ob, es, ep, k _ _ (.inl rfl) e, c⟩
  | dT kvs =>
    obtain ⟨z, y, xs, r, ob, es, ep, e, c⟩ := x
    exact ⟨z, y, xs, Paired.mapP r fun p q z => ⟨z.1, ht _ _ z.2.1, z.2.2⟩, ob, es, ep, k _ _ (.inl rfl) e, c⟩
  | set S n => obtain ⟨ob, es, ep, t, e, c⟩ := x; exact ⟨ob, es, ep, t, k _ _ (.inl rfl) e, c⟩
  | ins C dx fs =>
    obtain ⟨d, z, ne, e, mA, ⟨od, es, ep, e2, c⟩, r⟩ := x
    exact ⟨ho _ d, z, ne, k _ _ (.inl rfl) e, mA, ⟨od, es, ep, k _ _ (.inr d) e2, c⟩, r⟩
  | own y => obtain ⟨ob, e⟩ := x; exact ⟨ob, k _ _ (.inl rfl) e⟩
  | xd fs => obtain ⟨mA, ⟨od, es, ep, e, c⟩, r⟩ := x; exact ⟨mA, ⟨od, es, ep, k _ _ (.inl rfl) e, c⟩, r⟩
  | rng lo hi => obtain ⟨t, u, v, e⟩ := x; exact ⟨t, u, v, k _ _ (.inl rfl) e⟩
  | frz ob u ih => obtain ⟨e, q⟩ := x; exact ⟨k _ _ (.inl rfl) e, ih q⟩
  | tbl ps =>
    have e : h.get? a = some { cls := .none, data := .fields ps } := x
    show h'.get? a = some { cls := .none, data := .fields ps }
    exact k a _ (.inl rfl) e
  | met f y =>
    have e : h.get? a = some (PySem.W.methodObj (.ref f) (.ref y)) := x
    show h'.get? a = some (PySem.W.methodObj (.ref f) (.ref y))
    exact k a _ (.inl rfl) e
  | ext φ => obtain ⟨p, ⟨o, e⟩, st⟩ := x; exact ⟨st _ _ p fun o q => k _ _ (.inl rfl) q, ⟨o, k _ _ (.inl rfl) e⟩, st⟩
theorem HOk.lt (x : HOk P w H h) (e : H a = some o) : a < h.objs.size := (x a o e).lt
theorem HOk.fresh (x : HOk P w H h) (e : h.objs.size ≤ a) : H a = none := by
  cases q : H a with
  | none => rfl
  | some u => exact absurd (Nat.lt_of_lt_of_le (x.lt q) e) (Nat.lt_irrefl _)
theorem HOk.kept (x : HOk P w H h) (k : ∀ b u, h.get? b = some u → h'.get? b = some u) : HOk P w H h' := fun a o e =>
  (x a o e).stay (fun b u _ q => k b u q) (fun _ q => q) fun _ _ q => q
theorem HOk.laid (x : HOk P w H h) (k : ∀ b u, h.get? b = some u → h'.get? b = some u) (hp : h.objs.size ≤ a) (new : ObjOk P w (upd H a o) h' a o) : HOk P w (upd H a o) h' := fun b u e => by
  have hn := x.fresh hp
  by_cases hb : b = a
  · subst hb; rw [upd_same] at e; cases e; exact new
  · rw [upd_ne hb] at e
    exact (x b u e).stay (fun c v _ q => k c v q) (fun c q => by rw [upd_ne (ne_of_none q hn)]; exact q) fun c xs q => by rw [upd_ne (ne_of_none q hn)]; exact q
end
def Rd (H : Hp) (a : Addr) (u : HO) : Prop := H a = some u ∨ ∃ o, H a = some (.frz o u)
theorem Rd.ok {P : Program} {w : World} {H : Hp} {h : Heap} {a : Addr} {u : HO} (r : Rd H a u) (x : HOk P w H h) : ObjOk P w H h a u := by
  rcases r with r | ⟨o, r⟩
  · exact x a u r
  · obtain ⟨_, q⟩ := x a _ r
    exact q
def Mut : Option HO → Prop
  | some (.lst _) => True
  | some (.dK _) => True
  | some (.dT _) => True
  | some (.set _ _) => True
  | some (.ins _ _ _) => True
  | some (.ext _) => True
  | _ => False
section
variable {P : Program} {w : World} {H : Hp} {h h' : Heap} {x e : Addr} {o' : HO}
theorem HOk.write (ok : HOk P w H h) (mu : Mut (H x)) (he : e = x ∨ H e = some (.own x)) (k : ∀ b u, b ≠ e → h.get? b = some u → h'.get? b = some u) (heo : ∃ u, h'.get? e = some u)
    (new : ObjOk P w (upd H x o') h' x o') : HOk P w (upd H x o') h' := fun b u q => by
  have nown : ∀ c y, H c = some (.own y) → c ≠ x := fun c y r z => by subst z; rw [r] at mu; exact mu
  have ntup : ∀ c xs, H c = some (.tup xs) → c ≠ x := fun c xs r z => by subst z; rw [r] at mu; exact mu
  by_cases hb : b = x
  · subst hb; rw [upd_same] at q; cases q; exact new
  · rw [upd_ne hb] at q
    by_cases hbe : b = e
    · have q' : H b = some (.own x) := by
        rcases he with z | z
        · exact absurd (hbe.trans z) hb
        · rw [hbe]; exact z
      rw [q] at q'; cases q'
      obtain ⟨v, hv⟩ := heo
      exact ⟨v, by rw [hbe]; exact hv⟩
    · refine (ok b u q).stay (fun c v hc r => k c v ?_ r) (fun c r => by rw [upd_ne (nown c b r)]; exact r) fun c xs r => by rw [upd_ne (ntup c xs r)]; exact r
      rcases hc with rfl | hc
      · exact hbe
      · rintro rfl
        rcases he with z | z
        · exact nown c b hc z
        · rw [hc] at z; cases z; exact hb rfl
end
structure Un (fs ex : List Addr) (H H' : Hp) (h h' : Heap) : Prop where
  keep : ∀ b o, h.get? b = some o → H b = none → b ∉ fs → b ∉ ex → h'.get? b = some o
  slot : ∀ b o, h.get? b = some o → H b = none → b ∈ fs → b ∉ ex → ∃ sl, h'.get? b = some { o with slots := sl }
  free : ∀ b o, h.get? b = some o → H b = none → b ∉ ex → H' b = none
  there : ∀ b o, h.get? b = some o → b ∉ ex → ∃ o', h'.get? b = some o'
  tups : ∀ b xs, H b = some (.tup xs) → H' b = some (.tup xs)
  frzs : ∀ b o u, H b = some (.frz o u) → H' b = some (.frz o u)
  tbls : ∀ b ps, H b = some (.tbl ps) → ∃ more, H' b = some (.tbl (ps ++ more))
section
variable {fs fs' ex ex' : List Addr} {H H1 H2 : Hp} {h h1 h2 h' : Heap} {a x e : Addr} {o : HO}
theorem Un.any (u : Un fs ex H H1 h h1) {b : Addr} {ob : Obj} (q : h.get? b = some ob) (n : H b = none) (hx : b ∉ ex) : ∃ sl, h1.get? b = some { ob with slots := sl } := by
  by_cases hb : b ∈ fs
  · exact u.slot b ob q n hb hx
  · exact ⟨ob.slots, u.keep b ob q n hb hx⟩
theorem Un.kept (k : ∀ b u, h.get? b = some u → h'.get? b = some u) : Un fs ex H H h h' :=
  ⟨fun b ob q _ _ _ => k b ob q, fun b ob q _ _ _ => ⟨ob.slots, k b ob q⟩, fun _ _ _ n _ => n, fun b ob q _ => ⟨ob, k b ob q⟩, fun _ _ q => q, fun _ _ _ q => q, fun _ ps q => ⟨#[], by rw [q]; simp⟩⟩
theorem Un.refl : Un fs ex H H h h := Un.kept fun _ _ q => q
theorem Un.laid (k : ∀ b u, h.get? b = some u → h'.get? b = some u) (hp : h.objs.size ≤ a) (hn : H a = none) : Un fs ex H (upd H a o) h h' where
  keep := fun b u q _ _ _ => k b u q
  slot := fun b u q _ _ _ => ⟨u.slots, k b u q⟩
  free := fun b u q n _ => by rw [upd_ne (Nat.ne_of_lt (Nat.lt_of_lt_of_le (Heap.lt_size q) hp))]; exact n
  there := fun b u q _ => ⟨u, k b u q⟩
  tups := fun b xs q => by rw [upd_ne (ne_of_none q hn)]; exact q
  frzs := fun b u xs q => by rw [upd_ne (ne_of_none q hn)]; exact q
  tbls := fun b ps q => ⟨#[], by rw [upd_ne (ne_of_none q hn), q]; simp⟩
theorem Un.write (mu : Mut (H x)) (he : e = x ∨ H e = some (.own x)) (k : ∀ b u, b ≠ e → h.get? b = some u → h'.get? b = some u) (heo : ∃ u, h'.get? e = some u) : Un fs ex H (upd H x o) h h' := by
  have hx : ∀ b, H b = none → b ≠ x := fun b n z => by subst z; rw [n] at mu; exact mu
  have hb : ∀ b, H b = none → b ≠ e := fun b n z => by
    subst z
    rcases he with r | r
    · exact hx b n r
    · rw [n] at r; cases r
  have hm : ∀ b u, H b = some u → ¬ Mut (some u) → b ≠ x := fun b u q nm z => by subst z; rw [q] at mu; exact nm mu
  refine ⟨fun b u q n _ _ => k b u (hb b n) q, fun b u q n _ _ => ⟨u.slots, k b u (hb b n) q⟩, fun b u q n _ => by rw [upd_ne (hx b n)]; exact n, fun b u q _ => ?_,
    fun b xs q => by rw [upd_ne (hm b _ q fun z => z)]; exact q, fun b u xs q => by rw [upd_ne (hm b _ q fun z => z)]; exact q, fun b ps q => ⟨#[], by rw [upd_ne (hm b _ q fun z => z), q]; simp⟩⟩
  by_cases hbe : b = e
  · subst hbe; exact heo
  · exact ⟨u, k b u hbe q⟩
end
def trk (h : Heap) (H : Hp) : List Addr := (List.range h.objs.size).filter fun a => (H a).isSome
def hidT (h : Heap) (H : Hp) : Heap := PySem.W.hideAll h (trk h H)
theorem hidT_size (h : Heap) (H : Hp) : (hidT h H).objs.size = h.objs.size := PySem.W.hideAll_size _ _
theorem hidT_get {h : Heap} {H : Hp} {b : Addr} {o : Obj} (e : h.get? b = some o) (n : H b = none) : (hidT h H).get? b = some o :=
  PySem.W.hideAll_get _ e fun hm => by
    have q : (H b).isSome = true := (List.mem_filter.mp hm).2
    rw [n] at q; simp at q
theorem of_hidT {h : Heap} {H : Hp} {b : Addr} {o : Obj} (e : (hidT h H).get? b = some o) : h.get? b = some o ∧ H b = none := by
  have e' : h.get? b = some o := PySem.W.of_hideAll (trk h H) e
  refine ⟨e', ?_⟩
  cases q : H b with
  | none => rfl
  | some x =>
    have hm : b ∈ trk h H := List.mem_filter.mpr ⟨List.mem_range.mpr (Heap.lt_size e'), by simp [q]⟩
    have z : (hidT h H).get? b = none := PySem.W.hideAll_none (trk h H) hm
    rw [z] at e; cases e
def allNews (g h : Heap) (L : Addr) : List (Addr × Obj) := (List.range h.objs.size).filterMap fun a => if a = L ∨ (g.get? a).isSome = true then none else (h.get? a).map fun o => (a, o)
def rest (g h : Heap) (L d : Addr) : List (Addr × Obj) := (allNews g h L).filter fun p => decide (p.1 ≠ d)
end L2
namespace L2
open PySem PySem.Spec PyProof.Rows
structure Mod (K : PySem.W.Frag) (mg : Str → Option Value) (base : Heap) : Prop where
  kin : K.In base
  glob : base.Ns mainGlobals mg
  blt : ∃ mb, base.Ns builtinsNs mb ∧ ∀ x : Str, x ≠ "__name__" → mb x = bootBuiltins x
  nolimit : base.NoLimit
/-- the context: a def's body (or a comprehension's block) running. base: fixed through the whole law; s₀, H₀: the entry; outer: the frames whose slots others may change (a def's callers); stack: all frames that run;
   ex: iterators that were made ahead of the entry and are walked here (a comprehension's); fn: the names whose cells were made at the entry (a def: all; a comprehension's block: its own); calm: not within an except suite; pn: pins that every state bears; xe: what is wanted of an exception that leaves the code -/
structure Cx where
  prog : Program
  w : World
  K : PySem.W.Frag
  mg : Str → Option Value
  base : Heap
  A : Around
  N : List Str
  s₀ : Shared
  H₀ : Hp
  env : Env
  outer : List Env
  stack : List Env
  ex : List Addr
  fn : Str → Bool
  calm : Bool
  pn : List (Addr × Obj)
  xe : Value → Shared → Prop
def frs (l : List Env) : List Addr := l.filterMap (·.frame)
abbrev Cx.fs (X : Cx) : List Addr := frs X.outer
def Vis (sc : Scope) (x : Str) : Prop := sc.names.lookup x = some .local ∨ sc.names.lookup x = some .cell ∨ sc.names.lookup x = some .free
def Loc (sc : Scope) (x : Str) : Prop := sc.names.lookup x = some .local ∨ sc.names.lookup x = some .cell
def Look (env : Env) (h : Heap) (m : Str → Option Value) (x : Str) (u : Value) : Prop :=
  (env.kindOf x = some .local ∧ m x = some u) ∨ ((env.kindOf x = some .cell ∨ env.kindOf x = some .free) ∧ ∃ c, env.cells.lookup x = some c ∧ h.IsCell c (some u))
structure Cx.Ok (X : Cx) : Prop where
  mod : Mod X.K X.mg X.base
  kind : X.env.scope.kind = .function
  glob : X.env.globals = mainGlobals
  blt : X.env.builtins = builtinsNs
  above : X.s₀.heap.objs.size ≤ X.env.locals
  inj : ∀ x y c, X.env.cells.lookup x = some c → X.env.cells.lookup y = some c → x = y
  has : ∀ x, (X.env.kindOf x = some .cell ∨ X.env.kindOf x = some .free) → ∃ c, X.env.cells.lookup x = some c
  cab : ∀ x c, X.fn x = true → X.env.cells.lookup x = some c → X.s₀.heap.objs.size ≤ c
  hd : X.calm = true → X.A.handled = none
  frames : X.A.frames = some X.stack
  stk : X.stack = X.outer ∨ (X.stack = X.env :: X.outer ∧ X.env.frame = some X.env.locals)
  exf : ∀ b ∈ X.ex, b ≠ X.env.locals ∧ ∀ x c, X.env.cells.lookup x = some c → c ≠ b
  bs : ∀ b o, X.base.get? b = some o → X.s₀.heap.get? b = some o ∧ X.H₀ b = none
  bsz : X.base.objs.size ≤ X.s₀.heap.objs.size
  noex : ∀ b o, X.base.get? b = some o → b ∉ X.ex
  exfs : ∀ b ∈ X.ex, b ∉ X.fs
  funs : X.s₀.heap.FunFrames X.base X.outer
  frf : ∀ b ∈ X.fs, X.H₀ b = none
structure Inv (X : Cx) (pins : List (Addr × Obj)) (σ : List (Option V)) (H : Hp) (s : Shared) : Prop where
  ok : X.Ok
  os : s.os = X.s₀.os
  bare : AllBare s.gens
  base : Un X.fs X.ex X.H₀ H X.s₀.heap s.heap
  loc : ∃ m, s.heap.Ns X.env.locals m ∧ ∀ (i : Nat) (x : Str) (v : V), X.N[i]? = some x → σ[i]? = some (some v) → Vis X.env.scope x → ∃ u, RelV v u ∧ Look X.env s.heap m x u
  cell : ∀ x c, X.env.cells.lookup x = some c → ∃ v, s.heap.IsCell c v
  free : H X.env.locals = none
  freeC : ∀ x c, X.env.cells.lookup x = some c → H c = none
  pin : ∀ p ∈ X.pn ++ pins, s.heap.get? p.1 = some p.2 ∧ H p.1 = none ∧ p.1 ≠ X.env.locals ∧ p.1 ∉ X.fs ∧ ∀ v, p.2.data ≠ .cell v
  hok : HOk X.prog X.w H s.heap
  len : σ.length = X.N.length
section
variable {X : Cx} {pins : List (Addr × Obj)} {σ : List (Option V)} {H H' : Hp} {s : Shared} {h' : Heap}
theorem Cx.Ok.nofr (ok : X.Ok) {b : Addr} {o : Obj} (e : X.base.get? b = some o) : b ∉ X.fs := fun hb => by
  have := (ok.funs.mem hb).1
  rw [e] at this; cases this
theorem Inv.bs (I : Inv X pins σ H s) : ∀ b o, X.base.get? b = some o → s.heap.get? b = some o ∧ H b = none := fun b o e =>
  ⟨I.base.keep b o (I.ok.bs b o e).1 (I.ok.bs b o e).2 (I.ok.nofr e) (I.ok.noex b o e), I.base.free b o (I.ok.bs b o e).1 (I.ok.bs b o e).2 (I.ok.noex b o e)⟩
theorem Inv.bk (I : Inv X pins σ H s) : ∀ b o, X.base.get? b = some o → s.heap.get? b = some o := fun b o e => (I.bs b o e).1
theorem Inv.mod (I : Inv X pins σ H s) : Mod X.K X.mg X.base := I.ok.mod
theorem Inv.kIn (I : Inv X pins σ H s) : X.K.In s.heap := I.ok.mod.kin.keeps I.bk
theorem Inv.lt (I : Inv X pins σ H s) : X.env.locals < s.heap.objs.size := let ⟨_, hn, _⟩ := I.loc; hn.lt
theorem Inv.sz (I : Inv X pins σ H s) : X.s₀.heap.objs.size ≤ s.heap.objs.size := Nat.le_trans I.ok.above (Nat.le_of_lt I.lt)
theorem Inv.nofs (I : Inv X pins σ H s) {a : Addr} (h : s.heap.objs.size ≤ a) : a ∉ X.fs := fun hb => by
  obtain ⟨_, o, ho, _⟩ := I.ok.funs.mem hb
  exact absurd (Nat.lt_of_lt_of_le (Heap.lt_size ho) (Nat.le_trans I.sz h)) (Nat.lt_irrefl _)
theorem Inv.cne (I : Inv X pins σ H s) : ∀ x c, X.env.cells.lookup x = some c → c ≠ X.env.locals := fun x c e z => by
  obtain ⟨v, o, ho, hd⟩ := I.cell x c e
  obtain ⟨m, ⟨o', es, ep, ho', hd', _⟩, _⟩ := I.loc
  rw [z, ho'] at ho; cases ho; rw [hd'] at hd; cases hd
theorem Inv.funs (I : Inv X pins σ H s) : s.heap.FunFrames X.base X.outer := by
  have all : ∀ (l : List Env), (∀ b ∈ frs l, b ∈ X.fs) → X.s₀.heap.FunFrames X.base l → s.heap.FunFrames X.base l := by
    intro l
    induction l with
    | nil => intro _ _; trivial
    | cons env r ih =>
      intro hs hl
      obtain ⟨hk, ⟨L, o, hf, hn, ho, hd⟩, hr⟩ := hl
      have hL : L ∈ X.fs := hs L (by unfold frs; rw [List.filterMap_cons, hf]; exact List.mem_cons_self)
      obtain ⟨sl, e⟩ := I.base.slot L o ho (I.ok.frf L hL) hL fun z => I.ok.exfs L z hL
      exact ⟨hk, ⟨L, _, hf, hn, e, hd⟩, ih (fun b hb => hs b (by unfold frs; rw [List.filterMap_cons, hf]; exact List.mem_cons_of_mem _ hb)) hr⟩
  exact all X.outer (fun _ hb => hb) I.ok.funs
theorem Inv.stack (I : Inv X pins σ H s) : s.heap.FunFrames X.base X.stack := by
  rcases I.ok.stk with e | ⟨e, hf⟩
  · rw [e]; exact I.funs
  · rw [e]
    obtain ⟨m, hn, _⟩ := I.loc
    refine .cons (by rw [I.ok.kind]; decide) hf hn ?_ I.funs
    exact Heap.get?_none_of_le (Nat.le_trans I.ok.bsz I.ok.above)
theorem Inv.stkSub (I : Inv X pins σ H s) : ∀ b ∈ frs X.stack, b ∈ X.env.locals :: X.fs := fun b hb => by
  rcases I.ok.stk with e | ⟨e, hf⟩
  · rw [e] at hb; exact List.mem_cons_of_mem _ hb
  · rw [e] at hb
    unfold frs at hb
    rw [List.filterMap_cons, hf] at hb
    exact hb
theorem Inv.stkFree (I : Inv X pins σ H s) : ∀ b ∈ frs X.stack, H b = none := fun b hb => by
  rcases List.mem_cons.mp (I.stkSub b hb) with e | hb
  · rw [e]; exact I.free
  · obtain ⟨_, o, ho, _⟩ := I.ok.funs.mem hb
    exact I.base.free b o ho (I.ok.frf b hb) fun z => I.ok.exfs b z hb
theorem Inv.step {g' : Array GenState} {t' : Nat} {d' : Drawn} {ch : List Addr} (I : Inv X pins σ H s)
    (hch : ∀ b ∈ ch, (b ∈ X.ex ∨ X.s₀.heap.objs.size ≤ b) ∧ b ≠ X.env.locals ∧ (∀ x c, X.env.cells.lookup x = some c → c ≠ b) ∧ ∀ p ∈ X.pn ++ pins, p.1 ≠ b)
    (keep : ∀ b o, b ≠ X.env.locals → b ∉ X.fs → b ∉ ch → s.heap.get? b = some o → H b = none → h'.get? b = some o)
    (slot : ∀ b o, b ≠ X.env.locals → b ∈ X.fs → b ∉ ch → s.heap.get? b = some o → H b = none → ∃ sl, h'.get? b = some { o with slots := sl }) (free : ∀ b o, b ∉ ch → s.heap.get? b = some o → H b = none → H' b = none)
    (there : ∀ b o, b ∉ ch → s.heap.get? b = some o → ∃ o', h'.get? b = some o')
    (tups : ∀ b xs, H b = some (.tup xs) → H' b = some (.tup xs)) (frzs : ∀ b o u, H b = some (.frz o u) → H' b = some (.frz o u)) (tbls : ∀ b ps, H b = some (.tbl ps) → ∃ more, H' b = some (.tbl (ps ++ more)))
    (ns : ∀ m, s.heap.Ns X.env.locals m → h'.Ns X.env.locals m) (hok : HOk X.prog X.w H' h') (hg : AllBare g') :
    Inv X pins σ H' { s with heap := h', gens := g', drawn := d', toks := t' } := by
  have neL : ∀ b o, X.s₀.heap.get? b = some o → b ≠ X.env.locals := fun b o e => Nat.ne_of_lt (Nat.lt_of_lt_of_le (Heap.lt_size e) I.ok.above)
  have neC : ∀ b o, X.s₀.heap.get? b = some o → b ∉ X.ex → b ∉ ch := fun b o e hx hb => by
    rcases (hch b hb).1 with z | z
    · exact hx z
    · exact absurd (Nat.lt_of_lt_of_le (Heap.lt_size e) z) (Nat.lt_irrefl _)
  have cellK : ∀ x c, X.env.cells.lookup x = some c → ∀ v, s.heap.IsCell c v → h'.IsCell c v := fun x c e v ⟨o, ho, hd⟩ => by
    have nch : c ∉ ch := fun z => (hch c z).2.2.1 x c e rfl
    by_cases hc : c ∈ X.fs
    · obtain ⟨sl, q⟩ := slot c o (I.cne x c e) hc nch ho (I.freeC x c e)
      exact ⟨_, q, hd⟩
    · exact ⟨o, keep c o (I.cne x c e) hc nch ho (I.freeC x c e), hd⟩
  refine ⟨I.ok, I.os, hg, ⟨fun b o e n hb hx => ?_, fun b o e n hb hx => ?_, fun b o e n hx => ?_, fun b o e hx => ?_, fun b xs e => tups b xs (I.base.tups b xs e), fun b o xs e => frzs b o xs (I.base.frzs b o xs e), fun b ps e => ?_⟩, ?_, fun x c e => ?_, ?_, fun x c e => ?_, fun p hp => ?_, hok, I.len⟩
  · exact keep b o (neL b o e) hb (neC b o e hx) (I.base.keep b o e n hb hx) (I.base.free b o e n hx)
  · obtain ⟨sl, e1⟩ := I.base.slot b o e n hb hx
    obtain ⟨sl', e2⟩ := slot b _ (neL b o e) hb (neC b o e hx) e1 (I.base.free b o e n hx)
    exact ⟨sl', e2⟩
  · obtain ⟨o', e1⟩ := I.base.there b o e hx
    exact free b o' (neC b o e hx) e1 (I.base.free b o e n hx)
  · obtain ⟨o', e1⟩ := I.base.there b o e hx
    exact there b o' (neC b o e hx) e1
  · obtain ⟨m1, e1⟩ := I.base.tbls b ps e
    obtain ⟨m2, e2⟩ := tbls b _ e1
    exact ⟨m1 ++ m2, by rw [e2, Array.append_assoc]⟩
  · obtain ⟨m, hn, hl⟩ := I.loc
    refine ⟨m, ns m hn, fun i x v e1 e2 e3 => ?_⟩
    obtain ⟨u, r, l⟩ := hl i x v e1 e2 e3
    refine ⟨u, r, ?_⟩
    rcases l with l | ⟨k, c, e, z⟩
    · exact .inl l
    · exact .inr ⟨k, c, e, cellK x c e _ z⟩
  · obtain ⟨v, z⟩ := I.cell x c e
    exact ⟨v, cellK x c e v z⟩
  · obtain ⟨m, ⟨o, _, _, ho, _⟩, _⟩ := I.loc
    exact free _ o (fun z => (hch _ z).2.1 rfl) ho I.free
  · obtain ⟨v, o, ho, hd⟩ := I.cell x c e
    exact free c o (fun z => (hch c z).2.2.1 x c e rfl) ho (I.freeC x c e)
  · obtain ⟨e, n, ne, nf, d⟩ := I.pin p hp
    have nch : p.1 ∉ ch := fun z => (hch p.1 z).2.2.2 p hp rfl
    exact ⟨keep p.1 p.2 ne nf nch e n, free p.1 p.2 nch e n, ne, nf, d⟩
theorem Inv.un {t' : Nat} (I : Inv X pins σ H s) (u : Un X.fs [] H H' s.heap h') (hok : HOk X.prog X.w H' h') : Inv X pins σ H' { s with heap := h', toks := t' } := by
  obtain ⟨m, ⟨o, es, ep, ho, r⟩, _⟩ := id I.loc
  obtain ⟨sl, hL⟩ := u.any ho I.free (by simp)
  exact I.step (g' := s.gens) (d' := s.drawn) (ch := []) (fun _ z => nomatch z) (fun b o _ hb _ e n => u.keep b o e n hb (by simp)) (fun b o _ hb _ e n => u.slot b o e n hb (by simp)) (fun b o _ e n => u.free b o e n (by simp)) (fun b o _ e => u.there b o e (by simp)) u.tups u.frzs u.tbls (fun m' hm => by
    obtain ⟨o', es', ep', ho', r'⟩ := hm
    rw [ho] at ho'; cases ho'
    exact ⟨_, es', ep', hL, r'⟩) hok I.bare
theorem Inv.call {g' : Array GenState} {t' : Nat} {d' : Drawn} {ch : List Addr} (I : Inv X pins σ H s) (u : Un (frs X.stack) ch H H' s.heap h') (hok : HOk X.prog X.w H' h') (hg : AllBare g')
    (hch : ∀ b ∈ ch, (b ∈ X.ex ∨ X.s₀.heap.objs.size ≤ b) ∧ b ≠ X.env.locals ∧ (∀ x c, X.env.cells.lookup x = some c → c ≠ b) ∧ ∀ p ∈ X.pn ++ pins, p.1 ≠ b) :
    Inv X pins σ H' { s with heap := h', gens := g', drawn := d', toks := t' } := by
  obtain ⟨m, ⟨o, es, ep, ho, r⟩, _⟩ := id I.loc
  obtain ⟨sl, hL⟩ := u.any ho I.free fun z => (hch _ z).2.1 rfl
  exact I.step (ch := ch) hch (fun b o hL hb hc e n => u.keep b o e n (fun z => (List.mem_cons.mp (I.stkSub b z)).elim hL hb) hc) (fun b o _ _ hc e n => u.any e n hc) (fun b o hc e n => u.free b o e n hc) (fun b o hc e => u.there b o e hc) u.tups u.frzs u.tbls (fun m' hm => by
    obtain ⟨o', es', ep', ho', r'⟩ := hm
    rw [ho] at ho'; cases ho'
    exact ⟨_, es', ep', hL, r'⟩) hok hg
theorem Inv.turned {t' : Nat} {it : Addr} (I : Inv X pins σ H s) (k : ∀ b o, b ≠ it → s.heap.get? b = some o → h'.get? b = some o) (hn : H it = none) (hL : it ≠ X.env.locals)
    (h1 : it ∈ X.ex ∨ X.s₀.heap.objs.size ≤ it) (h2 : ∀ x c, X.env.cells.lookup x = some c → c ≠ it) (h3 : ∀ p ∈ X.pn ++ pins, p.1 ≠ it) : Inv X pins σ H { s with heap := h', toks := t' } := by
  have nit : ∀ b u, H b = some u → b ≠ it := fun b u e z => by rw [z, hn] at e; cases e
  refine I.step (g' := s.gens) (d' := s.drawn) (ch := [it]) (fun b hb => ?_) (fun b o _ _ hc e _ => k b o (fun z => hc (by simp [z])) e) (fun b o _ _ hc e _ => ⟨o.slots, k b o (fun z => hc (by simp [z])) e⟩) (fun _ _ _ _ n => n)
    (fun b o hc e => ⟨o, k b o (fun z => hc (by simp [z])) e⟩) (fun _ _ e => e) (fun _ _ _ e => e) (fun b ps e => ⟨#[], by rw [e]; simp⟩) (fun m hm => ?_) (fun b u e => ?_) I.bare
  · have e : b = it := by simpa using hb
    subst e
    exact ⟨h1, hL, h2, h3⟩
  · obtain ⟨o, es, ep, ho, r⟩ := hm
    exact ⟨o, es, ep, k _ o (Ne.symm hL) ho, r⟩
  · refine (I.hok b u e).stay (fun c v hc q => k c v ?_ q) (fun _ q => q) fun _ _ q => q
    rcases hc with z | z
    · rw [z]; exact nit b u e
    · exact nit c _ z
theorem Inv.tok (I : Inv X pins σ H s) (t : Nat) : Inv X pins σ H { s with toks := t } := I.un (h' := s.heap) (t' := t) Un.refl I.hok
theorem Inv.kept {t' : Nat} (I : Inv X pins σ H s) (k : ∀ b u, s.heap.get? b = some u → h'.get? b = some u) : Inv X pins σ H { s with heap := h', toks := t' } := I.un (Un.kept k) (I.hok.kept k)
theorem Inv.laid {a : Addr} {o : HO} {t' : Nat} (I : Inv X pins σ H s) (k : ∀ b u, s.heap.get? b = some u → h'.get? b = some u) (hp : s.heap.objs.size ≤ a) (new : ObjOk X.prog X.w (upd H a o) h' a o) :
    Inv X pins σ (upd H a o) { s with heap := h', toks := t' } := I.un (Un.laid k hp (I.hok.fresh hp)) (I.hok.laid k hp new)
theorem Inv.write {x e : Addr} {o : HO} {t' : Nat} (I : Inv X pins σ H s) (mu : Mut (H x)) (he : e = x ∨ H e = some (.own x)) (k : ∀ b u, b ≠ e → s.heap.get? b = some u → h'.get? b = some u) (heo : ∃ u, h'.get? e = some u)
    (new : ObjOk X.prog X.w (upd H x o) h' x o) : Inv X pins σ (upd H x o) { s with heap := h', toks := t' } := I.un (Un.write mu he k heo) (I.hok.write mu he k heo new)
theorem Inv.pins_of {pins' : List (Addr × Obj)} (I : Inv X pins σ H s) (h : ∀ p ∈ pins', s.heap.get? p.1 = some p.2 ∧ H p.1 = none ∧ p.1 ≠ X.env.locals ∧ p.1 ∉ X.fs ∧ ∀ v, p.2.data ≠ .cell v) : Inv X pins' σ H s :=
  ⟨I.ok, I.os, I.bare, I.base, I.loc, I.cell, I.free, I.freeC, fun p hp => (List.mem_append.mp hp).elim (fun z => I.pin p (List.mem_append_left _ z)) (h p), I.hok, I.len⟩
theorem nodup_ix {N : List Str} (hN : N.Nodup) {i j : Nat} {x : Str} (a : N[i]? = some x) (b : N[j]? = some x) : i = j := by
  obtain ⟨h1, e1⟩ := List.getElem?_eq_some_iff.mp a
  obtain ⟨h2, e2⟩ := List.getElem?_eq_some_iff.mp b
  exact (List.getElem_inj hN).mp (e1.trans e2.symm)
theorem store_ok2 {M : Model} {A : Around} {E : Value → Shared → Prop} {i : Nat} {x : Str} {v : V} {u : Value} {Q : Unit → Shared → Prop} (I : Inv X pins σ H s) (hN : X.N.Nodup) (hi : X.N[i]? = some x) (hx : Loc X.env.scope x) (r : RelV v u)
    (h : ∀ s', Inv X pins (σ.set i (some v)) H s' → (∃ a, Heap.SameBut a s.heap s'.heap ∧ (a = X.env.locals ∨ X.env.cells.lookup x = some a)) → Q () s') (hf : X.fn x = true ∨ X.env.scope.names.lookup x = some .local := by first | exact .inl rfl | exact .inr rfl | assumption) : wpAny M A (storeName X.env x u) Q E s := by
  obtain ⟨m, hn, hl⟩ := id I.loc
  have hcls : (X.env.scope.kind == .class || (X.env.scope.kind == .module && X.env.locals != X.env.globals)) = false := by rw [I.ok.kind]; rfl
  have hiσ : i < σ.length := by rw [I.len]; exact (List.getElem?_eq_some_iff.mp hi).1
  have cne := I.cne
  have tracked : ∀ {a : Addr} {h' : Heap}, (∃ o, s.heap.get? a = some o ∧ H a = none) → Heap.SameBut a s.heap h' → HOk X.prog X.w H h' := fun {a h'} ha hs b ob e => by
    obtain ⟨_, _, hfree⟩ := ha
    refine (I.hok b ob e).stay (fun c w' hc q => (hs.2 c ?_).trans q) (fun _ q => q) fun _ _ q => q
    rintro rfl
    rcases hc with rfl | hc
    · rw [hfree] at e; cases e
    · rw [hfree] at hc; cases hc
  rcases hx with hk | hk
  · refine wpAny_storeName_local hk hn (fun h' hn' hs => ?_) hcls
    obtain ⟨oL, _, _, hoL, _⟩ := id hn
    refine h _ ⟨I.ok, I.os, I.bare, ⟨fun b o e n hb hx => ?_, fun b o e n hb hx => ?_, I.base.free, fun b o e hx => ?_, I.base.tups, I.base.frzs, I.base.tbls⟩, ⟨_, hn', fun j y v' e1 e2 e3 => ?_⟩, fun y c e => ?_, I.free, I.freeC, fun p hp => ?_, tracked ⟨oL, hoL, I.free⟩ hs, by simpa using I.len⟩ ⟨_, hs, .inl rfl⟩
    · exact (hs.2 b (Nat.ne_of_lt (Nat.lt_of_lt_of_le (Heap.lt_size e) I.ok.above))).trans (I.base.keep b o e n hb hx)
    · obtain ⟨sl, e1⟩ := I.base.slot b o e n hb hx
      exact ⟨sl, (hs.2 b (Nat.ne_of_lt (Nat.lt_of_lt_of_le (Heap.lt_size e) I.ok.above))).trans e1⟩
    · obtain ⟨o', e1⟩ := I.base.there b o e hx
      exact ⟨o', (hs.2 b (Nat.ne_of_lt (Nat.lt_of_lt_of_le (Heap.lt_size e) I.ok.above))).trans e1⟩
    · by_cases hj : j = i
      · subst hj
        rw [hi] at e1; cases e1
        rw [List.getElem?_set_self hiσ] at e2
        cases e2
        exact ⟨u, r, .inl ⟨hk, by simp⟩⟩
      · rw [List.getElem?_set_ne (Ne.symm hj)] at e2
        obtain ⟨u', r', q⟩ := hl j y v' e1 e2 e3
        refine ⟨u', r', ?_⟩
        rcases q with ⟨k, e⟩ | ⟨k, c, e, z⟩
        · refine .inl ⟨k, ?_⟩
          have : y ≠ x := fun e => hj (nodup_ix hN e1 (e ▸ hi))
          simp [this, e]
        · exact .inr ⟨k, c, e, z.sameBut hs (cne y c e)⟩
    · obtain ⟨w', z⟩ := I.cell y c e
      exact ⟨w', z.sameBut hs (cne y c e)⟩
    · obtain ⟨e, n, ne, nf, d⟩ := I.pin p hp
      exact ⟨(hs.2 p.1 ne).trans e, n, ne, nf, d⟩
  · have hfn : X.fn x = true := by
      rcases hf with z | z
      · exact z
      · rw [z] at hk; cases hk
    obtain ⟨c, hc⟩ := I.ok.has x (.inl hk)
    obtain ⟨w', z⟩ := I.cell x c hc
    refine wpAny_storeName_cell I.ok.kind hk hc z (fun h' hc' hs => ?_)
    obtain ⟨oc, hoc, hocd⟩ := id z
    refine h { s with heap := h' } ⟨I.ok, I.os, I.bare, ⟨fun b o e n hb hx => ?_, fun b o e n hb hx => ?_, I.base.free, fun b o e hx => ?_, I.base.tups, I.base.frzs, I.base.tbls⟩, ⟨m, hn.sameBut hs (Ne.symm (cne x c hc)), fun j y v' e1 e2 e3 => ?_⟩, fun y c' e => ?_, I.free, I.freeC, fun p hp => ?_, tracked ⟨oc, hoc, I.freeC x c hc⟩ hs, by simpa using I.len⟩ ⟨c, hs, .inr hc⟩
    · exact (hs.2 b (Nat.ne_of_lt (Nat.lt_of_lt_of_le (Heap.lt_size e) (I.ok.cab x c hfn hc)))).trans (I.base.keep b o e n hb hx)
    · obtain ⟨sl, e1⟩ := I.base.slot b o e n hb hx
      exact ⟨sl, (hs.2 b (Nat.ne_of_lt (Nat.lt_of_lt_of_le (Heap.lt_size e) (I.ok.cab x c hfn hc)))).trans e1⟩
    · obtain ⟨o', e1⟩ := I.base.there b o e hx
      exact ⟨o', (hs.2 b (Nat.ne_of_lt (Nat.lt_of_lt_of_le (Heap.lt_size e) (I.ok.cab x c hfn hc)))).trans e1⟩
    · by_cases hj : j = i
      · subst hj
        rw [hi] at e1; cases e1
        rw [List.getElem?_set_self hiσ] at e2
        cases e2
        exact ⟨u, r, .inr ⟨.inl hk, c, hc, hc'⟩⟩
      · rw [List.getElem?_set_ne (Ne.symm hj)] at e2
        obtain ⟨u', r', q⟩ := hl j y v' e1 e2 e3
        refine ⟨u', r', ?_⟩
        rcases q with q | ⟨k, c', e, z'⟩
        · exact .inl q
        · refine .inr ⟨k, c', e, z'.sameBut hs ?_⟩
          rintro rfl
          exact hj (nodup_ix hN e1 (I.ok.inj _ _ _ e hc ▸ hi))
    · by_cases hcc : c' = c
      · subst hcc; exact ⟨_, hc'⟩
      · obtain ⟨w2, z2⟩ := I.cell y c' e
        exact ⟨w2, z2.sameBut hs hcc⟩
    · obtain ⟨e, n, ne, nf, d⟩ := I.pin p hp
      refine ⟨(hs.2 p.1 ?_).trans e, n, ne, nf, d⟩
      intro q
      rw [q, hoc] at e
      have q' : oc = p.2 := Option.some.inj e
      exact d w' (by rw [← q']; exact hocd)
theorem store_ok {M : Model} {A : Around} {E : Value → Shared → Prop} {i : Nat} {x : Str} {v : V} {u : Value} {Q : Unit → Shared → Prop} (I : Inv X pins σ H s) (hN : X.N.Nodup) (hi : X.N[i]? = some x) (hx : Loc X.env.scope x) (r : RelV v u)
    (h : ∀ s', Inv X pins (σ.set i (some v)) H s' → Q () s') (hf : X.fn x = true ∨ X.env.scope.names.lookup x = some .local := by first | exact .inl rfl | exact .inr rfl | assumption) : wpAny M A (storeName X.env x u) Q E s :=
  store_ok2 I hN hi hx r (fun s' I' _ => h s' I') hf
theorem Inv.call' {s' : Shared} {ch : List Addr} (I : Inv X pins σ H s) (ho : s'.os = s.os) (u : Un (frs X.stack) ch H H' s.heap s'.heap) (hok : HOk X.prog X.w H' s'.heap) (hg : AllBare s'.gens)
    (hch : ∀ b ∈ ch, (b ∈ X.ex ∨ X.s₀.heap.objs.size ≤ b) ∧ b ≠ X.env.locals ∧ (∀ x c, X.env.cells.lookup x = some c → c ≠ b) ∧ ∀ p ∈ X.pn ++ pins, p.1 ≠ b) : Inv X pins σ H' s' := by
  obtain ⟨h', g', d', t', o'⟩ := s'
  have e : o' = s.os := ho
  subst e
  exact I.call (g' := g') (t' := t') (d' := d') u hok hg hch
end
abbrev XK := Value → Option Addr → Hp → Prop
abbrev St := List (Option V)
abbrev VK := V → Hp → Prop
abbrev TE := St → Hp → VK → Prop
abbrev TT := St → Hp → (Bool → Hp → Prop) → Prop
abbrev TA := St → Hp → (List V → Hp → Prop) → Prop
structure Ends where
  nx : St → Hp → Prop
  rt : VK
  bk : St → Hp → Prop := fun _ _ => False
  ct : St → Hp → Prop := fun _ _ => False
abbrev TS := Ends → St → Hp → Prop
def EP (X : Cx) (pins : List (Addr × Obj)) (σ : St) (Q : VK) (u : Value) (s' : Shared) : Prop := ∃ v H', Inv X pins σ H' s' ∧ RelV v u ∧ Q v H'
def TP (X : Cx) (pins : List (Addr × Obj)) (σ : St) (Q : Bool → Hp → Prop) (b : Bool) (s' : Shared) : Prop := ∃ H', Inv X pins σ H' s' ∧ Q b H'
def AP (X : Cx) (pins : List (Addr × Obj)) (σ : St) (Q : List V → Hp → Prop) (us : List Value) (s' : Shared) : Prop := ∃ vs H', Inv X pins σ H' s' ∧ Vals vs us ∧ Q vs H'
def SP (X : Cx) (pins : List (Addr × Obj)) (D : Ends) (f : Flow) (s' : Shared) : Prop :=
  match f with
  | .next => ∃ σ' H', Inv X pins σ' H' s' ∧ D.nx σ' H'
  | .brk => ∃ σ' H', Inv X pins σ' H' s' ∧ D.bk σ' H'
  | .cont => ∃ σ' H', Inv X pins σ' H' s' ∧ D.ct σ' H'
  | .ret u => ∃ v σ' H', Inv X pins σ' H' s' ∧ RelV v u ∧ D.rt v H'
def PE (X : Cx) (e : Expr) (t : TE) : Prop :=
  ∀ (pins : List (Addr × Obj)) (s : Shared) (σ : St) (H : Hp) (Q : VK), Inv X pins σ H s → t σ H Q → wpAny (model X.prog X.w) X.A (eval e X.env) (EP X pins σ Q) X.xe s
def PT (X : Cx) (e : Expr) (t : TT) : Prop :=
  ∀ (pins : List (Addr × Obj)) (s : Shared) (σ : St) (H : Hp) (Q : Bool → Hp → Prop), Inv X pins σ H s → t σ H Q → wpAny (model X.prog X.w) X.A (isTrue e X.env (eval e X.env)) (TP X pins σ Q) X.xe s
def PW (X : Cx) (e : Expr) (t : TT) : Prop :=
  ∀ (whole : Sem Value) (pins : List (Addr × Obj)) (s : Shared) (σ : St) (H : Hp) (Q : Bool → Hp → Prop), Inv X pins σ H s → t σ H Q → wpAny (model X.prog X.w) X.A (isTrue e X.env whole) (TP X pins σ Q) X.xe s
theorem PW.pt {X : Cx} {e : Expr} {t : TT} (h : PW X e t) : PT X e t := h _
def PA (X : Cx) (es : List Expr) (t : TA) : Prop :=
  ∀ (pos : Pos) (pins : List (Addr × Obj)) (s : Shared) (σ : St) (H : Hp) (Q : List V → Hp → Prop), Inv X pins σ H s → t σ H Q → wpAny (model X.prog X.w) X.A (spliced (backTo pos (starEach es X.env))) (AP X pins σ Q) X.xe s
def PS (X : Cx) (st : Stmt) (t : TS) : Prop :=
  ∀ (pins : List (Addr × Obj)) (s : Shared) (σ : St) (H : Hp) (D : Ends), Inv X pins σ H s → t D σ H → wpAny (model X.prog X.w) X.A (exec st X.env) (SP X pins D) X.xe s
def PSs (X : Cx) (st : List Stmt) (t : TS) : Prop :=
  ∀ (pins : List (Addr × Obj)) (s : Shared) (σ : St) (H : Hp) (D : Ends), Inv X pins σ H s → t D σ H → wpAny (model X.prog X.w) X.A (execs st X.env) (SP X pins D) X.xe s
theorem thn {α : Type} {t : Sem α} {Q Q' : α → Shared → Prop} {M : Model} {A : Around} {E : Value → Shared → Prop} {s : Shared} (h : wpAny M A t Q E s) (hQ : ∀ a s, Q a s → Q' a s) : wpAny M A t Q' E s := wpAny_mono h hQ fun _ _ x => x
end L2
namespace L2
open PySem PySem.Spec PyProof.Rows
section
variable {X : Cx}
def tVar (i : Nat) : TE := fun σ H Q => ∃ v, σ[i]? = some (some v) ∧ Q v H
def tC (v : V) : TE := fun _ H Q => Q v H
theorem pe_var {i : Nat} {x : Str} {pos : Pos} (hN : X.N[i]? = some x) (hv : Vis X.env.scope x) (hd : (x == ("__debug__" : Str)) = false := by decide) (hcd : (x == ("__classdict__" : Str)) = false := by decide) : PE X (.Name x pos) (tVar i) := by
  intro pins s σ H Q I h
  obtain ⟨v, e, h⟩ := h
  obtain ⟨m, hn, hl⟩ := I.loc
  obtain ⟨u, r, l⟩ := hl i x v hN e hv
  have fin : EP X pins σ Q u s := ⟨v, H, I, r, h⟩
  rcases l with ⟨hk, hm⟩ | ⟨hk, c, hc, hcell⟩
  · exact wpAny_Name (wpAny_loadName_local I.ok.kind hk hn hm fin) hd
  · rcases hk with hk | hk
    · exact wpAny_Name (wpAny_loadName_cell I.ok.kind hk hc hcell fin) hd
    · exact wpAny_Name (wpAny_loadName_free I.ok.kind hk hc hcell fin hcd) hd
theorem pe_int {i j pos} : PE X (.Constant (.int i) j pos) (tC (.int i)) := fun _ _ _ H _ I h => wpAny_Constant_int ⟨.int i, H, I.tok _, ⟨_, rfl⟩, h⟩
theorem pe_bl {b j pos} : PE X (.Constant (.bool b) j pos) (tC (.bl b)) := fun _ _ _ H _ I h => Constant_bool ⟨.bl b, H, I, rfl, h⟩
theorem pe_str {x j pos} : PE X (.Constant (.str x) j pos) (tC (.str x)) := fun _ _ _ H _ I h => Calls.Constant_str ⟨.str x, H, I.tok _, ⟨_, rfl⟩, h⟩
def Gl (X : Cx) (x : Str) : Prop := X.env.kindOf x = some .globalImplicit
theorem ld_glob {E : Value → Shared → Prop} {pins : List (Addr × Obj)} {s : Shared} {σ : St} {H : Hp} {x : Str} {u : Value} {pos : Pos} {Q : Value → Shared → Prop} (I : Inv X pins σ H s) (hg : Gl X x) (hm : X.mg x = some u) (h : Q u s)
    (hd : (x == ("__debug__" : Str)) = false := by decide) : wpAny (model X.prog X.w) X.A (eval (.Name x pos) X.env) Q E s :=
  Calls.Name_function_global I.ok.kind hg (Calls.loadGlobal_global (by rw [I.ok.glob]; exact I.mod.glob.keeps I.bk) hm h) hd
theorem ld_blt {E : Value → Shared → Prop} {pins : List (Addr × Obj)} {s : Shared} {σ : St} {H : Hp} {x : Str} {u : Value} {pos : Pos} {Q : Value → Shared → Prop} (I : Inv X pins σ H s) (hg : Gl X x) (hm : X.mg x = none) (hv : bootBuiltins x = some u) (h : Q u s)
    (hn : x ≠ "__name__" := by decide) (hd : (x == ("__debug__" : Str)) = false := by decide) : wpAny (model X.prog X.w) X.A (eval (.Name x pos) X.env) Q E s := by
  obtain ⟨mb, h1, h2⟩ := I.mod.blt
  exact Calls.Name_function_global I.ok.kind hg (Calls.loadGlobal_builtin (by rw [I.ok.glob]; exact I.mod.glob.keeps I.bk) hm (by rw [I.ok.blt]; exact h1.keeps I.bk) ((h2 x hn).trans hv) h) hd
theorem pe_bltn {x : Str} {v : V} {u : Value} {pos : Pos} (hg : Gl X x) (hm : X.mg x = none) (hv : bootBuiltins x = some u) (r : RelV v u) (hn : x ≠ "__name__" := by decide) (hd : (x == ("__debug__" : Str)) = false := by decide) : PE X (.Name x pos) (tC v) :=
  fun _ _ _ H _ I h => ld_blt I hg hm hv ⟨v, H, I, r, h⟩ hn hd
def t2I (ta tb : TE) (k : Int → Int → Hp → Prop) : St → Hp → Prop := fun σ H => ta σ H fun x H1 => tb σ H1 fun y H2 => ∃ i j, x = .int i ∧ y = .int j ∧ k i j H2
def tAdd (ta tb : TE) : TE := fun σ H Q => t2I ta tb (fun i j H2 => Q (.int (i + j)) H2) σ H
def tSub (ta tb : TE) : TE := fun σ H Q => t2I ta tb (fun i j H2 => Q (.int (i - j)) H2) σ H
def tMul (ta tb : TE) : TE := fun σ H Q => t2I ta tb (fun i j H2 => (-(2 ^ 64) < i ∧ i < 2 ^ 64) ∧ Q (.int (i * j)) H2) σ H
variable {a b : Expr} {ta tb : TE} {pos : Pos}
def PC (X : Cx) (op : CmpOp) (a b : Expr) (t : TE) : Prop :=
  ∀ (pins : List (Addr × Obj)) (s : Shared) (σ : St) (H : Hp) (Q : VK), Inv X pins σ H s → t σ H Q →
    wpAny (model X.prog X.w) X.A (eval a X.env) (fun v s₁ => wpAny (model X.prog X.w) X.A (eval b X.env) (fun u s₂ => wpAny (model X.prog X.w) X.A (compareOp op v u) (EP X pins σ Q) X.xe s₂) X.xe s₁) X.xe s
def tCmp (p : Int → Int → Bool) (ta tb : TE) : TE := fun σ H Q => t2I ta tb (fun i j H2 => Q (.bl (p i j)) H2) σ H
abbrev tLt : TE → TE → TE := tCmp fun i j => decide (i < j)
abbrev tLe : TE → TE → TE := tCmp fun i j => decide (i ≤ j)
abbrev tGt : TE → TE → TE := tCmp fun i j => decide (j < i)
abbrev tGe : TE → TE → TE := tCmp fun i j => decide (j ≤ i)
abbrev tEqI : TE → TE → TE := tCmp fun i j => decide (i = j)
abbrev tNeI : TE → TE → TE := tCmp fun i j => !decide (i = j)
def tIsN (ta : TE) : TE := fun σ H Q => ta σ H fun x H1 => Q (.bl (decide (x = .non))) H1
def tNotN (ta : TE) : TE := fun σ H Q => ta σ H fun x H1 => Q (.bl (!decide (x = .non))) H1
def tB (t : TE) : TT := fun σ H Q => t σ H fun x H1 => ∃ c, x = .bl c ∧ Q c H1
theorem pt_val {e : Expr} {t : TE} (h : PE X e t) (he : ∀ whole, isTrue e X.env whole = (do let v ← whole; standAt e.pos; holding [v] (truthy v)) := by intro _; rfl) : PT X e (tB t) := by
  intro pins s σ H Q I hw
  refine isTrue_plain (thn (h pins s σ H _ I hw) fun v s1 ⟨x, H1, I1, r1, q1⟩ => ?_) (he _)
  obtain ⟨d, rfl, q⟩ := q1
  cases r1
  exact wpAny_truthy_bool ⟨H1, I1, q⟩
variable {tA tB' : TT} {rest : List Expr}
def tAnd (t u : TT) : TT := fun σ H Q => t σ H fun c H1 => if c = true then u σ H1 Q else Q false H1
def tOr (t u : TT) : TT := fun σ H Q => t σ H fun c H1 => if c = true then Q true H1 else u σ H1 Q
def tNot (t : TT) : TT := fun σ H Q => t σ H fun c H1 => Q (!c) H1
theorem pw_and1 (ha : PT X a tA) : PW X (.BoolOp .And [a] pos) tA := by
  intro wh pins s σ H Q I h
  refine isTrue_and (thn (ha pins s σ H Q I h) fun c s1 e => ?_)
  cases c with
  | true => exact isTrue_and_nil e
  | false => exact e
theorem pw_or1 (ha : PT X a tA) : PW X (.BoolOp .Or [a] pos) tA := by
  intro wh pins s σ H Q I h
  refine isTrue_or (thn (ha pins s σ H Q I h) fun c s1 e => ?_)
  cases c with
  | false => exact isTrue_or_nil e
  | true => exact e
theorem pw_and (ha : PT X a tA) (hb : PW X (.BoolOp .And (b :: rest) pos) tB') : PW X (.BoolOp .And (a :: b :: rest) pos) (tAnd tA tB') := by
  intro wh pins s σ H Q I h
  refine isTrue_and (thn (ha pins s σ H _ I h) fun c s1 ⟨H1, I1, q1⟩ => ?_)
  cases c with
  | true => exact hb wh pins s1 σ H1 Q I1 q1
  | false => exact ⟨H1, I1, q1⟩
theorem pw_or (ha : PT X a tA) (hb : PW X (.BoolOp .Or (b :: rest) pos) tB') : PW X (.BoolOp .Or (a :: b :: rest) pos) (tOr tA tB') := by
  intro wh pins s σ H Q I h
  refine isTrue_or (thn (ha pins s σ H _ I h) fun c s1 ⟨H1, I1, q1⟩ => ?_)
  cases c with
  | true => exact ⟨H1, I1, q1⟩
  | false => exact hb wh pins s1 σ H1 Q I1 q1
theorem pt_not (ha : PT X a tA) : PT X (.UnaryOp .Not a pos) (tNot tA) := by
  intro pins s σ H Q I h
  exact isTrue_not (ha pins s σ H (fun c H1 => Q (!c) H1) I h)
def tAndV (ta tb : TE) : TE := fun σ H Q => ta σ H fun x H1 => ∃ c, x = .bl c ∧ if c = true then tb σ H1 Q else Q (.bl false) H1
def tOrV (ta tb : TE) : TE := fun σ H Q => ta σ H fun x H1 => ∃ c, x = .bl c ∧ if c = true then Q (.bl true) H1 else tb σ H1 Q
def tNotV (ta : TE) : TE := fun σ H Q => ta σ H fun x H1 => ∃ c, x = .bl c ∧ Q (.bl (!c)) H1
theorem pe_one {op} {t : TE} (h : PE X a t) : PE X (.BoolOp op [a] pos) t := fun pins s σ H Q I hw => BoolOp_one (h pins s σ H Q I hw)
theorem pe_and (ha : PE X a ta) (hb : PE X (.BoolOp .And (b :: rest) pos) tb) : PE X (.BoolOp .And (a :: b :: rest) pos) (tAndV ta tb) := by
  intro pins s σ H Q I h
  refine BoolOp_and (thn (ha pins s σ H _ I h) fun v s1 ⟨x, H1, I1, r1, q1⟩ => ?_)
  obtain ⟨c, rfl, q1⟩ := q1
  cases r1
  refine wpAny_truthy_bool ?_
  cases c with
  | true => exact hb pins s1 σ H1 Q I1 q1
  | false => exact ⟨.bl false, H1, I1, rfl, q1⟩
theorem pe_not (ha : PE X a ta) : PE X (.UnaryOp .Not a pos) (tNotV ta) := by
  intro pins s σ H Q I h
  refine UnaryOp_ (thn (ha pins s σ H _ I h) fun v s1 ⟨x, H1, I1, r1, q1⟩ => ?_)
  obtain ⟨c, rfl, q1⟩ := q1
  cases r1
  exact not_of (wpAny_truthy_bool ⟨.bl (!c), H1, I1, rfl, q1⟩)
def tIf (t : TT) (ta tb : TE) : TE := fun σ H Q => t σ H fun c H1 => if c = true then ta σ H1 Q else tb σ H1 Q
end
end L2
namespace L2
open PySem PySem.Spec PyProof.Rows
def SqL (K : PySem.W.Frag) (H : Hp) (a : Addr) (xs : List V) : Prop :=
  Rd H a (.lst xs) ∨
    ∃ (o : Obj) (its : Array Value) (n : Nat), K.lookup a = some o ∧ o.cls = .type "list" ∧ o.dict = none ∧ o.data = .seq its n ∧ its.size ≤ sizeLine ∧ Vals xs its.toList
def SqT (K : PySem.W.Frag) (H : Hp) (a : Addr) (xs : List V) : Prop :=
  Rd H a (.tup xs) ∨
    ∃ (o : Obj) (its : Array Value) (n : Nat), K.lookup a = some o ∧ o.cls = .type "tuple" ∧ o.data = .seq its n ∧ its.size ≤ sizeLine ∧ Vals xs its.toList
def absV : Value → Option V
  | .none => some .non
  | .bool b => some (.bl b)
  | .int i _ => some (.int i)
  | .str x _ => some (.str x)
  | .bytes b _ => some (.byt b)
  | .float b _ => some (.flt b)
  | .ref a => some (.ref a)
  | .type n => some (.ty n)
  | _ => none
theorem RelV.abs {x : V} {u : Value} (r : RelV x u) : absV u = some x := by
  cases x with
  | non => cases r; rfl
  | bl _ => cases r; rfl
  | int _ => obtain ⟨t, rfl⟩ := r; rfl
  | str _ => obtain ⟨t, rfl⟩ := r; rfl
  | byt _ => obtain ⟨t, rfl⟩ := r; rfl
  | flt _ => obtain ⟨t, rfl⟩ := r; rfl
  | ref _ => cases r; rfl
  | ty _ => cases r; rfl
theorem RelV.inj {x y : V} {u : Value} (r : RelV x u) (q : RelV y u) : x = y := Option.some.inj (r.abs.symm.trans q.abs)
theorem Vals.inj : ∀ {xs ys : List V} {us : List Value}, Vals xs us → Vals ys us → xs = ys
  | _, _, _, .nil, .nil => rfl
  | _, _, _, .cons r t, .cons r' t' => by rw [r.inj r', Vals.inj t t']
section
variable {X : Cx} {pins : List (Addr × Obj)} {σ : St} {H : Hp} {s : Shared} {a : Addr} {xs ys : List V}
theorem SqL.of {K : PySem.W.Frag} (h : H a = some (.lst xs)) : SqL K H a xs := .inl (.inl h)
theorem SqT.of {K : PySem.W.Frag} (h : H a = some (.tup xs)) : SqT K H a xs := .inl (.inl h)
theorem Inv.list (I : Inv X pins σ H s) (h : SqL X.K H a xs) : ∃ its : List Value, Vals xs its ∧ PlainL s.heap a its.toArray ∧ xs.length ≤ sizeLine := by
  rcases h with h | ⟨o, its, n, hk, hc, hd, hs, hz, r⟩
  · obtain ⟨z, its, n, r, e⟩ := h.ok I.hok
    exact ⟨its, r, ⟨_, n, e, rfl, rfl, rfl⟩, z⟩
  · refine ⟨its.toList, r, ⟨o, n, I.kIn a o hk, hc, hd, by simpa using hs⟩, ?_⟩
    have e := r.length
    simp only [Array.length_toList] at e
    omega
theorem Inv.tuple (I : Inv X pins σ H s) (h : SqT X.K H a xs) : ∃ its : List Value, Vals xs its ∧ IsTup s.heap a its.toArray ∧ xs.length ≤ sizeLine := by
  rcases h with h | ⟨o, its, n, hk, hc, hs, hz, r⟩
  · obtain ⟨z, its, r, p⟩ := h.ok I.hok
    exact ⟨its, r, p, z⟩
  · refine ⟨its.toList, r, ⟨o, I.kIn a o hk, hc, n, by simpa using hs⟩, ?_⟩
    have e := r.length
    simp only [Array.length_toList] at e
    omega
theorem Inv.list_inj (I : Inv X pins σ H s) (h : SqL X.K H a xs) (h' : SqL X.K H a ys) : xs = ys := by
  obtain ⟨its, r, ⟨o, n, e, _, _, d⟩, _⟩ := I.list h
  obtain ⟨its', r', ⟨o', n', e', _, _, d'⟩, _⟩ := I.list h'
  rw [e] at e'; cases e'
  rw [d] at d'
  injection d' with d1 _
  have : its = its' := by simpa using congrArg Array.toList d1
  subst this
  exact r.inj r'
end
abbrev Cx.wish (X : Cx) (E : Value → Shared → Prop) : Cx := { X with xe := E }
abbrev Cx.nox (X : Cx) : Cx := X.wish fun _ _ => False
theorem Cx.Ok.wish {X : Cx} (ok : X.Ok) (E : Value → Shared → Prop) : (X.wish E).Ok :=
  ⟨ok.mod, ok.kind, ok.glob, ok.blt, ok.above, ok.inj, ok.has, ok.cab, ok.hd, ok.frames, ok.stk, ok.exf, ok.bs, ok.bsz, ok.noex, ok.exfs, ok.funs, ok.frf⟩
theorem Cx.Ok.unwish {X : Cx} {E : Value → Shared → Prop} (ok : (X.wish E).Ok) : X.Ok :=
  ⟨ok.mod, ok.kind, ok.glob, ok.blt, ok.above, ok.inj, ok.has, ok.cab, ok.hd, ok.frames, ok.stk, ok.exf, ok.bs, ok.bsz, ok.noex, ok.exfs, ok.funs, ok.frf⟩
section
variable {X : Cx} {pins : List (Addr × Obj)} {σ : St} {H : Hp} {s : Shared} {E : Value → Shared → Prop}
theorem Inv.wish (I : Inv X pins σ H s) (E : Value → Shared → Prop) : Inv (X.wish E) pins σ H s := ⟨I.ok.wish E, I.os, I.bare, I.base, I.loc, I.cell, I.free, I.freeC, I.pin, I.hok, I.len⟩
theorem Inv.unwish (I : Inv (X.wish E) pins σ H s) : Inv X pins σ H s := ⟨I.ok.unwish, I.os, I.bare, I.base, I.loc, I.cell, I.free, I.freeC, I.pin, I.hok, I.len⟩
theorem SP.unwish {D : Ends} {f : Flow} {s' : Shared} (h : SP (X.wish E) pins D f s') : SP X pins D f s' := by
  cases f with
  | next => obtain ⟨σ', H', I, q⟩ := h; exact ⟨σ', H', I.unwish, q⟩
  | brk => obtain ⟨σ', H', I, q⟩ := h; exact ⟨σ', H', I.unwish, q⟩
  | cont => obtain ⟨σ', H', I, q⟩ := h; exact ⟨σ', H', I.unwish, q⟩
  | ret u => obtain ⟨v, σ', H', I, r, q⟩ := h; exact ⟨v, σ', H', I.unwish, r, q⟩
theorem PSs.nox {st : List Stmt} {t : TS} (h : PSs X.nox st t) : PSs X st t := fun pins s σ H D I hw =>
  wpAny_mono (h pins s σ H D (I.wish _) hw) (fun _ _ q => q.unwish) fun _ _ z => False.elim z
end
section
variable {X : Cx} {st : Stmt} {rest : List Stmt} {t u : TS} {e : Expr} {te : TE} {pos : Pos}
def tNext : TS := fun D σ H => D.nx σ H
def tSeq (t u : TS) : TS := fun D σ H => t { D with nx := u D } σ H
theorem pss_nil : PSs X [] tNext := fun _ _ σ H _ I h => wpAny_execs_nil ⟨σ, H, I, h⟩
theorem pss_cons (h1 : PS X st t) (h2 : PSs X rest u) : PSs X (st :: rest) (tSeq t u) := by
  intro pins s σ H D I h
  refine wpAny_execs_cons (thn (h1 pins s σ H { D with nx := u D } I h) fun f s1 q => ?_)
  cases f with
  | next =>
    obtain ⟨σ', H', I', q⟩ := q
    exact h2 pins s1 σ' H' D I' q
  | ret v => exact q
  | brk => exact q
  | cont => exact q
theorem pss_one (h1 : PS X st t) : PSs X [st] t := by
  intro pins s σ H D I h
  refine wpAny_execs_cons (thn (h1 pins s σ H D I h) fun f s1 q => ?_)
  cases f with
  | next => exact wpAny_execs_nil q
  | ret v => exact q
  | brk => exact q
  | cont => exact q
def tBreak : TS := fun D σ H => D.bk σ H
def tCont : TS := fun D σ H => D.ct σ H
theorem Inv.quiet {pins : List (Addr × Obj)} {σ : St} {H : Hp} {s : Shared} (I : Inv X pins σ H s) : interactive X.env = false := by simp [interactive, I.ok.kind]
def tDrop (te : TE) : TS := fun D σ H => te σ H fun _ H1 => D.nx σ H1
theorem ps_expr (he : PE X e te) (hs : swapsWith e none pos.line X.env = pure false := by rfl) : PS X (.Expr e pos) (tDrop te) := by
  intro pins s σ H D I h
  exact wpAny_Expr_any (thn (he pins s σ H _ I h) fun v s1 ⟨x, H1, I1, r1, q1⟩ => ⟨σ, H1, I1, q1⟩) I.quiet hs
def tRet (te : TE) : TS := fun D σ H => te σ H D.rt
theorem ps_ret (he : PE X e te) : PS X (.Return (some e) pos) (tRet te) := by
  intro pins s σ H D I h
  exact wpAny_Return_some (thn (he pins s σ H _ I h) fun v s1 ⟨x, H1, I1, r1, q1⟩ => ⟨x, σ, H1, I1, r1, q1⟩)
def tRetN : TS := fun D _ H => D.rt .non H
def tIfS (c : TT) (t u : TS) : TS := fun D σ H => c σ H fun b H1 => if b = true then t D σ H1 else u D σ H1
theorem ps_if {c : Expr} {a b : List Stmt} {tc : TT} (hc : PT X c tc) (ha : PSs X a t) (hb : PSs X b u) : PS X (.If c a b pos) (tIfS tc t u) := by
  intro pins s σ H D I h
  refine wpAny_If (thn (hc pins s σ H _ I h) fun d s1 ⟨H1, I1, q1⟩ => ?_)
  cases d with
  | true => exact ha pins s1 σ H1 D I1 q1
  | false => exact hb pins s1 σ H1 D I1 q1
def tNever : TS := fun _ _ _ => False
theorem ps_never : PS X st tNever := fun _ _ _ _ _ _ h => h.elim
end
abbrev TG := V → St → Hp → (St → Hp → Prop) → Prop
abbrev TGs := List V → St → Hp → (St → Hp → Prop) → Prop
def PG (X : Cx) (target : Expr) (t : TG) : Prop :=
  ∀ (pins : List (Addr × Obj)) (s : Shared) (σ : St) (H : Hp) (v : V) (u : Value) (Q : St → Hp → Prop), Inv X pins σ H s → RelV v u → t v σ H Q →
    wpAny (model X.prog X.w) X.A (assign target X.env u) (fun _ s' => ∃ σ' H', Inv X pins σ' H' s' ∧ Q σ' H') X.xe s
def PGs (X : Cx) (ts : List Expr) (t : TGs) : Prop :=
  ∀ (pins : List (Addr × Obj)) (s : Shared) (σ : St) (H : Hp) (vs : List V) (us : List Value) (Q : St → Hp → Prop), Inv X pins σ H s → Vals vs us → t vs σ H Q →
    wpAny (model X.prog X.w) X.A (assignInOrder ((assignEach ts X.env).map (·.2)) us) (fun _ s' => ∃ σ' H', Inv X pins σ' H' s' ∧ Q σ' H') X.xe s
abbrev TSet := V → V → V → Hp → (Hp → Prop) → Prop
def PSet (X : Cx) (t : TSet) : Prop :=
  ∀ (pins : List (Addr × Obj)) (s : Shared) (σ : St) (H : Hp) (o i v : V) (ov iv u : Value) (Q : Hp → Prop), Inv X pins σ H s → RelV o ov → RelV i iv → RelV v u → t o i v H Q →
    wpAny (model X.prog X.w) X.A (setItem ov iv u) (fun _ s' => ∃ H', Inv X pins σ H' s' ∧ Q H') X.xe s
abbrev TIp := V → V → Hp → VK → Prop
def PIp (X : Cx) (op : Operator) (t : TIp) : Prop :=
  ∀ (pins : List (Addr × Obj)) (s : Shared) (σ : St) (H : Hp) (x y : V) (v u : Value) (Q : VK), Inv X pins σ H s → RelV x v → RelV y u → t x y H Q →
    wpAny (model X.prog X.w) X.A (inplaceOp op v u) (EP X pins σ Q) X.xe s
section
variable {X : Cx} {pos : Pos}
def gName (i : Nat) : TG := fun v σ H Q => Q (σ.set i (some v)) H
theorem pg_name {i : Nat} {x : Str} (hN : X.N.Nodup) (hi : X.N[i]? = some x) (hx : Loc X.env.scope x) (hf : X.fn x = true ∨ X.env.scope.names.lookup x = some .local := by first | exact .inl rfl | exact .inr rfl | assumption) : PG X (.Name x pos) (gName i) := by
  intro pins s σ H v u Q I r h
  exact wpAny_assign_Name (store_ok I hN hi hx r (fun s' I' => ⟨_, H, I', h⟩) hf)
def gNil : TGs := fun vs σ H Q => vs = [] ∧ Q σ H
def gCons (t : TG) (u : TGs) : TGs := fun vs σ H Q => ∃ v r, vs = v :: r ∧ t v σ H fun σ' H' => u r σ' H' Q
theorem pgs_nil : PGs X [] gNil := by
  intro pins s σ H vs us Q I r h
  obtain ⟨e, h⟩ := h
  subst e
  cases r
  exact assignInOrder_nil ⟨σ, H, I, h⟩
theorem pgs_cons {e : Expr} {es : List Expr} {t : TG} {u : TGs} (h1 : PG X e t) (h2 : PGs X es u)
    (hs : (assignEach (e :: es) X.env).map (·.2) = assign e X.env :: (assignEach es X.env).map (·.2) := by rfl) : PGs X (e :: es) (gCons t u) := by
  intro pins s σ H vs us Q I r h
  obtain ⟨v, vr, e1, h⟩ := h
  subst e1
  cases r with
  | cons r rr =>
    rw [hs]
    refine assignInOrder_cons (thn (h1 pins s σ H _ _ _ I r h) fun _ s1 ⟨σ1, H1, I1, q1⟩ => ?_)
    exact h2 pins s1 σ1 H1 _ _ Q I1 rr q1
def gTup (K : PySem.W.Frag) (n : Nat) (t : TGs) : TG := fun v σ H Q => ∃ a xs, v = .ref a ∧ SqT K H a xs ∧ xs.length = n ∧ t xs σ H Q
theorem pg_tup {es : List Expr} {k : Nat} {t : TGs} {n : Nat} (hc : X.calm = true) (h : PGs X es t)
    (hn : (assignEach es X.env).length = n := by rfl) (hst : (assignEach es X.env).findIdx? (·.1) = none := by rfl) : PG X (.Tuple es k pos) (gTup X.K n t) := by
  intro pins s σ H v u Q I r hw
  obtain ⟨a, xs, e1, hq, hl, hw⟩ := hw
  subst e1
  cases r
  obtain ⟨its, rv, ht, hz⟩ := I.tuple hq
  refine assign_Tuple_tuple (I.ok.hd hc) ht (by simp [hn, ← hl, rv.length]) hst fun h' hx => ?_
  have I1 : Inv X pins σ H { s with heap := h' } := I.kept (t' := s.toks) fun b o e => hx b o (Nat.ne_of_lt (Heap.lt_size e)) e
  exact h pins _ σ H xs _ Q I1 (by simpa using rv) hw
def gSub (to ti : TE) (t : TSet) : TG := fun v σ H Q => to σ H fun o H1 => ti σ H1 fun i H2 => t o i v H2 fun H3 => Q σ H3
theorem pg_sub {o i : Expr} {to ti : TE} {t : TSet} (ho : PE X o to) (hi : PE X i ti) (hs : PSet X t)
    (ha : ∀ v, assign (.Subscript o i pos) X.env v = (do
      let ov ← holding [v] (eval o X.env)
      let iv ← holding [v, ov] (eval i X.env)
      standAt pos
      holding [v, ov, iv] (setItem ov iv v)
      release [v, ov, iv] []) := by intro _; rfl) : PG X (.Subscript o i pos) (gSub to ti t) := by
  intro pins s σ H v u Q I r h
  rw [ha]
  refine wpAny_bind (wpAny_holding (thn (ho pins s σ H _ I h) fun ov s1 ⟨x, H1, I1, r1, q1⟩ => ?_))
  refine wpAny_bind (wpAny_holding (thn (hi pins s1 σ H1 _ I1 q1) fun iv s2 ⟨y, H2, I2, r2, q2⟩ => ?_))
  refine wpAny_bind (wpAny_standAt (wpAny_bind (wpAny_holding (thn (hs pins s2 σ H2 x y v ov iv u _ I2 r1 r2 r q2) fun _ s3 ⟨H3, I3, q3⟩ => ?_))))
  exact wpAny_release ⟨σ, H3, I3, q3⟩
def tAsg (te : TE) (g : TG) : TS := fun D σ H => te σ H fun x H1 => g x σ H1 D.nx
theorem ps_asg {tg e : Expr} {te : TE} {g : TG} (he : PE X e te) (hg : PG X tg g) (hs : swapsWithSole [tg] e pos.line X.env = pure false := by rfl) (hw : swappedStores [tg] e X.env = pure none := by rfl)
    (h1 : (assignEach [tg] X.env).map (·.2) = [assign tg X.env] := by rfl) : PS X (.Assign [tg] e pos) (tAsg te g) := by
  intro pins s σ H D I h
  refine wpAny_Assign_stores (thn (he pins s σ H _ I h) fun v s1 ⟨x, H1, I1, r1, q1⟩ => ?_) hs hw
  rw [h1]
  exact thn (hg pins s1 σ H1 x v _ I1 r1 q1) fun _ s2 q => q
theorem ps_set {i : Nat} {x : Str} {e : Expr} {te : TE} {pos' : Pos} (hN : X.N.Nodup) (hi : X.N[i]? = some x) (hx : Loc X.env.scope x) (he : PE X e te) (hs : swapsWith e (some (.Name x pos')) pos.line X.env = pure false := by rfl) (hf : X.fn x = true ∨ X.env.scope.names.lookup x = some .local := by first | exact .inl rfl | exact .inr rfl | assumption) :
    PS X (.Assign [.Name x pos'] e pos) (tAsg te (gName i)) := by
  intro pins s σ H D I h
  refine wpAny_Assign_Name (thn (he pins s σ H _ I h) fun v s1 ⟨y, H1, I1, r1, q1⟩ => ?_) hs
  exact store_ok I1 hN hi hx r1 (fun s2 I2 => ⟨_, H1, I2, q1⟩) hf
def tPar (i j : Nat) (ta : TA) : TS := fun D σ H => ta σ H fun vs H1 => ∃ v w, vs = [v, w] ∧ D.nx ((σ.set i (some v)).set j (some w)) H1
def tAug (i : Nat) (te : TE) (ti : TIp) : TS := fun D σ H => ∃ x, σ[i]? = some (some x) ∧ te σ H fun y H1 => ti x y H1 fun z H2 => D.nx (σ.set i (some z)) H2
theorem ps_aug {i : Nat} {x : Str} {e : Expr} {te : TE} {op : Operator} {ti : TIp} {pos' : Pos} (hN : X.N.Nodup) (hi : X.N[i]? = some x) (hx : Loc X.env.scope x) (he : PE X e te) (ho : PIp X op ti) (hf : X.fn x = true ∨ X.env.scope.names.lookup x = some .local := by first | exact .inl rfl | exact .inr rfl | assumption) :
    PS X (.AugAssign (.Name x pos') op e pos) (tAug i te ti) := by
  intro pins s σ H D I h
  obtain ⟨v, e1, h⟩ := h
  obtain ⟨m, hn, hl⟩ := I.loc
  have vis : Vis X.env.scope x := by rcases hx with k | k; exact .inl k; exact .inr (.inl k)
  obtain ⟨u, r, l⟩ := hl i x v hi e1 vis
  refine wpAny_AugAssign_Name ?_
  have go : wpAny (model X.prog X.w) X.A (eval e X.env) (fun w s₂ => wpAny (model X.prog X.w) X.A (inplaceOp op u w) (fun r s₃ => wpAny (model X.prog X.w) X.A (storeName X.env x r) (fun _ => SP X pins D .next) X.xe s₃) X.xe s₂) X.xe s := by
    refine thn (he pins s σ H _ I h) fun w s1 ⟨y, H1, I1, r1, q1⟩ => ?_
    refine thn (ho pins s1 σ H1 v y u w _ I1 r r1 q1) fun z s2 ⟨zv, H2, I2, r2, q2⟩ => ?_
    exact store_ok I2 hN hi hx r2 (fun s3 I3 => ⟨_, H2, I3, q2⟩) hf
  rcases l with ⟨hk, hm⟩ | ⟨hk, c, hc, hcell⟩
  · exact wpAny_loadName_local I.ok.kind hk hn hm go
  · rcases hk with hk | hk
    · exact wpAny_loadName_cell I.ok.kind hk hc hcell go
    · rcases hx with k | k
      · have : X.env.scope.names.lookup x = some .free := hk
        rw [k] at this; cases this
      · have : X.env.scope.names.lookup x = some .free := hk
        rw [k] at this; cases this
def tAugS (to ti te : TE) (tget : V → V → Hp → VK → Prop) (tip : TIp) (tset : TSet) : TS := fun D σ H => to σ H fun o H1 => ti σ H1 fun i H2 => tget o i H2 fun x H3 => te σ H3 fun y H4 => tip x y H4 fun z H5 => tset o i z H5 fun H6 => D.nx σ H6
def PGet (X : Cx) (t : V → V → Hp → VK → Prop) : Prop :=
  ∀ (pins : List (Addr × Obj)) (s : Shared) (σ : St) (H : Hp) (o i : V) (ov iv : Value) (Q : VK), Inv X pins σ H s → RelV o ov → RelV i iv → t o i H Q →
    wpAny (model X.prog X.w) X.A (getItem ov iv) (EP X pins σ Q) X.xe s
def ipI (f : Int → Int → Int) : TIp := fun x y H Q => ∃ i j, x = .int i ∧ y = .int j ∧ Q (.int (f i j)) H
theorem ip_add : PIp X .Add (ipI fun i j => i + j) := by
  intro pins s σ H x y v u Q I r1 r2 h
  obtain ⟨i, j, e1, e2, q⟩ := h
  subst e1; subst e2
  obtain ⟨t, rfl⟩ := r1
  obtain ⟨t', rfl⟩ := r2
  exact iadd_int ⟨.int _, H, I.tok _, ⟨_, rfl⟩, q⟩
end
section
variable {X : Cx} {pos : Pos}
def tWhile (c : TT) (tb : TS) : TS := fun D σ H => ∃ W : Nat → St → Hp → Prop, (∃ m, W m σ H) ∧ ∀ m σ H, W m σ H →
  c σ H fun b H1 => if b = true then ∃ N : St → Hp → Prop, (∀ σ' H', N σ' H' → ∃ m', m' < m ∧ W m' σ' H') ∧ tb { D with nx := N, ct := N, bk := D.nx } σ H1 else D.nx σ H1
theorem ps_while {c : Expr} {body : List Stmt} {tc : TT} {tb : TS} (hp : PassesOwn (model X.prog X.w) X.A X.env X.xe) (hc : PT X c tc) (hb : PSs X body tb) : PS X (.While c body [] pos) (tWhile tc tb) := by
  intro pins s σ H D I h
  obtain ⟨W, ⟨m0, w0⟩, turn⟩ := h
  refine wpAny_While (codeAny_whileLoop (fun n s' => ∃ σ' H', Inv X pins σ' H' s' ∧ W n σ' H') ?_ m0 ⟨σ, H, I, w0⟩)
  rintro n s1 ⟨σ1, H1, I1, w1⟩
  refine wpAny_passesOwn hp (thn (hc pins s1 σ1 H1 _ I1 (turn n σ1 H1 w1)) fun b s2 ⟨H2, I2, q2⟩ => ?_)
  cases b with
  | true =>
    obtain ⟨N, hN, q2⟩ := q2
    rw [if_pos rfl]
    refine wpAny_passesOwn hp (thn (hb pins s2 σ1 H2 _ I2 q2) fun f s3 q3 => ?_)
    cases f with
    | next =>
      obtain ⟨σ3, H3, I3, n3⟩ := q3
      obtain ⟨m', hm, w3⟩ := hN σ3 H3 n3
      exact ⟨m', hm, σ3, H3, I3, w3⟩
    | cont =>
      obtain ⟨σ3, H3, I3, n3⟩ := q3
      obtain ⟨m', hm, w3⟩ := hN σ3 H3 n3
      exact ⟨m', hm, σ3, H3, I3, w3⟩
    | brk => exact q3
    | ret v => exact q3
  | false =>
    rw [if_neg Bool.false_ne_true]
    exact wpAny_execs_nil ⟨σ1, H2, I2, q2⟩
end
structure It where
  go : Nat → Hp → Prop
  yld : Nat → Hp → V → Hp → Prop
  stop : Nat → Hp → Prop
def FpOk (X : Cx) (pins : List (Addr × Obj)) (H : Hp) (b : Addr) : Prop :=
  H b = none ∧ b ≠ X.env.locals ∧ b ∉ X.fs ∧ (b ∈ X.ex ∨ X.s₀.heap.objs.size ≤ b) ∧ (∀ x c, X.env.cells.lookup x = some c → c ≠ b) ∧ ∀ p ∈ X.pn ++ pins, p.1 ≠ b
theorem Inv.fpOk {X : Cx} {pins : List (Addr × Obj)} {σ : St} {H H' : Hp} {s : Shared} {b : Addr} (I : Inv X pins σ H s) (hb : s.heap.objs.size ≤ b) (hn : H' b = none) : FpOk X pins H' b := by
  refine ⟨hn, Nat.ne_of_gt (Nat.lt_of_lt_of_le I.lt hb), I.nofs hb, .inr (Nat.le_trans I.sz hb), fun x c e z => ?_, fun p hp z => ?_⟩
  · obtain ⟨v, q⟩ := I.cell x c e
    exact absurd (Nat.lt_of_lt_of_le q.lt (by rw [z]; exact hb)) (Nat.lt_irrefl _)
  · exact absurd (Nat.lt_of_lt_of_le (Heap.lt_size (I.pin p hp).1) (by rw [z]; exact hb)) (Nat.lt_irrefl _)
structure Turn (P : Program) (w : World) (K : PySem.W.Frag) (tg : Expr) (J : It) (fp : List Addr) (it : Addr) (tn : Nat → Heap → Prop) : Prop where
  mem : it ∈ fp
  obj : ∀ i h, tn i h → ∀ b ∈ fp, ∃ o, h.get? b = some o ∧ ∀ v, o.data ≠ .cell v
  keep : ∀ i h h', tn i h → (∀ b ∈ fp, ∀ o, h.get? b = some o → h'.get? b = some o) → tn i h'
  item : ∀ (X : Cx), X.prog = P → X.w = w → X.K = K → X.calm = true → ∀ (i : Nat) (pins : List (Addr × Obj)) (s : Shared) (σ : St) (H : Hp) (E : Value → Shared → Prop), Inv X pins σ H s → (∀ b ∈ fp, FpOk X pins H b) → tn i s.heap → J.go i H →
    wpAny (model P w) X.A (pyNext (.ref it)) (fun r s1 => ∃ u, r = some u ∧
      wpAny (model P w) X.A (letOwnedTupleGo tg (.ref it) u) (fun _ s2 => ∃ x H', Inv X pins σ H' s2 ∧ RelV x u ∧ J.yld i H x H' ∧ tn (i + 1) s2.heap ∧ ∀ b ∈ fp, H' b = none) E s1) E s
  done : ∀ (X : Cx), X.prog = P → X.w = w → X.K = K → X.calm = true → ∀ (i : Nat) (pins : List (Addr × Obj)) (s : Shared) (σ : St) (H : Hp) (E : Value → Shared → Prop), Inv X pins σ H s → (∀ b ∈ fp, FpOk X pins H b) → tn i s.heap → J.stop i H →
    wpAny (model P w) X.A (pyNext (.ref it)) (fun r s1 => r = none ∧ Inv X pins σ H s1) E s
  self : ∀ (A : Around) (i : Nat) (s : Shared) (Q : Value → Shared → Prop) (E : Value → Shared → Prop), tn i s.heap → Q (.ref it) s → wpAny (model P w) A (pyIter (.ref it)) Q E s
abbrev TI := St → Hp → (It → Hp → Prop) → Prop
def PIE (X : Cx) (pins : List (Addr × Obj)) (σ : St) (tg : Expr) (R : It → Hp → Prop) (itv : Value) (s2 : Shared) : Prop :=
  ∃ (it : Addr) (fp : List Addr) (tn : Nat → Heap → Prop) (J : It) (H' : Hp), itv = .ref it ∧ Inv X pins σ H' s2 ∧ Turn X.prog X.w X.K tg J fp it tn ∧ tn 0 s2.heap ∧ (∀ b ∈ fp, FpOk X pins H' b) ∧ R J H'
def PI (X : Cx) (tg iter : Expr) (wi : TI) : Prop :=
  ∀ (pins : List (Addr × Obj)) (s : Shared) (σ : St) (H : Hp) (R : It → Hp → Prop), Inv X pins σ H s → wi σ H R →
    wpAny (model X.prog X.w) X.A (eval iter X.env) (fun v s1 => wpAny (model X.prog X.w) X.A (pyIter v) (PIE X pins σ tg R) X.xe s1) X.xe s
theorem go_of {M : Model} {A : Around} {E : Value → Shared → Prop} {s : Shared} {tg : Expr} {it : Addr} {u : Value} {o : Obj} {n : String} {vs : Array Value} {Q : Unit → Shared → Prop} (ho : s.heap.get? it = some o) (hc : o.cls = .type n) (hd : o.data = .fields vs)
    (hn : ["enumerate", "zip", "dict_itemiterator", "dict_reverseitemiterator", "odict_iterator", "itertools.zip_longest", "itertools.pairwise"].contains n = false) (hQ : Q () s) : wpAny M A (letOwnedTupleGo tg (.ref it) u) Q E s := by
  unfold letOwnedTupleGo
  cases tg <;> first
    | exact wpAny_pure hQ
    | (cases u <;> first
        | exact wpAny_pure hQ
        | (refine wpAny_bind (wpAny_load ho ?_)
           rw [hc, hd]
           show wpAny M A (if (["enumerate", "zip", "dict_itemiterator", "dict_reverseitemiterator", "odict_iterator", "itertools.zip_longest", "itertools.pairwise"].contains n && vs[0]? == some (rawInt _)) = true then _ else _) Q E s
           rw [if_neg (by intro h; rw [hn, Bool.false_and] at h; cases h)]
           exact wpAny_pure hQ))
def Itl (K : PySem.W.Frag) (a : Addr) : It :=
  ⟨fun i H => ∃ xs x, SqL K H a xs ∧ xs[i]? = some x, fun i H x H' => H' = H ∧ ∀ xs, SqL K H a xs → xs[i]? = some x, fun i H => ∃ xs, SqL K H a xs ∧ xs.length ≤ i⟩
def Itt (K : PySem.W.Frag) (a : Addr) : It :=
  ⟨fun i H => ∃ xs x, SqT K H a xs ∧ xs[i]? = some x, fun i H x H' => H' = H ∧ ∀ xs, SqT K H a xs → xs[i]? = some x, fun i H => ∃ xs, SqT K H a xs ∧ xs.length ≤ i⟩
def Itr (lo : Int) (n : Nat) : It := ⟨fun i _ => i < n, fun i H x H' => H' = H ∧ x = .int (lo + i), fun i _ => n ≤ i⟩
theorem turn_list {P : Program} {w : World} {K : PySem.W.Frag} {tg : Expr} (a it : Addr) : Turn P w K tg (Itl K a) [it] it (fun i h => h.IsListIter it a i) where
  mem := by simp
  obj := fun i h st b hb => by
    have e : b = it := by simpa using hb
    subst e
    obtain ⟨o, e, c, d⟩ := st
    exact ⟨o, e, fun v z => by rw [d] at z; cases z⟩
  keep := fun i h h' st k => st.at fun o e => k it (by simp) o e
  item := by
    intro X hP hw hK hc i pins s σ H E I hf st hg
    subst hP hw hK
    obtain ⟨xs, x, hq, hx⟩ := hg
    obtain ⟨its, rv, p, hz⟩ := I.list hq
    obtain ⟨u, hu, ru⟩ := rv.get hx
    obtain ⟨f0, f1, f2, f3, f4, f5⟩ := hf it (by simp)
    refine wpAny_pyNext_list_item st p.isList (x := u) (by simpa using hu) fun h' st' sb => ?_
    have I1 : Inv X pins σ H { s with heap := h' } := I.turned (t' := s.toks) (fun b o hb e => (sb.2 b hb).trans e) f0 f1 f3 f4 f5
    obtain ⟨o, e, c, d⟩ := id st'
    exact ⟨u, rfl, go_of (s := { s with heap := h' }) e c d (by decide) ⟨x, H, I1, ru, ⟨rfl, fun ys hy => by rw [I.list_inj hy hq]; exact hx⟩, st', fun b hb => (hf b hb).1⟩⟩
  done := by
    intro X hP hw hK hc i pins s σ H E I hf st hg
    subst hP hw hK
    obtain ⟨xs, hq, hx⟩ := hg
    obtain ⟨its, rv, p, hz⟩ := I.list hq
    obtain ⟨f0, f1, f2, f3, f4, f5⟩ := hf it (by simp)
    have hl := rv.length
    exact wpAny_pyNext_list_end (I.ok.hd hc) st p.isList (by simp; omega) fun h' eb => ⟨rfl, I.turned (t' := s.toks) (fun b o hb e => eb b o hb e) f0 f1 f3 f4 f5⟩
  self := fun _ _ _ _ _ st h => wpAny_pyIter_listiter st h
theorem turn_range {P : Program} {w : World} {K : PySem.W.Frag} {tg : Expr} (it : Addr) (lo : Int) (n : Nat) : Turn P w K tg (Itr lo n) [it] it (fun i h => IsRangeIter h it (lo + (i : Nat) * 1) ((n : Int) - (i : Nat)) 1) where
  mem := by simp
  obj := fun i h st b hb => by
    have e : b = it := by simpa using hb
    subst e
    exact ⟨_, st, fun v z => by
      have z' : Data.fields _ = Data.cell v := z
      cases z'⟩
  keep := fun i h h' st k => k it (by simp) _ st
  item := by
    intro X hP hw hK hc i pins s σ H E I hf st hg
    subst hP hw hK
    obtain ⟨f0, f1, f2, f3, f4, f5⟩ := hf it (by simp)
    have W := Walks.range (prog := X.prog) (w := X.w) (I.ok.hd hc) it lo 1 n
    refine W.item i s _ _ hg st fun v h' tk hv st' kk => ?_
    obtain ⟨t, rfl⟩ := hv
    have I1 : Inv X pins σ H { s with heap := h', toks := tk } := I.turned (fun b o hb e => kk b o (by simpa using hb) e) f0 f1 f3 f4 f5
    refine ⟨_, rfl, go_of (s := { s with heap := h', toks := tk }) (n := "range_iterator") st' rfl rfl (by decide) ⟨.int (lo + i), H, I1, ⟨t, ?_⟩, ⟨rfl, rfl⟩, st', fun b hb => (hf b hb).1⟩⟩
    rw [Int.mul_one]
  done := by
    intro X hP hw hK hc i pins s σ H E I hf st hg
    subst hP hw hK
    obtain ⟨f0, f1, f2, f3, f4, f5⟩ := hf it (by simp)
    exact wpAny_pyNext_range_end (I.ok.hd hc) st (by have : n ≤ i := hg; omega) fun h' eb => ⟨rfl, I.turned (t' := s.toks) (fun b o hb e => eb b o hb e) f0 f1 f3 f4 f5⟩
  self := fun _ _ _ _ _ st h => wpAny_pyIter_rangeiter st h
end L2
namespace L2
open PySem PySem.Spec PyProof.Rows
section
variable {X : Cx} {tg : Expr}
def iList (K : PySem.W.Frag) (tl : TE) : TI := fun σ H R => tl σ H fun x H1 => ∃ a, x = .ref a ∧ (∃ xs, SqL K H1 a xs) ∧ R (Itl K a) H1
def iTup (K : PySem.W.Frag) (tl : TE) : TI := fun σ H R => tl σ H fun x H1 => ∃ a, x = .ref a ∧ (∃ xs, SqT K H1 a xs) ∧ R (Itt K a) H1
theorem pi_list {l : Expr} {tl : TE} (hl : PE X l tl) : PI X tg l (iList X.K tl) := by
  intro pins s σ H R I h
  refine thn (hl pins s σ H _ I h) fun v s1 ⟨x, H1, I1, r1, q1⟩ => ?_
  obtain ⟨a, e, ⟨xs, hq⟩, q⟩ := q1
  subst e
  cases r1
  obtain ⟨its, rv, p, hz⟩ := I1.list hq
  refine wpAny_pyIter_list p.isList ?_
  refine ⟨s1.heap.objs.size, [s1.heap.objs.size], _, _, H1, rfl, I1.kept (t' := s1.toks) fun b o e => Heap.get?_push_of_some _ e, turn_list a _, ⟨_, Heap.get?_push_size _ rfl, rfl, rfl⟩, fun b hb => ?_, q⟩
  have e : b = s1.heap.objs.size := by simpa using hb
  subst e
  exact I1.fpOk (Nat.le_refl _) (I1.hok.fresh (Nat.le_refl _))
theorem range_it {pins : List (Addr × Obj)} {σ : St} {H : Hp} {s : Shared} {R : It → Hp → Prop} {E : Value → Shared → Prop} {lo hi : Int} {t u v : Tok} {tk : Nat} (I : Inv X pins σ H s) (h1 : -(2 ^ 62) ≤ lo) (h2 : lo < 2 ^ 62) (h3 : -(2 ^ 62) ≤ hi) (h4 : hi < 2 ^ 62)
    (q : R (Itr lo (hi - lo).toNat) H) : wpAny (model X.prog X.w) X.A (pyIter (.ref s.heap.objs.size)) (PIE X pins σ tg R) E { s with heap := s.heap.push { cls := .type "range", data := .fields #[.int lo t, .int hi u, .int 1 v] }, toks := tk } := by
  refine wpAny_pyIter_range (IsRange.new ..) (small_one h1 h2 h3 h4) ?_
  have I1 : Inv X pins σ H { s with heap := s.heap.push { cls := .type "range", data := .fields #[.int lo t, .int hi u, .int 1 v] }, toks := tk } := I.kept fun b o e => Heap.get?_push_of_some _ e
  refine ⟨(s.heap.push { cls := .type "range", data := .fields #[.int lo t, .int hi u, .int 1 v] }).objs.size, [(s.heap.push { cls := .type "range", data := .fields #[.int lo t, .int hi u, .int 1 v] }).objs.size], _, _, H, rfl,
    I1.kept (t' := tk) fun b o e => Heap.get?_push_of_some _ e, turn_range _ lo (hi - lo).toNat, ?_, fun b hb => ?_, q⟩
  · have e1 : lo + ((0 : Nat) : Int) * 1 = lo := by simp
    have e2 : (((hi - lo).toNat : Nat) : Int) - ((0 : Nat) : Int) = Builtin.Range.rangeSize lo hi 1 := by rw [rangeSize_one]; split <;> omega
    show IsRangeIter _ _ (lo + ((0 : Nat) : Int) * 1) ((((hi - lo).toNat : Nat) : Int) - ((0 : Nat) : Int)) 1
    rw [e1, e2]
    exact Heap.get?_push_size _ rfl
  · have e : b = (s.heap.push { cls := .type "range", data := .fields #[.int lo t, .int hi u, .int 1 v] }).objs.size := by simpa using hb
    subst e
    exact I1.fpOk (Nat.le_refl _) (I1.hok.fresh (Nat.le_refl _))
def iRng1 (ta : TA) : TI := fun σ H R => ta σ H fun vs H1 => ∃ j : Int, vs = [.int j] ∧ -(2 ^ 62) ≤ j ∧ j < 2 ^ 62 ∧ R (Itr 0 j.toNat) H1
def iRng2 (ta : TA) : TI := fun σ H R => ta σ H fun vs H1 => ∃ i j : Int, vs = [.int i, .int j] ∧ (-(2 ^ 62) ≤ i ∧ i < 2 ^ 62 ∧ -(2 ^ 62) ≤ j ∧ j < 2 ^ 62) ∧ R (Itr i (j - i).toNat) H1
theorem pi_range1 {a : Expr} {ta : TA} {p pos : Pos} (hg : Gl X "range") (hm : X.mg "range" = none) (ha : PA X [a] ta) (hs : starEach [a] X.env = [(false, eval a X.env)] := by rfl) : PI X tg (.Call (.Name "range" p) [a] [] pos) (iRng1 ta) := by
  intro pins s σ H R I h
  refine Call_ (ld_blt I hg hm boot_range (PyProof.Rows.callWith_type1 (thn (ha pos pins s σ H _ I h) fun us s1 ⟨vs, H1, I1, r1, q1⟩ => ?_) hs rfl))
  obtain ⟨j, e, q1, q2, q⟩ := q1
  subst e
  cases r1 with
  | cons r rr =>
    cases rr
    obtain ⟨t, rfl⟩ := r
    exact call_range_1 (range_it I1 (by omega) (by omega) q1 q2 (by simpa using q))
def tFor (wi : TI) (g : TG) (tb : TS) : TS := fun D σ H => wi σ H fun J H1 => ∃ W : Nat → Nat → St → Hp → Prop, (∃ m, W 0 m σ H1) ∧ ∀ i m σ H, W i m σ H →
  (J.stop i H ∧ D.nx σ H) ∨ (J.go i H ∧ ∃ N : St → Hp → Prop, (∀ σ' H', N σ' H' → ∃ m', m' < m ∧ W (i + 1) m' σ' H') ∧ ∀ x H', J.yld i H x H' → g x σ H' fun σ2 H2 => tb { D with nx := N, ct := N, bk := D.nx } σ2 H2)
def pinsAt (fp : List Addr) (h : Heap) : List (Addr × Obj) := fp.filterMap fun b => (h.get? b).map fun o => (b, o)
theorem mem_pinsAt {fp : List Addr} {h : Heap} {b : Addr} {o : Obj} (hb : b ∈ fp) (e : h.get? b = some o) : (b, o) ∈ pinsAt fp h := List.mem_filterMap.mpr ⟨b, hb, by rw [e]; rfl⟩
theorem of_pinsAt {fp : List Addr} {h : Heap} {p : Addr × Obj} (hp : p ∈ pinsAt fp h) : p.1 ∈ fp ∧ h.get? p.1 = some p.2 := by
  obtain ⟨b, hb, e⟩ := List.mem_filterMap.mp hp
  cases q : h.get? b with
  | none => rw [q] at e; cases e
  | some o =>
    rw [q] at e
    have e' : (b, o) = p := Option.some.inj e
    subst e'
    exact ⟨hb, q⟩
theorem Inv.pinned {pins : List (Addr × Obj)} {σ : St} {H : Hp} {s : Shared} {fp : List Addr} (I : Inv X pins σ H s) (hf : ∀ b ∈ fp, FpOk X pins H b) (ho : ∀ b ∈ fp, ∃ o, s.heap.get? b = some o ∧ ∀ v, o.data ≠ .cell v) : Inv X (pins ++ pinsAt fp s.heap) σ H s :=
  I.pins_of fun p hp => (List.mem_append.mp hp).elim (fun z => I.pin p (List.mem_append_right _ z)) fun z => by
    obtain ⟨hb, e⟩ := of_pinsAt z
    obtain ⟨f0, f1, f2, _⟩ := hf p.1 hb
    obtain ⟨o, e', d⟩ := ho p.1 hb
    rw [e] at e'; cases e'
    exact ⟨e, f0, f1, f2, d⟩
theorem Inv.unpinned {pins pl : List (Addr × Obj)} {σ : St} {H : Hp} {s : Shared} (I : Inv X (pins ++ pl) σ H s) : Inv X pins σ H s := I.pins_of fun p hp => I.pin p (List.mem_append_right _ (List.mem_append_left _ hp))
theorem ps_for {iter : Expr} {body : List Stmt} {wi : TI} {g : TG} {tb : TS} {pos : Pos} (hp : PassesOwn (model X.prog X.w) X.A X.env X.xe) (hc : X.calm = true) (hi : PI X tg iter wi) (hg : PG X tg g) (hb : PSs X body tb)
    (hs : ∀ x, foldedSetIterable iter X.env x = pure x := by intro _; rfl) : PS X (.For tg iter body [] pos) (tFor wi g tb) := by
  intro pins s σ H D I h
  refine wpAny_For (thn (hi pins s σ H _ I h) fun v s1 h1 => thn h1 fun itv s2 h2 => ?_) hs
  obtain ⟨it, fp, tn, J, H2, e, I2, T, st2, f2, W, ⟨m0, w0⟩, turn⟩ := h2
  subst e
  have stat : ∀ {H' : Hp}, (∀ b ∈ fp, H' b = none) → ∀ b ∈ fp, FpOk X pins H' b := fun hn b hb => ⟨hn b hb, (f2 b hb).2⟩
  refine codeAny_forLoop_any (fun n s' => ∃ i σ' H', Inv X pins σ' H' s' ∧ tn i s'.heap ∧ (∀ b ∈ fp, H' b = none) ∧ W i n σ' H') ?_ m0 ⟨0, σ, H2, I2, st2, fun b hb => (f2 b hb).1, w0⟩
  rintro n s3 ⟨i, σ3, H3, I3, st3, fr3, w3⟩
  rcases turn i n σ3 H3 w3 with ⟨stop, qn⟩ | ⟨go, N, hN, step⟩
  · refine wpAny_passesOwn hp (thn (T.done X rfl rfl rfl hc i pins s3 σ3 H3 X.xe I3 (stat fr3) st3 stop) fun r s4 ⟨hr, I4⟩ => ?_)
    subst hr
    exact wpAny_execs_nil ⟨σ3, H3, I4, qn⟩
  · refine wpAny_passesOwn hp (thn (T.item X rfl rfl rfl hc i pins s3 σ3 H3 X.xe I3 (stat fr3) st3 go) fun r s4 ⟨u, hr, h4⟩ => ?_)
    subst hr
    refine wpAny_passesOwn hp (thn h4 fun _ s5 ⟨x, H5, I5, r5, y5, st5, fr5⟩ => ?_)
    have I5' := I5.pinned (stat fr5) (T.obj _ _ st5)
    refine wpAny_passesOwn hp (thn (hg _ s5 σ3 H5 x u _ I5' r5 (step x H5 y5)) fun _ s6 ⟨σ6, H6, I6, q6⟩ => ?_)
    refine wpAny_passesOwn hp (thn (hb _ s6 σ6 H6 _ I6 q6) fun f s7 q7 => ?_)
    have again : ∀ {σ7 : St} {H7 : Hp}, Inv X (pins ++ pinsAt fp s5.heap) σ7 H7 s7 → N σ7 H7 → ∃ m, m < n ∧ ∃ i σ' H', Inv X pins σ' H' s7 ∧ tn i s7.heap ∧ (∀ b ∈ fp, H' b = none) ∧ W i m σ' H' := fun {σ7 H7} I7 n7 => by
      obtain ⟨m', hm, w7⟩ := hN σ7 H7 n7
      refine ⟨m', hm, i + 1, σ7, H7, I7.unpinned, T.keep _ _ _ st5 fun b hb o e => (I7.pin (b, o) (List.mem_append_right _ (List.mem_append_right _ (mem_pinsAt hb e)))).1, fun b hb => ?_, w7⟩
      obtain ⟨o, e, d⟩ := T.obj _ _ st5 b hb
      exact (I7.pin (b, o) (List.mem_append_right _ (List.mem_append_right _ (mem_pinsAt hb e)))).2.1
    cases f with
    | next => obtain ⟨σ7, H7, I7, n7⟩ := q7; exact again I7 n7
    | cont => obtain ⟨σ7, H7, I7, n7⟩ := q7; exact again I7 n7
    | brk => obtain ⟨σ7, H7, I7, q7⟩ := q7; exact ⟨σ7, H7, I7.unpinned, q7⟩
    | ret v => obtain ⟨x7, σ7, H7, I7, r7, q7⟩ := q7; exact ⟨x7, σ7, H7, I7.unpinned, r7, q7⟩
end
theorem for_list {K : PySem.W.Frag} {a : Addr} {xs : List V} {g : TG} {tb : TS} {D : Ends} {σ : St} {H : Hp} (Pv : Nat → St → Hp → Prop) (h0 : Pv 0 σ H) (hl : ∀ i σ H, i ≤ xs.length → Pv i σ H → SqL K H a xs)
    (hs : ∀ i x σ H, xs[i]? = some x → Pv i σ H → g x σ H fun σ2 H2 => tb { D with nx := Pv (i + 1), ct := Pv (i + 1), bk := D.nx } σ2 H2) (hd : ∀ σ H, Pv xs.length σ H → D.nx σ H) :
    ∃ W : Nat → Nat → St → Hp → Prop, (∃ m, W 0 m σ H) ∧ ∀ i m σ H, W i m σ H →
      ((Itl K a).stop i H ∧ D.nx σ H) ∨ ((Itl K a).go i H ∧ ∃ N : St → Hp → Prop, (∀ σ' H', N σ' H' → ∃ m', m' < m ∧ W (i + 1) m' σ' H') ∧ ∀ x H', (Itl K a).yld i H x H' → g x σ H' fun σ2 H2 => tb { D with nx := N, ct := N, bk := D.nx } σ2 H2) := by
  refine ⟨fun i m σ H => m = xs.length - i ∧ i ≤ xs.length ∧ Pv i σ H, ⟨xs.length, by simp, Nat.zero_le _, h0⟩, ?_⟩
  rintro i m σ H ⟨rfl, hi, p⟩
  have q := hl i σ H hi p
  by_cases hlt : i < xs.length
  · refine .inr ⟨⟨xs, xs[i], q, by simp [hlt]⟩, Pv (i + 1), fun σ' H' p' => ⟨xs.length - (i + 1), by omega, rfl, hlt, p'⟩, fun x H' y => ?_⟩
    obtain ⟨e, y⟩ := y
    subst e
    exact hs i x σ _ (y xs q) p
  · have e : i = xs.length := by omega
    subst e
    exact .inl ⟨⟨xs, q, Nat.le_refl _⟩, hd σ H p⟩
theorem for_range {lo : Int} {n : Nat} {g : TG} {tb : TS} {D : Ends} {σ : St} {H : Hp} (Pv : Nat → St → Hp → Prop) (h0 : Pv 0 σ H)
    (hs : ∀ i σ H, i < n → Pv i σ H → g (.int (lo + i)) σ H fun σ2 H2 => tb { D with nx := Pv (i + 1), ct := Pv (i + 1), bk := D.nx } σ2 H2) (hd : ∀ σ H, Pv n σ H → D.nx σ H) :
    ∃ W : Nat → Nat → St → Hp → Prop, (∃ m, W 0 m σ H) ∧ ∀ i m σ H, W i m σ H →
      ((Itr lo n).stop i H ∧ D.nx σ H) ∨ ((Itr lo n).go i H ∧ ∃ N : St → Hp → Prop, (∀ σ' H', N σ' H' → ∃ m', m' < m ∧ W (i + 1) m' σ' H') ∧ ∀ x H', (Itr lo n).yld i H x H' → g x σ H' fun σ2 H2 => tb { D with nx := N, ct := N, bk := D.nx } σ2 H2) := by
  refine ⟨fun i m σ H => m = n - i ∧ i ≤ n ∧ Pv i σ H, ⟨n, by simp, Nat.zero_le _, h0⟩, ?_⟩
  rintro i m σ H ⟨rfl, hi, p⟩
  by_cases hlt : i < n
  · refine .inr ⟨hlt, Pv (i + 1), fun σ' H' p' => ⟨n - (i + 1), by omega, rfl, hlt, p'⟩, fun x H' y => ?_⟩
    obtain ⟨e, y⟩ := y
    subst e y
    exact hs i σ _ hlt p
  · have e : i = n := by omega
    subst e
    exact .inl ⟨Nat.le_refl _, hd σ H p⟩
end L2
namespace L2
open PySem PySem.Spec PyProof.Rows
abbrev R2 := V → V → Hp → VK → Prop
def OpR (X : Cx) (f : Value → Value → Sem Value) (r : R2) : Prop :=
  ∀ (pins : List (Addr × Obj)) (s : Shared) (σ : St) (H : Hp) (x y : V) (v u : Value) (Q : VK), Inv X pins σ H s → RelV x v → RelV y u → r x y H Q →
    wpAny (model X.prog X.w) X.A (f v u) (EP X pins σ Q) X.xe s
def UnR (X : Cx) (f : Value → Sem Value) (r : V → Hp → VK → Prop) : Prop :=
  ∀ (pins : List (Addr × Obj)) (s : Shared) (σ : St) (H : Hp) (x : V) (v : Value) (Q : VK), Inv X pins σ H s → RelV x v → r x H Q →
    wpAny (model X.prog X.w) X.A (f v) (EP X pins σ Q) X.xe s
def CallR (X : Cx) (f : Value) (r : List V → Hp → VK → Prop) : Prop :=
  ∀ (pins : List (Addr × Obj)) (s : Shared) (σ : St) (H : Hp) (xs : List V) (us : List Value) (Q : VK), Inv X pins σ H s → Vals xs us → r xs H Q →
    wpAny (model X.prog X.w) X.A (call f us) (EP X pins σ Q) X.xe s
def TruR (X : Cx) (r : V → Hp → (Bool → Hp → Prop) → Prop) : Prop :=
  ∀ (pins : List (Addr × Obj)) (s : Shared) (σ : St) (H : Hp) (x : V) (v : Value) (Q : Bool → Hp → Prop), Inv X pins σ H s → RelV x v → r x H Q →
    wpAny (model X.prog X.w) X.A (truthy v) (TP X pins σ Q) X.xe s
def tOp (r : R2) (ta tb : TE) : TE := fun σ H Q => ta σ H fun x H1 => tb σ H1 fun y H2 => r x y H2 Q
def tUn (r : V → Hp → VK → Prop) (ta : TE) : TE := fun σ H Q => ta σ H fun x H1 => r x H1 Q
def rI (C : Int → Int → Prop) (g : Int → Int → V) : R2 := fun x y H Q => ∃ i j, x = .int i ∧ y = .int j ∧ C i j ∧ Q (g i j) H
def rI0 (g : Int → Int → V) : R2 := fun x y H Q => ∃ i j, x = .int i ∧ y = .int j ∧ Q (g i j) H
def rU (g : Int → V) : V → Hp → VK → Prop := fun x H Q => ∃ i, x = .int i ∧ Q (g i) H
section
variable {X : Cx} {a b c : Expr} {ta tb tc : TE} {pos : Pos}
theorem binT (ha : PE X a ta) (hb : PE X b tb) {pins : List (Addr × Obj)} {s : Shared} {σ : St} {H : Hp} {R : V → V → Hp → Prop} (I : Inv X pins σ H s)
    (h : ta σ H fun x H1 => tb σ H1 fun y H2 => R x y H2) {Q : Value → Shared → Prop} {f : Value → Value → Sem Value}
    (hf : ∀ v u s2 x y H2, Inv X pins σ H2 s2 → RelV x v → RelV y u → R x y H2 → wpAny (model X.prog X.w) X.A (f v u) Q X.xe s2) :
    wpAny (model X.prog X.w) X.A (eval a X.env) (fun v s₁ => wpAny (model X.prog X.w) X.A (eval b X.env) (fun u s₂ => wpAny (model X.prog X.w) X.A (f v u) Q X.xe s₂) X.xe s₁) X.xe s := by
  refine thn (ha pins s σ H _ I h) fun v s1 ⟨x, H1, I1, r1, q1⟩ => ?_
  refine thn (hb pins s1 σ H1 _ I1 q1) fun u s2 ⟨y, H2, I2, r2, q2⟩ => ?_
  exact hf v u s2 x y H2 I2 r1 r2 q2
theorem pe_op {op : Operator} {r : R2} (ho : OpR X (binaryOp op) r) (ha : PE X a ta) (hb : PE X b tb) : PE X (.BinOp a op b pos) (tOp r ta tb) := by
  intro pins s σ H Q I h
  exact wpAny_BinOp (binT ha hb I h fun v u s2 x y H2 I2 rx ry q => ho pins s2 σ H2 x y v u Q I2 rx ry q)
theorem pe_un {op : UnaryOp} {r : V → Hp → VK → Prop} (ho : UnR X (unaryOp op) r) (ha : PE X a ta) : PE X (.UnaryOp op a pos) (tUn r ta) := by
  intro pins s σ H Q I h
  exact UnaryOp_ (thn (ha pins s σ H _ I h) fun v s1 ⟨x, H1, I1, r1, q1⟩ => ho pins s1 σ H1 x v Q I1 r1 q1)
theorem opI {f : Value → Value → Sem Value} {C : Int → Int → Prop} {g : Int → Int → Int}
    (rule : ∀ (i j : Int) (t u : Tok) (s : Shared) (Q : Value → Shared → Prop) (E : Value → Shared → Prop), C i j → Q (.int (g i j) s.toks) { s with toks := s.toks + 1 } → wpAny (model X.prog X.w) X.A (f (.int i t) (.int j u)) Q E s) :
    OpR X f (rI C fun i j => .int (g i j)) := by
  intro pins s σ H x y v u Q I rx ry h
  obtain ⟨i, j, rfl, rfl, hc, q⟩ := h
  obtain ⟨t, rfl⟩ := rx
  obtain ⟨t', rfl⟩ := ry
  exact rule i j t t' s _ _ hc ⟨.int (g i j), H, I.tok _, ⟨_, rfl⟩, q⟩
theorem opI0 {f : Value → Value → Sem Value} {g : Int → Int → Int}
    (rule : ∀ (i j : Int) (t u : Tok) (s : Shared) (Q : Value → Shared → Prop) (E : Value → Shared → Prop), Q (.int (g i j) s.toks) { s with toks := s.toks + 1 } → wpAny (model X.prog X.w) X.A (f (.int i t) (.int j u)) Q E s) :
    OpR X f (rI0 fun i j => .int (g i j)) := by
  intro pins s σ H x y v u Q I rx ry h
  obtain ⟨i, j, rfl, rfl, q⟩ := h
  obtain ⟨t, rfl⟩ := rx
  obtain ⟨t', rfl⟩ := ry
  exact rule i j t t' s _ _ ⟨.int (g i j), H, I.tok _, ⟨_, rfl⟩, q⟩
theorem opB0 {f : Value → Value → Sem Value} {g : Int → Int → Bool}
    (rule : ∀ (i j : Int) (t u : Tok) (s : Shared) (Q : Value → Shared → Prop) (E : Value → Shared → Prop), Q (.bool (g i j)) s → wpAny (model X.prog X.w) X.A (f (.int i t) (.int j u)) Q E s) :
    OpR X f (rI0 fun i j => .bl (g i j)) := by
  intro pins s σ H x y v u Q I rx ry h
  obtain ⟨i, j, rfl, rfl, q⟩ := h
  obtain ⟨t, rfl⟩ := rx
  obtain ⟨t', rfl⟩ := ry
  exact rule i j t t' s _ _ ⟨.bl (g i j), H, I, rfl, q⟩
def CDiv (i j : Int) : Prop := 0 < j ∧ j < 1073741824
def CDivN (i j : Int) : Prop := j ≠ 0 ∧ j.natAbs < 1073741824
def CPow (i j : Int) : Prop := 0 ≤ j ∧ j ≤ 1000000 ∧ i.natAbs < 2 ^ 64
def CMul (i j : Int) : Prop := (-(2 ^ 64) < i ∧ i < 2 ^ 64) ∨ (-(2 ^ 64) < j ∧ j < 2 ^ 64)
theorem op_add : OpR X (binaryOp .Add) (rI0 fun i j => .int (i + j)) := opI0 fun _ _ _ _ _ _ _ q => add_int q
theorem op_sub : OpR X (binaryOp .Sub) (rI0 fun i j => .int (i - j)) := opI0 fun _ _ _ _ _ _ _ q => sub_int q
theorem op_mod : OpR X (binaryOp .Mod) (rI (fun _ j => 0 < j) fun i j => .int (i % j)) := opI fun i j _ _ _ _ _ hc q => by
  have h1 : (0 : Int) < j := hc
  exact mod_int' (by omega) (by rw [Int.fmod_eq_emod_of_nonneg i (by omega)]; exact q)
theorem op_pow : OpR X (binaryOp .Pow) (rI CPow fun i j => .int (i ^ j.toNat)) := opI fun _ _ _ _ _ _ _ hc q => pow_int_small hc.1 hc.2.1 hc.2.2 q
theorem unI {f : Value → Sem Value} {g : Int → Int}
    (rule : ∀ (i : Int) (t : Tok) (s : Shared) (Q : Value → Shared → Prop) (E : Value → Shared → Prop), Q (.int (g i) s.toks) { s with toks := s.toks + 1 } → wpAny (model X.prog X.w) X.A (f (.int i t)) Q E s) :
    UnR X f (rU fun i => .int (g i)) := by
  intro pins s σ H x v Q I rx h
  obtain ⟨i, rfl, q⟩ := h
  obtain ⟨t, rfl⟩ := rx
  exact rule i t s _ _ ⟨.int (g i), H, I.tok _, ⟨_, rfl⟩, q⟩
theorem un_neg : UnR X (unaryOp .USub) (rU fun i => .int (-i)) := unI fun _ _ _ _ _ q => neg_int q
end
def scal : V → V → Bool
  | .non, .non => true | .non, .int _ => true | .int _, .non => true | .non, .bl _ => true | .bl _, .non => true | .non, .str _ => true | .str _, .non => true
  | .int _, .int _ => true | .bl _, .bl _ => true | .str _, .str _ => true | .byt _, .byt _ => true
  | .int _, .str _ => true | .str _, .int _ => true | .bl _, .str _ => true | .str _, .bl _ => true
  | _, _ => false
def rEq : R2 := fun x y H Q => scal x y = true ∧ Q (.bl (decide (x = y))) H
def rNe : R2 := fun x y H Q => scal x y = true ∧ Q (.bl (!decide (x = y))) H
theorem dec_int {i j : Int} : decide (V.int i = V.int j) = (i == j) := by
  rw [Bool.eq_iff_iff]
  simp
theorem dec_bl {i j : Bool} : decide (V.bl i = V.bl j) = (i == j) := by
  rw [Bool.eq_iff_iff]
  simp
theorem dec_str {i j : Str} : decide (V.str i = V.str j) = (i == j) := by
  rw [Bool.eq_iff_iff]
  simp
theorem dec_byt {i j : Array UInt8} : decide (V.byt i = V.byt j) = (i.toList == j.toList) := by
  rw [Bool.eq_iff_iff]
  cases i
  cases j
  simp
section
variable {X : Cx} {a b c : Expr} {ta tb tc : TE} {pos : Pos}
theorem fin_bl {pins : List (Addr × Obj)} {σ : St} {H : Hp} {s : Shared} {Q : VK} {k k' : Bool} (I : Inv X pins σ H s) (q : Q (.bl k) H) (e : k = k') : EP X pins σ Q (.bool k') s := by
  subst e
  exact ⟨.bl k, H, I, rfl, q⟩
theorem op_eq : OpR X (compareOp .Eq) rEq := by
  intro pins s σ H x y v u Q I rx ry h
  obtain ⟨hs, q⟩ := h
  cases x with
  | non =>
    cases rx
    cases y with
    | non => cases ry; exact PySem.EqNone.eq_none_none (fin_bl I q (by simp))
    | bl j => cases ry; exact PySem.EqNone.eq_none_bool (fin_bl I q (by simp))
    | int j => obtain ⟨t', rfl⟩ := ry; exact PySem.EqNone.eq_none_int (fin_bl I q (by simp))
    | str j => obtain ⟨t', rfl⟩ := ry; exact PySem.EqNone.eq_none_str (fin_bl I q (by simp))
    | _ => exact absurd (show false = true from hs) Bool.false_ne_true
  | bl i =>
    cases rx
    cases y with
    | non => cases ry; exact PySem.EqNone.eq_bool_none (fin_bl I q (by simp))
    | bl j => cases ry; exact eq_bool (fin_bl I q dec_bl)
    | str j => obtain ⟨t', rfl⟩ := ry; exact PySem.EqMixed.eq_bool_str (fin_bl I q (by simp))
    | _ => exact absurd (show false = true from hs) Bool.false_ne_true
  | int i =>
    obtain ⟨t, rfl⟩ := rx
    cases y with
    | non => cases ry; exact PySem.EqNone.eq_int_none (fin_bl I q (by simp))
    | int j => obtain ⟨t', rfl⟩ := ry; exact eq_int (fin_bl I q dec_int)
    | str j => obtain ⟨t', rfl⟩ := ry; exact PySem.EqMixed.eq_int_str (fin_bl I q (by simp))
    | _ => exact absurd (show false = true from hs) Bool.false_ne_true
  | str i =>
    obtain ⟨t, rfl⟩ := rx
    cases y with
    | non => cases ry; exact PySem.EqNone.eq_str_none (fin_bl I q (by simp))
    | bl j => cases ry; exact PySem.EqMixed.eq_str_bool (fin_bl I q (by simp))
    | int j => obtain ⟨t', rfl⟩ := ry; exact PySem.EqMixed.eq_str_int (fin_bl I q (by simp))
    | str j => obtain ⟨t', rfl⟩ := ry; exact eq_str (fin_bl I q dec_str)
    | _ => exact absurd (show false = true from hs) Bool.false_ne_true
  | byt i =>
    obtain ⟨t, rfl⟩ := rx
    cases y with
    | byt j => obtain ⟨t', rfl⟩ := ry; exact PySem.W.eq_bytes (fin_bl I q dec_byt)
    | _ => exact absurd (show false = true from hs) Bool.false_ne_true
  | _ => cases y <;> exact absurd (show false = true from hs) Bool.false_ne_true
theorem op_ne : OpR X (compareOp .NotEq) rNe := by
  intro pins s σ H x y v u Q I rx ry h
  obtain ⟨hs, q⟩ := h
  cases x with
  | non =>
    cases rx
    cases y with
    | non => cases ry; exact PySem.EqNone.ne_none_none (fin_bl I q (by simp))
    | bl j => cases ry; exact PySem.EqNone.ne_none_bool (fin_bl I q (by simp))
    | int j => obtain ⟨t', rfl⟩ := ry; exact PySem.EqNone.ne_none_int (fin_bl I q (by simp))
    | str j => obtain ⟨t', rfl⟩ := ry; exact PySem.EqNone.ne_none_str (fin_bl I q (by simp))
    | _ => exact absurd (show false = true from hs) Bool.false_ne_true
  | bl i =>
    cases rx
    cases y with
    | non => cases ry; exact PySem.EqNone.ne_bool_none (fin_bl I q (by simp))
    | bl j => cases ry; exact ne_bool (fin_bl I q (congrArg not dec_bl))
    | str j => obtain ⟨t', rfl⟩ := ry; exact PySem.EqMixed.ne_bool_str (fin_bl I q (by simp))
    | _ => exact absurd (show false = true from hs) Bool.false_ne_true
  | int i =>
    obtain ⟨t, rfl⟩ := rx
    cases y with
    | non => cases ry; exact PySem.EqNone.ne_int_none (fin_bl I q (by simp))
    | int j => obtain ⟨t', rfl⟩ := ry; exact ne_int (fin_bl I q (congrArg not dec_int))
    | str j => obtain ⟨t', rfl⟩ := ry; exact PySem.EqMixed.ne_int_str (fin_bl I q (by simp))
    | _ => exact absurd (show false = true from hs) Bool.false_ne_true
  | str i =>
    obtain ⟨t, rfl⟩ := rx
    cases y with
    | non => cases ry; exact PySem.EqNone.ne_str_none (fin_bl I q (by simp))
    | bl j => cases ry; exact PySem.EqMixed.ne_str_bool (fin_bl I q (by simp))
    | int j => obtain ⟨t', rfl⟩ := ry; exact PySem.EqMixed.ne_str_int (fin_bl I q (by simp))
    | str j => obtain ⟨t', rfl⟩ := ry; exact ne_str (fin_bl I q (congrArg not dec_str))
    | _ => exact absurd (show false = true from hs) Bool.false_ne_true
  | byt i =>
    obtain ⟨t, rfl⟩ := rx
    cases y with
    | byt j => obtain ⟨t', rfl⟩ := ry; exact PySem.W.ne_bytes (fin_bl I q (congrArg not dec_byt))
    | _ => exact absurd (show false = true from hs) Bool.false_ne_true
  | _ => cases y <;> exact absurd (show false = true from hs) Bool.false_ne_true
theorem op_lt : OpR X (compareOp .Lt) (rI0 fun i j => .bl (decide (i < j))) := opB0 fun _ _ _ _ _ _ _ q => lt_int q
theorem op_gt : OpR X (compareOp .Gt) (rI0 fun i j => .bl (decide (j < i))) := opB0 fun _ _ _ _ _ _ _ q => gt_int q
def isObj : HO → Bool
  | .lst _ => true
  | .ins _ _ _ => true
  | _ => false
theorem nomark (b : Expr) {op : CmpOp} (h : op ≠ .In := by decide) (h2 : op ≠ .NotIn := by decide) : behindInMarks op b = false := by
  have e1 : (op == CmpOp.In) = false := by cases op <;> first | rfl | exact absurd rfl h
  have e2 : (op == CmpOp.NotIn) = false := by cases op <;> first | rfl | exact absurd rfl h2
  cases b <;> simp [behindInMarks, e1, e2]
theorem pe_cmpR {op : CmpOp} {r : R2} (ho : OpR X (compareOp op) r) (ha : PE X a ta) (hb : PE X b tb) (hm : behindInMarks op b = false) : PE X (.Compare a [op] [b] pos) (tOp r ta tb) := by
  intro pins s σ H Q I h
  exact wpAny_Compare1 (binT ha hb I h fun v u s2 x y H2 I2 rx ry q => ho pins s2 σ H2 x y v u Q I2 rx ry q) hm
def tTest (t : TE) : TT := fun σ H Q => t σ H fun x H' => ∃ k, x = .bl k ∧ Q k H'
theorem pt_cmpR {op : CmpOp} {r : R2} (ho : OpR X (compareOp op) r) (ha : PE X a ta) (hb : PE X b tb) (hm : behindInMarks op b = false) : PT X (.Compare a [op] [b] pos) (tTest (tOp r ta tb)) := by
  intro pins s σ H Q I h
  refine wpAny_isTrue_Compare1 (thn (ha pins s σ H _ I h) fun v s1 ⟨x, H1, I1, r1, q1⟩ => thn (hb pins s1 σ H1 _ I1 q1) fun u s2 ⟨y, H2, I2, r2, q2⟩ =>
    thn (ho pins s2 σ H2 x y v u _ I2 r1 r2 q2) fun c s3 ⟨z, H3, I3, r3, k, e, q3⟩ => ?_) hm
  subst e
  cases r3
  exact wpAny_truthy_bool ⟨H3, I3, q3⟩
def tChain (r r' : R2) (ta tb tc : TE) : TE := fun σ H Q => ta σ H fun x H1 => tb σ H1 fun y H2 => r x y H2 fun z H3 => ∃ k, z = .bl k ∧
  (if k = true then tc σ H3 fun w' H4 => r' y w' H4 Q else Q (.bl false) H3)
def TruV (K : PySem.W.Frag) (x : V) (H : Hp) (k : Bool) : Prop :=
  match x with
  | .non => k = false
  | .bl b => k = b
  | .int i => k = (i != 0)
  | .str y => y.length ≤ sizeLine ∧ k = ((y.length : Int) != 0)
  | .byt y => y.size ≤ sizeLine ∧ k = ((y.size : Int) != 0)
  | .ref p => (∃ xs, SqL K H p xs ∧ k = !xs.isEmpty) ∨ (∃ xs, SqT K H p xs ∧ k = !xs.isEmpty) ∨ ∃ kvs, H p = some (.dK kvs) ∧ k = !kvs.isEmpty
  | _ => False
theorem line63 : (sizeLine : Nat) < 2 ^ 63 := by rw [sizeLine_eq]; decide
def PlainIxT (b : Expr) : Prop := ∀ o i, subscripted b false o i = operate [o, i] (getItem o i)
theorem vals1 {x : V} {us : List Value} (r : Vals [x] us) : ∃ u, us = [u] ∧ RelV x u := by
  cases r with
  | cons r1 r2 => cases r2; exact ⟨_, rfl, r1⟩
theorem vals2 {x y : V} {us : List Value} (r : Vals [x, y] us) : ∃ u w', us = [u, w'] ∧ RelV x u ∧ RelV y w' := by
  cases r with
  | cons r1 r2 =>
    cases r2 with
    | cons r3 r4 => cases r4; exact ⟨_, _, rfl, r1, r3⟩
theorem call_max2 (hc : X.calm = true) : CallR X (.builtin "max") (fun xs H Q => ∃ i j, xs = [.int i, .int j] ∧ Q (.int (if j > i then j else i)) H) := by
  intro pins s σ H xs us Q I r h
  obtain ⟨i, j, rfl, q⟩ := h
  obtain ⟨u, w', rfl, ⟨t, rfl⟩, ⟨t', rfl⟩⟩ := vals2 r
  refine max_two_ints (I.ok.hd hc) fun h' tk k => ⟨_, H, I.kept k, ?_, q⟩
  by_cases hj : j > i
  · rw [if_pos hj, if_pos hj]; exact ⟨_, rfl⟩
  · rw [if_neg hj, if_neg hj]; exact ⟨_, rfl⟩
theorem call_min2 (hc : X.calm = true) : CallR X (.builtin "min") (fun xs H Q => ∃ i j, xs = [.int i, .int j] ∧ Q (.int (if j < i then j else i)) H) := by
  intro pins s σ H xs us Q I r h
  obtain ⟨i, j, rfl, q⟩ := h
  obtain ⟨u, w', rfl, ⟨t, rfl⟩, ⟨t', rfl⟩⟩ := vals2 r
  refine min_two_ints (I.ok.hd hc) fun h' tk k => ⟨_, H, I.kept k, ?_, q⟩
  by_cases hj : j < i
  · rw [if_pos hj, if_pos hj]; exact ⟨_, rfl⟩
  · rw [if_neg hj, if_neg hj]; exact ⟨_, rfl⟩
def LenV (K : PySem.W.Frag) (x : V) (H : Hp) (n : Nat) : Prop :=
  match x with
  | .str y => y.length ≤ sizeLine ∧ n = y.length
  | .byt y => y.size ≤ sizeLine ∧ n = y.size
  | .ref p => (∃ xs, SqL K H p xs ∧ n = xs.length) ∨ ∃ xs, SqT K H p xs ∧ n = xs.length
  | _ => False
end
end L2
namespace L2
open PySem PySem.Spec PyProof.Rows
structure ObjM (h : Heap) (x dx C : Addr) (mA : Str → Option Value) : Prop where
  obj : h.get? x = some (PySem.W.instObj C dx)
  ns : h.Ns1 dx mA
  ne : dx ≠ x
theorem lookIn_ns {h : Heap} {dx : Addr} {mA : Str → Option Value} (n : h.Ns1 dx mA) : ∃ od, h.get? dx = some od ∧ ∀ name, PySem.W.lookIn name od = some (mA name) := by
  obtain ⟨o, es, ep, ho, hd, hk, _, hm⟩ := n
  refine ⟨o, ho, fun name => ?_⟩
  have e := hm name
  unfold nsFind findBy at e
  rw [← Array.find?_toList] at e
  unfold PySem.W.lookIn
  rw [hd]
  dsimp only
  split
  · rename_i y q
    rw [q] at e
    exact congrArg some e
  · rename_i q
    rw [q] at e
    have a : es.toList.any (·.refKey) = false := by
      rw [List.any_eq_false]
      intro y hy
      obtain ⟨z, t, hkey⟩ := hk y (Array.mem_toList_iff.mp hy)
      simp [DictEntry.refKey, hkey]
    have a' : ¬ es.toList.any (·.refKey) = true := by rw [a]; exact Bool.false_ne_true
    rw [if_neg a']
    exact congrArg some e
theorem ObjM.look {h : Heap} {x dx C : Addr} {mA : Str → Option Value} (I : ObjM h x dx C mA) : ∃ od, PySem.W.InstAt h x (PySem.W.instObj C dx) C (some od) ∧ ∀ name, PySem.W.lookIn name od = some (mA name) :=
  let ⟨od, ho, hl⟩ := lookIn_ns I.ns
  ⟨od, ⟨I.obj, rfl, rfl, ho⟩, hl⟩
section
variable {prog : Program} {w : World} {A : Around} {E : Value → Shared → Prop} {s : Shared} {K : PySem.W.Frag} {x dx C f : Addr} {mA : Str → Option Value} {name : Str} {v : Value}
end
def putF (f : Str) (v : V) : List (Str × V) → List (Str × V)
  | [] => [(f, v)]
  | (g, x) :: r => if g = f then (g, v) :: r else (g, x) :: putF f v r
section
variable {P : Program} {w : World} {H H' : Hp} {h h' : Heap} {a C dx : Addr} {fs fs' : List (Str × V)}
theorem ins_get (hok : HOk P w H h) (e : H a = some (.ins C dx fs)) : ∃ mA, ObjM h a dx C mA ∧ (∀ f, RelO (fs.lookup f) (mA f)) ∧ PySem.Within mA (fs.map (·.1)) ∧ fs.length ≤ 1000 ∧ H dx = some (.own a) := by
  obtain ⟨d, z, ne, ob, mA, n, r, q⟩ := (show ObjOk P w H h a (.ins C dx fs) from hok a _ e)
  exact ⟨mA, ⟨ob, n, ne⟩, r, q, z, d⟩
end
structure Cls (K : PySem.W.Frag) (C : Addr) : Prop where
  pg : PySem.W.plainGet K C Str.empty = true
  hd : PySem.W.hasDictIn K C = true
  po : PySem.W.plainOver K C = true
  sa : PySem.W.findIn K (.ref C) "__setattr__" = some (some (.builtin "object.__setattr__"))
theorem Cls.get {K : PySem.W.Frag} {C : Addr} (c : Cls K C) (f : Str) : PySem.W.plainGet K C f = true := c.pg
def NoAttr (K : PySem.W.Frag) (C : Addr) (f : Str) : Prop := PySem.W.findIn K (.ref C) f = some none
structure Con (K : PySem.W.Frag) (C : Addr) (f : Str) (v : V) (u : Value) : Prop where
  at_ : PySem.W.findIn K (.ref C) f = some (some u)
  rel : RelV v u
  get : PySem.W.specialIn K u "__get__" = some none
  cp : PySem.W.copiedNames.contains f = false
structure Meth (K : PySem.W.Frag) (C : Addr) (m : Str) (f : Addr) : Prop where
  at_ : PySem.W.findIn K (.ref C) m = some (some (.ref f))
  fn : PySem.W.isFn K (.ref f) = true
  kp : PySem.W.keepIn K (.ref f) = true
section
variable {X : Cx} {pins : List (Addr × Obj)} {σ : St} {H : Hp} {s : Shared} {a C dx : Addr} {fs : List (Str × V)} {f : Str} {v : V} {A : Around} {E : Value → Shared → Prop}
end
def tFld (K : PySem.W.Frag) (ta : TE) (f : Str) : TE := fun σ H Q => ta σ H fun x H1 => ∃ a C dx fs v, x = .ref a ∧ H1 a = some (.ins C dx fs) ∧ Cls K C ∧ NoAttr K C f ∧ fs.lookup f = some v ∧ Q v H1
def tCon (K : PySem.W.Frag) (ta : TE) (f : Str) : TE := fun σ H Q => ta σ H fun x H1 => ∃ a C dx fs v u, x = .ref a ∧ H1 a = some (.ins C dx fs) ∧ Cls K C ∧ Con K C f v u ∧ fs.lookup f = none ∧ Q v H1
def sFld (K : PySem.W.Frag) (ta tv : TE) (f : Str) : TS := fun D σ H => tv σ H fun y H1 => ta σ H1 fun x H2 => ∃ a C dx fs, x = .ref a ∧ H2 a = some (.ins C dx fs) ∧ Cls K C ∧ NoAttr K C f ∧ fs.length < 1000 ∧
  D.nx σ (upd H2 a (.ins C dx (putF f y fs)))
def InOp (X : Cx) (op : Operator) (rd : V → V → Hp → VK → Prop) : Prop :=
  ∀ (pins : List (Addr × Obj)) (s : Shared) (σ : St) (H : Hp) (x y : V) (u v : Value) (Q : VK), Inv X pins σ H s → RelV x u → RelV y v → rd x y H Q → wpAny (model X.prog X.w) X.A (inplaceOp op u v) (EP X pins σ Q) X.xe s
def sFldAug (K : PySem.W.Frag) (ta tv : TE) (rd : V → V → Hp → VK → Prop) (f : Str) : TS := fun D σ H => ta σ H fun x H1 => ∃ a C dx fs v, x = .ref a ∧ H1 a = some (.ins C dx fs) ∧ Cls K C ∧ NoAttr K C f ∧ fs.lookup f = some v ∧
  tv σ H1 fun y H2 => rd v y H2 fun z H3 => ∃ dx' fs', H3 a = some (.ins C dx' fs') ∧ fs'.length < 1000 ∧ D.nx σ (upd H3 a (.ins C dx' (putF f z fs')))
section
variable {X : Cx} {o e value : Expr} {f : Str} {pos pos' tpos : Pos} {ta tv : TE}
def rAdd : V → V → Hp → VK → Prop := fun x y H Q => ∃ i j, x = .int i ∧ y = .int j ∧ Q (.int (i + j)) H
def rSub : V → V → Hp → VK → Prop := fun x y H Q => ∃ i j, x = .int i ∧ y = .int j ∧ Q (.int (i - j)) H
end
section
variable {X : Cx} {pins : List (Addr × Obj)} {σ : St} {H : Hp} {s : Shared} {A : Around} {E : Value → Shared → Prop} {Q : Value → Shared → Prop} {c : Value} {b : Bool}
inductive TyOf (K : PySem.W.Frag) (H : Hp) : V → Value → Prop where
  | non : TyOf K H .non (.type "NoneType")
  | bl (x : Bool) : TyOf K H (.bl x) (.type "bool")
  | int (i : Int) : TyOf K H (.int i) (.type "int")
  | str (x : Str) : TyOf K H (.str x) (.type "str")
  | flt (x : UInt64) : TyOf K H (.flt x) (.type "float")
  | lst {a : Addr} {xs : List V} (e : H a = some (.lst xs)) : TyOf K H (.ref a) (.type "list")
  | frz {a : Addr} {o : Obj} {xs : List V} (e : H a = some (.frz o (.lst xs))) : TyOf K H (.ref a) (.type "list")
  | tup {a : Addr} {xs : List V} (e : H a = some (.tup xs)) : TyOf K H (.ref a) (.type "tuple")
  | dK {a : Addr} {kvs : List (Key × V)} (e : H a = some (.dK kvs)) : TyOf K H (.ref a) (.type "dict")
  | dT {a : Addr} {kvs : List (List Key × V)} (e : H a = some (.dT kvs)) : TyOf K H (.ref a) (.type "dict")
  | ins {a C dx : Addr} {fs : List (Str × V)} (e : H a = some (.ins C dx fs)) (cl : Cls K C) (ha : PySem.W.findIn K (.ref C) "__class__" = some (some (.builtin "object.__class__")))
      (hn : PySem.W.specialIn K (.builtin "object.__class__") "__get__" = some (some (.builtin "getset_descriptor.__get__"))) (htk : PySem.W.takesIn K (.builtin "object.__class__") = some true)
      (hm : PySem.W.mroIn K C (.type "object") = some true) : TyOf K H (.ref a) (.ref C)
theorem isinst_ok {x : V} {u t : Value} (I : Inv X pins σ H s) (rx : RelV x u) (ty : TyOf X.K H x t) (e : PySem.W.kitOne X.K t c = some b) (h : ∀ tk, Q (.bool b) { s with toks := tk }) :
    wpAny (model X.prog X.w) A (call (.builtin "isinstance") [u, c]) Q E s := by
  cases ty with
  | non => cases (show u = Value.none from rx); exact PySem.W.kia_one PySem.W.kitx_none I.kIn True.intro e (fun z => nomatch z) h
  | bl y => cases (show u = Value.bool y from rx); exact PySem.W.kia_one PySem.W.kitx_bool I.kIn True.intro e (fun z => nomatch z) h
  | int i => obtain ⟨t, q⟩ := (show ∃ t, u = Value.int i t from rx); cases q; exact PySem.W.kia_one PySem.W.kitx_int I.kIn True.intro e (fun z => nomatch z) h
  | str y => obtain ⟨t, q⟩ := (show ∃ t, u = Value.str y t from rx); cases q; exact PySem.W.kia_one PySem.W.kitx_str I.kIn True.intro e (fun z => nomatch z) h
  | flt y => obtain ⟨t, q⟩ := (show ∃ t, u = Value.float y t from rx); cases q; exact PySem.W.kia_one PySem.W.kitx_float I.kIn True.intro e (fun z => nomatch z) h
  | @lst a xs ea =>
    cases (show u = Value.ref a from rx)
    obtain ⟨_, _, n, _, h1⟩ := (show ObjOk X.prog X.w H s.heap a (.lst xs) from I.hok a _ ea)
    exact PySem.W.kia_one PySem.W.kitx_list I.kIn ⟨_, h1, rfl⟩ e (fun z => nomatch z) h
  | @frz a ob xs ea =>
    cases (show u = Value.ref a from rx)
    obtain ⟨_, _, _, n, _, h1⟩ := (show ObjOk X.prog X.w H s.heap a (.frz ob (.lst xs)) from I.hok a _ ea)
    exact PySem.W.kia_one PySem.W.kitx_list I.kIn ⟨_, h1, rfl⟩ e (fun z => nomatch z) h
  | @tup a xs ea =>
    cases (show u = Value.ref a from rx)
    obtain ⟨_, _, _, p⟩ := (show ObjOk X.prog X.w H s.heap a (.tup xs) from I.hok a _ ea)
    obtain ⟨o, h1, h2, _⟩ := p
    exact PySem.W.kia_one PySem.W.kitx_tuple I.kIn ⟨o, h1, h2⟩ e (fun z => nomatch z) h
  | @dK a kvs ea =>
    cases (show u = Value.ref a from rx)
    obtain ⟨_, _, vs, _, p⟩ := (show ObjOk X.prog X.w H s.heap a (.dK kvs) from I.hok a _ ea)
    obtain ⟨o, es, ep, h1, h2, _⟩ := p
    exact PySem.W.kia_one PySem.W.kitx_dict I.kIn ⟨o, h1, h2.1⟩ e (fun z => nomatch z) h
  | @dT a kvs ea =>
    cases (show u = Value.ref a from rx)
    obtain ⟨_, _, xs, _, o, es, ep, h1, h2, _⟩ := (show ObjOk X.prog X.w H s.heap a (.dT kvs) from I.hok a _ ea)
    exact PySem.W.kia_one PySem.W.kitx_dict I.kIn ⟨o, h1, h2.1⟩ e (fun z => nomatch z) h
  | @ins a C dx fs ea cl ha hn htk hm =>
    cases (show u = Value.ref a from rx)
    obtain ⟨mA, O, _⟩ := ins_get I.hok ea
    obtain ⟨od, J, _⟩ := O.look
    exact PySem.W.kia_one (PySem.W.kitx_own (cl.get _) cl.hd ha hn htk hm) I.kIn J e (fun z => nomatch z) h
end
end L2
namespace L2
open PySem PySem.Spec PyProof.Rows
structure Room (k : Nat) (A : Around) : Prop where
  hd : A.handled = none
  dp : A.depth + 3 * k + 5 < recursionLimit
  un : A.units + 16 * k + 200 < cLine
theorem Room.mono {j k : Nat} {A : Around} (r : Room k A) (h : j ≤ k) : Room j A := ⟨r.hd, by have := r.dp; omega, by have := r.un; omega⟩
theorem Room.deeper {k : Nat} {A : Around} (r : Room (k + 1) A) (env : Env) : Room k (A.deeper env) :=
  ⟨r.hd, by have := r.dp; show A.depth + 1 + 3 * k + 5 < _; omega, by have := r.un; show A.units + 3 + 16 * k + 200 < _; omega⟩
theorem Room.depth {k : Nat} {A : Around} (r : Room k A) : A.depth < recursionLimit := by have := r.dp; omega
theorem Room.units {k : Nat} {A : Around} (r : Room k A) : A.units + 64 < cLine := by have := r.un; omega
def tNil : TA := fun _ H Q => Q [] H
def tCons (ta : TE) (tr : TA) : TA := fun σ H Q => ta σ H fun x H1 => tr σ H1 fun xs H2 => Q (x :: xs) H2
section
variable {X : Cx} {e : Expr} {es : List Expr} {te : TE} {t : TA} {pos : Pos}
theorem pa_nil : PA X [] tNil := fun _ _ _ _ H Q I h => Calls.spliced_nil ⟨[], H, I, .nil, h⟩
theorem pa_cons (ha : PE X e te) (hr : PA X es t) (hs : starEach (e :: es) X.env = (false, eval e X.env) :: starEach es X.env := by rfl) : PA X (e :: es) (tCons te t) := by
  intro pos pins s σ H Q I h
  rw [hs]
  show wpAny _ _ (spliced ((false, eval e X.env) :: backTo pos (starEach es X.env))) _ _ s
  refine Calls.spliced_cons (thn (ha pins s σ H _ I h) fun u s1 ⟨x, H1, I1, r1, q1⟩ => ?_)
  exact thn (hr pos pins s1 σ H1 _ I1 q1) fun us s2 ⟨xs, H2, I2, r2, q2⟩ => ⟨x :: xs, H2, I2, .cons r1 r2, q2⟩
def tTup (t : TA) : TE := fun σ H Q => t σ H fun xs H1 => xs.length ≤ sizeLine ∧ ∀ p, H1 p = none → Q (.ref p) (upd H1 p (.tup xs))
def tLst (t : TA) : TE := fun σ H Q => t σ H fun xs H1 => xs.length ≤ sizeLine ∧ ∀ p, H1 p = none → Q (.ref p) (upd H1 p (.lst xs))
theorem pe_tup {x1} (h : PA X es t) : PE X (.Tuple es x1 pos) (tTup t) := by
  intro pins s σ H Q I hq
  refine wpAny_Tuple_spliced (thn (h pos pins s σ H _ I hq) fun us s1 ⟨xs, H1, I1, r, z, q⟩ => ⟨by rw [← r.length]; exact z, ?_⟩)
  have hf : H1 s1.heap.objs.size = none := I1.hok.fresh (Nat.le_refl _)
  refine ⟨.ref s1.heap.objs.size, upd H1 s1.heap.objs.size (.tup xs), I1.laid (t' := s1.toks) (fun b u e => Heap.get?_push_of_some _ e) (Nat.le_refl _) ?_, rfl, q _ hf⟩
  exact ⟨z, us, r, ⟨_, Heap.get?_push_size _ rfl, rfl, _, rfl⟩⟩
theorem pe_lst (h : PA X es t) : PE X (.List es pos) (tLst t) := by
  intro pins s σ H Q I hq
  refine wpAny_List_spliced (thn (h pos pins s σ H _ I hq) fun us s1 ⟨xs, H1, I1, r, z, q⟩ => ⟨by rw [← r.length]; exact z, ?_⟩)
  have hf : H1 s1.heap.objs.size = none := I1.hok.fresh (Nat.le_refl _)
  refine ⟨.ref s1.heap.objs.size, upd H1 s1.heap.objs.size (.lst xs), I1.laid (t' := s1.toks) (fun b u e => Heap.get?_push_of_some _ e) (Nat.le_refl _) ?_, rfl, q _ hf⟩
  exact ⟨z, us, 0, r, Heap.get?_push_size _ rfl⟩
end
abbrev Sp := List V → Hp → VK → XK → Prop
abbrev CXT := List Env → Hp → Shared → XK → Value → Shared → Prop
structure Env0 (P : Program) (w : World) (K : PySem.W.Frag) (mg : Str → Option Value) (base : Heap) (A : Around) (outer : List Env) (s : Shared) (H : Hp) : Prop where
  frames : A.frames = some outer
  mod : Mod K mg base
  bs : ∀ b o, base.get? b = some o → s.heap.get? b = some o ∧ H b = none
  bsz : base.objs.size ≤ s.heap.objs.size
  funs : s.heap.FunFrames base outer
  frf : ∀ b ∈ frs outer, H b = none
  hok : HOk P w H s.heap
  bare : AllBare s.gens
def CE (outer : List Env) (P : Program) (w : World) (H : Hp) (s : Shared) (Q : VK) (u : Value) (s' : Shared) : Prop :=
  ∃ v H', s'.os = s.os ∧ AllBare s'.gens ∧ Un (frs outer) [] H H' s.heap s'.heap ∧ HOk P w H' s'.heap ∧ RelV v u ∧ Q v H'
def CR (CX : CXT) (outer : List Env) (P : Program) (w : World) (H : Hp) (s : Shared) (Q : VK) (E : XK) (r : Result) (s' : Shared) : Prop :=
  match r with
  | .ok (.ret u) => CE outer P w H s Q u s'
  | .ok _ => False
  | .error e => CX outer H s E e s'
structure FnOk (P : Program) (w : World) (K : PySem.W.Frag) (mg : Str → Option Value) (base : Heap) (CX : CXT) (k : Nat) (f : Addr) (fd : FuncData) (ps : List Str) (sp : Sp) : Prop where
  len : ∀ vs H Q E, sp vs H Q E → vs.length = ps.length
  run : ∀ (A : Around) (outer : List Env) (s : Shared) (H : Hp) (args : Args) (us : List Value) (vs : List V) (Q : VK) (E : XK), Room k A → Env0 P w K mg base A outer s H → BindsTo s fd args (ps.zip us) → Vals vs us → sp vs H Q E →
    codeAny (model P w) A (.call (.ref f) args) (CR CX outer P w H s Q E) s
section
variable {X : Cx} {pins : List (Addr × Obj)} {σ : St} {H : Hp} {s s' : Shared}
theorem Inv.env0 (I : Inv X pins σ H s) : Env0 X.prog X.w X.K X.mg X.base X.A X.stack s H :=
  ⟨I.ok.frames, I.ok.mod, I.bs, Nat.le_trans I.ok.bsz I.sz, I.stack, I.stkFree, I.hok, I.bare⟩
theorem Inv.after {Q : VK} {u : Value} (I : Inv X pins σ H s) (h : CE X.stack X.prog X.w H s Q u s') : EP X pins σ Q u s' := by
  obtain ⟨v, H', os, bare, un, hok, r, q⟩ := h
  obtain ⟨hh, g, d, t, os'⟩ := s'
  obtain rfl : os' = s.os := os
  exact ⟨v, H', I.call (h' := hh) (g' := g) (d' := d) (t' := t) (ch := []) un hok bare (fun b z => absurd z (by simp)), r, q⟩
end
def tCall (sp : Sp) (dvs : List V) (E : XK) (t : TA) : TE := fun σ H Q => t σ H fun vs H1 => sp (vs ++ dvs) H1 Q E
def tMeth (C : Addr) (m : Str) (sp : Sp) (dvs : List V) (E : XK) (ta : TE) (t : TA) : TE := fun σ H Q => ta σ H fun x H1 => ∃ a dx fs, x = .ref a ∧ H1 a = some (.ins C dx fs) ∧ fs.lookup m = none ∧
  t σ H1 fun vs H2 => sp (x :: (vs ++ dvs)) H2 Q E
def tMake (C : Addr) (sp : Sp) (dvs : List V) (E : XK) (t : TA) : TE := fun σ H Q => t σ H fun vs H1 => ∀ x dx, H1 x = none → H1 dx = none → dx ≠ x →
  sp (.ref x :: (vs ++ dvs)) (upd (upd H1 dx (.own x)) x (.ins C dx [])) (fun v H2 => v = .non ∧ Q (.ref x) H2) E
def Binds (K : PySem.W.Frag) (fd : FuncData) (ps : List Str) (ds : List Value) : Prop :=
  ∀ (s : Shared) (us : List Value), K.In s.heap → (us ++ ds).length = ps.length → BindsTo s fd ⟨us, []⟩ (ps.zip (us ++ ds))
theorem Binds.all {K : PySem.W.Frag} {fd : FuncData} {ps : List Str} (h : ∀ us : List Value, us.length = ps.length → bindArgs fd ⟨us, []⟩ = pure (ps.zip us)) : Binds K fd ps [] := fun s us _ hl => by
  rw [List.append_nil] at hl ⊢
  exact .of_eq (h us hl)
def Passes (CX : CXT) (X : Cx) (E : XK) : Prop := ∀ (pins : List (Addr × Obj)) (σ : St) (H : Hp) (s : Shared) (e : Value) (s' : Shared), Inv X pins σ H s → CX X.stack H s E e s' → X.xe e s'
section
variable {X : Cx} {CX : CXT} {k : Nat} {f C : Addr} {fd : FuncData} {ps : List Str} {sp : Sp} {dvs : List V} {ds : List Value} {E : XK} {x m : Str} {p pos apos : Pos} {e o : Expr} {es : List Expr} {ta : TE} {t : TA}
theorem run_fn {pins : List (Addr × Obj)} {σ : St} {H : Hp} {s : Shared} {Q : VK} {us : List Value} {vs : List V} (F : FnOk X.prog X.w X.K X.mg X.base CX k f fd ps sp) (hr : Room k X.A) (hb : Binds X.K fd ps ds) (hd : Vals dvs ds) (hx : Passes CX X E)
    (I : Inv X pins σ H s) (r : Vals vs us) (h : sp (vs ++ dvs) H Q E) : wpAny (model X.prog X.w) X.A (call (.ref f) us) (EP X pins σ Q) X.xe s := by
  have r2 : Vals (vs ++ dvs) (us ++ ds) := r.append hd
  have hl : (us ++ ds).length = ps.length := by rw [← r2.length]; exact F.len _ _ _ _ h
  refine wpAny_call (codeAny_mono (F.run X.A X.stack s H ⟨us, []⟩ (us ++ ds) (vs ++ dvs) Q E hr I.env0 (hb s us I.kIn hl) r2 h) fun r s' hq => ?_)
  cases r with
  | error e => exact hx pins σ H s e s' I hq
  | ok fl =>
    cases fl with
    | ret u => exact I.after hq
    | next => exact False.elim hq
    | brk => exact False.elim hq
    | cont => exact False.elim hq
theorem pe_call (F : FnOk X.prog X.w X.K X.mg X.base CX k f fd ps sp) (hr : Room k X.A) (hg : Gl X x) (hm : X.mg x = some (.ref f)) (hk : PySem.W.keepIn X.K (.ref f) = true) (hb : Binds X.K fd ps ds) (hd : Vals dvs ds) (hx : Passes CX X E)
    (ha : PA X (e :: es) t) (hdb : (x == ("__debug__" : Str)) = false := by decide) (he : starEach (e :: es) X.env = (false, eval e X.env) :: starEach es X.env := by rfl) (hpl : (backTo pos (starEach es X.env)).any (·.1) = false := by rfl) :
    PE X (.Call (.Name x p) (e :: es) [] pos) (tCall sp dvs E t) := by
  intro pins s σ H Q I h
  refine wpAny_Call_Name_kw (ld_glob I hg hm ?_ hdb)
  refine PySem.W.callWith_K (h₀ := X.base) I.ok.mod.kin hk (thn (ha pos pins s σ H _ I h) fun us s1 ⟨vs, H1, I1, r, q⟩ => ⟨I1.kIn, ?_⟩) he hpl
  exact run_fn F hr hb hd hx I1 r q
structure Mk (K : PySem.W.Frag) (C f : Addr) : Prop where
  makes : PySem.W.makesIn K C = true
  init : PySem.W.findIn K (.ref C) "__init__" = some (some (.ref f))
  fn : PySem.W.isFn K (.ref f) = true
  kp : PySem.W.keepIn K (.ref C) = true
end
def PK (X : Cx) (kws : List Keyword) (t : TA) : Prop :=
  ∀ (pos : Pos) (pins : List (Addr × Obj)) (s : Shared) (σ : St) (H : Hp) (Q : List V → Hp → Prop), Inv X pins σ H s → t σ H Q → wpAny (model X.prog X.w) X.A (evalAll ((backToKw pos (keywordEach kws X.env)).map (·.2))) (AP X pins σ Q) X.xe s
section
variable {X : Cx} {CX : CXT} {k : Nat} {f C : Addr} {fd : FuncData} {ps ks : List Str} {sp : Sp} {E : XK} {x m : Str} {p pos apos kpos : Pos} {e o : Expr} {es : List Expr} {kws : List Keyword} {te ta : TE} {t tk : TA} {nm : Option Str}
structure KBinds (K : PySem.W.Frag) (fd : FuncData) (ps ks : List Str) (g : List Value → List Value → List Value) (gV : List V → List V → List V) : Prop where
  to : ∀ (s : Shared) (us ws : List Value), K.In s.heap → (g us ws).length = ps.length → BindsTo s fd ⟨us, ks.zip ws⟩ (ps.zip (g us ws))
  rel : ∀ {vs : List V} {us : List Value} {zs : List V} {ws : List Value}, Vals vs us → Vals zs ws → Vals (gV vs zs) (g us ws)
def tCallK (sp : Sp) (gV : List V → List V → List V) (E : XK) (t tk : TA) : TE := fun σ H Q => t σ H fun vs H1 => tk σ H1 fun zs H2 => sp (gV vs zs) H2 Q E
variable {g : List Value → List Value → List Value} {gV : List V → List V → List V}
end
structure FnScope (N P : List Str) (sc : Scope) : Prop where
  kind : sc.kind = .function
  co : sc.isCoroutine = false
  gen : sc.isGenerator = false
  nd : N.Nodup
  pre : N.take P.length = P
  par : ∀ x ∈ P, sc.names.lookup x = some .local ∨ sc.names.lookup x = some .cell
  nofree : ∀ y ∈ sc.names, y.2 ≠ .free
theorem bindL_out {kindOf : Str → Option NameKind} {x : Str} : ∀ {binds : List (Str × Value)} {m : Str → Option Value}, (∀ v, (x, v) ∉ binds) → bindL kindOf binds m x = m x
  | [], _, _ => rfl
  | (n, v) :: r, m, h => by
    unfold bindL
    rw [bindL_out fun w hw => h w (List.mem_cons_of_mem _ hw)]
    split
    · have : x ≠ n := by rintro rfl; exact h v List.mem_cons_self
      simp [this]
    · rfl
theorem bindC_out {kindOf : Str → Option NameKind} {x : Str} : ∀ {binds : List (Str × Value)} {m : Str → Option Value}, (∀ v, (x, v) ∉ binds) → bindC kindOf binds m x = m x
  | [], _, _ => rfl
  | (n, v) :: r, m, h => by
    unfold bindC
    rw [bindC_out fun w hw => h w (List.mem_cons_of_mem _ hw)]
    split
    · rfl
    · have : x ≠ n := by rintro rfl; exact h v List.mem_cons_self
      simp [this]
theorem bindL_get {kindOf : Str → Option NameKind} {x : Str} {v : Value} : ∀ {P : List Str} {vs : List Value} {i : Nat} {m : Str → Option Value}, P.Nodup → P[i]? = some x → vs[i]? = some v → kindOf x = some .local →
    bindL kindOf (P.zip vs) m x = some v
  | [], _, _, _, _, h, _, _ => by simp at h
  | _ :: _, [], _, _, _, _, h, _ => by simp at h
  | p :: P, w :: vs, 0, m, nd, h1, h2, hk => by
    simp at h1 h2; subst h1; subst h2
    show bindL kindOf ((p, w) :: P.zip vs) m p = _
    unfold bindL
    rw [bindL_out fun v hv => (List.nodup_cons.mp nd).1 (List.of_mem_zip hv).1, if_pos hk]
    simp
  | p :: P, w :: vs, i + 1, m, nd, h1, h2, hk => by
    show bindL kindOf ((p, w) :: P.zip vs) m x = _
    unfold bindL
    exact bindL_get (i := i) (List.nodup_cons.mp nd).2 (by simpa using h1) (by simpa using h2) hk
theorem bindC_get {kindOf : Str → Option NameKind} {x : Str} {v : Value} : ∀ {P : List Str} {vs : List Value} {i : Nat} {m : Str → Option Value}, P.Nodup → P[i]? = some x → vs[i]? = some v → kindOf x ≠ some .local →
    bindC kindOf (P.zip vs) m x = some v
  | [], _, _, _, _, h, _, _ => by simp at h
  | _ :: _, [], _, _, _, _, h, _ => by simp at h
  | p :: P, w :: vs, 0, m, nd, h1, h2, hk => by
    simp at h1 h2; subst h1; subst h2
    show bindC kindOf ((p, w) :: P.zip vs) m p = _
    unfold bindC
    rw [bindC_out fun v hv => (List.nodup_cons.mp nd).1 (List.of_mem_zip hv).1, if_neg hk]
    simp
  | p :: P, w :: vs, i + 1, m, nd, h1, h2, hk => by
    show bindC kindOf ((p, w) :: P.zip vs) m x = _
    unfold bindC
    exact bindC_get (i := i) (List.nodup_cons.mp nd).2 (by simpa using h1) (by simpa using h2) hk
def start (N : List Str) (vs : List V) : St := vs.map some ++ List.replicate (N.length - vs.length) none
def cxOf (CX : CXT) (P : Program) (w : World) (K : PySem.W.Frag) (mg : Str → Option Value) (base : Heap) (N : List Str) (qual : Str) (scope : Scope) (f : Addr) (cd : Value) (A : Around) (outer : List Env) (s : Shared) (H : Hp) (E : XK) : Cx where
  prog := P
  w := w
  K := K
  mg := mg
  base := base
  A := A.deeper (envOfC qual scope s.heap.objs.size f cd)
  N := N
  s₀ := s
  H₀ := H
  env := envOfC qual scope s.heap.objs.size f cd
  outer := outer
  stack := envOfC qual scope s.heap.objs.size f cd :: outer
  ex := []
  calm := true
  fn := fun _ => true
  pn := []
  xe := fun e s' => wpAny (model P w) (A.deeper (envOfC qual scope s.heap.objs.size f cd)) (leaving (envOfC qual scope s.heap.objs.size f cd) e) (fun _ s'' => CX outer H s E e s'') (fun e' s'' => CX outer H s E e' s'') s'
theorem cell_has {sc : Scope} {n : Nat} {x : Str} (h : sc.names.lookup x = some .cell) : ∃ c, (cellsFrom n sc.names []).lookup x = some c := by
  have q := PySem.W.cellsFrom_some sc.names n [] (.inl h)
  exact Option.isSome_iff_exists.mp q
theorem inv_start {CX : CXT} {P : Program} {w : World} {K : PySem.W.Frag} {mg : Str → Option Value} {base : Heap} {N ps : List Str} {qual : Str} {scope : Scope} {f : Addr} {cd : Value} {A : Around} {outer : List Env} {s s1 : Shared} {H : Hp} {E : XK} {us : List Value} {vs : List V}
    (S : FnScope N ps scope) (hd : A.handled = none) (e0 : Env0 P w K mg base A outer s H) (hl : vs.length = ps.length) (r : Vals vs us)
    (x : InCallC s s.heap.objs.size (bindL (envOfC qual scope s.heap.objs.size f cd).kindOf (ps.zip us) fun _ => none) (cellsFrom (s.heap.objs.size + 1) scope.names []) (bindC (envOfC qual scope s.heap.objs.size f cd).kindOf (ps.zip us) fun _ => none) s1) :
    Inv (cxOf CX P w K mg base N qual scope f cd A outer s H E) [] (start N vs) H s1 := by
  have hpl : ps.length ≤ N.length := by have := congrArg List.length S.pre; rw [List.length_take] at this; omega
  obtain ⟨h1, tk, rfl, hk⟩ := x.done
  have noA : ∀ b : Addr, b ∉ (cxOf CX P w K mg base N qual scope f cd A outer s H E).ex := fun b z => absurd (show b ∈ ([] : List Addr) from z) (by simp)
  refine ⟨⟨e0.mod, S.kind, rfl, rfl, Nat.le_refl _, fun y z c h1 h2 => ?_, fun y hy => ?_, fun y c _ h => ?_, fun _ => hd, Around.frames_deeper e0.frames, .inr ⟨rfl, rfl⟩, fun b z => absurd z (noA b), e0.bs, e0.bsz, fun b _ _ => noA b, fun b z => absurd z (noA b), e0.funs, e0.frf⟩,
    rfl, e0.bare, Un.kept hk, ⟨_, x.toInCall.ns, fun i y v h1 h2 h3 => ?_⟩, fun y c h => ⟨_, x.cell y c h⟩, e0.hok.fresh (Nat.le_refl _), fun y c h => ?_, fun p hp => absurd (show p ∈ ([] : List (Addr × Obj)) from hp) (by simp), e0.hok.kept hk, ?_⟩
  · exact name_of_addr x.apart (PySem.mem_of_lookup h1) (PySem.mem_of_lookup h2)
  · have hy : scope.names.lookup y = some .cell ∨ scope.names.lookup y = some .free := hy
    rcases hy with hy | hy
    · exact cell_has hy
    · exact absurd rfl (S.nofree _ (PySem.mem_of_lookup hy))
  · exact Nat.le_of_lt (x.above y c (PySem.mem_of_lookup h))
  · have hi : i < vs.length := by
      unfold start at h2
      by_cases hi : i < vs.length
      · exact hi
      · rw [List.getElem?_append_right (by simpa using hi)] at h2
        rw [List.getElem?_replicate] at h2
        split at h2 <;> cases h2
    have ha : vs[i]? = some v := by
      unfold start at h2
      rw [List.getElem?_append_left (by simpa using hi), List.getElem?_map] at h2
      cases e : vs[i]? with
      | none => rw [e] at h2; cases h2
      | some a => rw [e] at h2; cases h2; rfl
    obtain ⟨u, hu, rv⟩ := r.get ha
    have hp : ps[i]? = some y := by
      rw [← S.pre, List.getElem?_take_of_lt (by omega)]; exact h1
    have ndP : ps.Nodup := by rw [← S.pre]; exact S.nd.sublist (List.take_sublist _ _)
    refine ⟨u, rv, ?_⟩
    rcases S.par y (List.mem_of_getElem? hp) with k | k
    · exact .inl ⟨k, bindL_get ndP hp hu k⟩
    · obtain ⟨c, e⟩ := cell_has (n := s.heap.objs.size + 1) k
      refine .inr ⟨.inl k, c, e, ?_⟩
      have q := x.cell y c e
      rw [bindC_get ndP hp hu (by show scope.names.lookup y ≠ _; rw [k]; decide)] at q
      exact q
  · exact e0.hok.fresh (Nat.le_of_lt (x.above y c (PySem.mem_of_lookup h)))
  · unfold start
    show _ = N.length
    rw [List.length_append, List.length_map, List.length_replicate]
    omega
theorem fn_of {CX : CXT} {P : Program} {w : World} {K : PySem.W.Frag} {mg : Str → Option Value} {base : Heap} {k : Nat} {f : Addr} {name qual : Str} {params : Arguments} {body : List Stmt} {scope : Scope} {dV kV doc pm cdv ct oc : Value} {an od : Option Addr}
    {osl : Array (Option Value)} {N ps : List Str} {sp : Sp} (lk : K.lookup f = some ⟨oc, od, .func (PySem.W.fnOf name qual params body scope dV kV doc pm an cdv ct), osl⟩) (hcd : PySem.W.codeIn K cdv qual = true) (S : FnScope N ps scope)
    (len : ∀ vs H Q E, sp vs H Q E → vs.length = ps.length)
    (hbody : ∀ (A : Around) (outer : List Env) (s : Shared) (H : Hp) (vs : List V) (Q : VK) (E : XK), Room k (A.deeper (envOfC qual scope s.heap.objs.size f cdv)) → sp vs H Q E →
      ∃ t, PSs (cxOf CX P w K mg base N qual scope f cdv A outer s H E) body t ∧ t { nx := fun _ H' => Q .non H', rt := Q } (start N vs) H) :
    FnOk P w K mg base CX (k + 1) f (PySem.W.fnOf name qual params body scope dV kV doc pm an cdv ct) ps sp := by
  refine ⟨len, fun A outer s H args us vs Q E hr e0 hb r hsp => ?_⟩
  have hl := len _ _ _ _ hsp
  have KX : K.In s.heap := e0.mod.kin.keeps fun b o e => (e0.bs b o e).1
  have lim : s.heap.NoLimit := e0.mod.nolimit.keeps fun b o e => (e0.bs b o e).1
  have hkind : ∀ y ∈ ps.zip us, scope.names.lookup y.1 = some .local ∨ (scope.names.lookup y.1 = some .cell ∧ ((cellsFrom (s.heap.objs.size + 1) scope.names []).lookup y.1).isSome = true) := fun ⟨n, v⟩ hy => by
    rcases S.par n (List.of_mem_zip hy).1 with q | q
    · exact .inl q
    · exact .inr ⟨q, PySem.W.cellsFrom_some _ _ _ (.inl q)⟩
  refine codeAny_call_function hr.depth (KX _ _ lk) rfl S.co S.gen rfl (PySem.W.codeRec_of KX hcd) (hb _ _ _ _ ?_)
  refine wpAny_newFunctionEnv_cells S.kind hkind fun env he s1 x => ?_
  subst he
  refine ⟨lim.keeps x.toInCall.keep, codeAny_func ?_⟩
  obtain ⟨t, ht, hq⟩ := hbody A outer s H vs Q E (hr.deeper _) hsp
  have I : Inv (cxOf CX P w K mg base N qual scope f cdv A outer s H E) [] (start N vs) H s1 := inv_start S hr.hd e0 hl r x
  refine wpAny_mono (ht [] s1 (start N vs) H _ I hq) (fun fl s' hs => ?_) fun e s' hs => hs
  have fin : ∀ {σ' : St} {H' : Hp} {v : V} {u : Value}, Inv (cxOf CX P w K mg base N qual scope f cdv A outer s H E) [] σ' H' s' → RelV v u → Q v H' → CE outer P w H s Q u s' :=
    fun {σ' H' v u} J rv q => ⟨v, H', J.os, J.bare, J.base, J.hok, rv, q⟩
  cases fl with
  | ret u =>
    obtain ⟨v, σ', H', J, rv, q⟩ := hs
    exact fin J rv q
  | next =>
    obtain ⟨σ', H', J, q⟩ := hs
    exact fin (v := V.non) (u := Value.none) J rfl q
  | brk =>
    obtain ⟨_, _, _, q⟩ := hs
    exact False.elim q
  | cont =>
    obtain ⟨_, _, _, q⟩ := hs
    exact False.elim q
end L2
namespace L2
open PySem PySem.Spec PyProof.Rows
section
variable {X : Cx} {x : Str} {p pos : Pos} {e : Expr} {es : List Expr} {t : TA} {id T : String} {r : List V → Hp → VK → Prop}
def tCB (r : List V → Hp → VK → Prop) (t : TA) : TE := fun σ H Q => t σ H fun vs H1 => r vs H1 Q
theorem pe_callB (hc : CallR X (.builtin id) r) (hg : Gl X x) (hm : X.mg x = none) (hv : bootBuiltins x = some (.builtin id)) (ha : PA X (e :: es) t) (hn : x ≠ "__name__" := by decide) (hdb : (x == ("__debug__" : Str)) = false := by decide)
    (he : starEach (e :: es) X.env = (false, eval e X.env) :: starEach es X.env := by rfl) (hpl : (backTo pos (starEach es X.env)).any (·.1) = false := by rfl) : PE X (.Call (.Name x p) (e :: es) [] pos) (tCB r t) := by
  intro pins s σ H Q I h
  refine wpAny_Call_Name_kw (ld_blt I hg hm hv ?_ hn hdb)
  exact PyProof.Rows.callWith_builtin1 (thn (ha pos pins s σ H _ I h) fun us s1 ⟨vs, H1, I1, r1, q1⟩ => hc pins s1 σ H1 vs us Q I1 r1 q1) he hpl
theorem pe_callTy (hc : CallR X (.type T) r) (hg : Gl X x) (hm : X.mg x = none) (hv : bootBuiltins x = some (.type T)) (ha : PA X (e :: es) t) (hn : x ≠ "__name__" := by decide) (hdb : (x == ("__debug__" : Str)) = false := by decide)
    (he : starEach (e :: es) X.env = (false, eval e X.env) :: starEach es X.env := by rfl) (hpl : (backTo pos (starEach es X.env)).any (·.1) = false := by rfl) : PE X (.Call (.Name x p) (e :: es) [] pos) (tCB r t) := by
  intro pins s σ H Q I h
  refine wpAny_Call_Name_kw (ld_blt I hg hm hv ?_ hn hdb)
  exact PyProof.Rows.callWith_type1 (thn (ha pos pins s σ H _ I h) fun us s1 ⟨vs, H1, I1, r1, q1⟩ => hc pins s1 σ H1 vs us Q I1 r1 q1) he hpl
end
end L2
namespace HT
open PySem PyProof.Rows
def lexLt : List Int → List Int → Bool
  | [], [] => false
  | [], _ :: _ => true
  | _ :: _, [] => false
  | x :: xs, y :: ys => if x = y then lexLt xs ys else decide (x < y)
section
open PySem.SeqAt
open PySem.AutoSeq1 (wpAny_loadPart')
open PySem.MeetsSeq PySem.MeetsSeq2 PySem.MeetsSeq3
end
section
variable {prog : Program} {w : World} {A : Around} {E : Value → Shared → Prop} {s : Shared}
def sIx (n d : Nat) : Option Int → Nat
  | none => d
  | some v => if v < 0 then (v + (n : Int)).toNat else min v.toNat n
theorem sIx_none (n d : Nat) : sIx n d none = d := rfl
theorem sIx_nat (n d k : Nat) : sIx n d (some (k : Int)) = min k n := by
  show (if (k : Int) < 0 then ((k : Int) + (n : Int)).toNat else min (k : Int).toNat n) = min k n
  rw [if_neg (by omega), Int.toNat_natCast]
end
end HT
namespace L2
open PySem PySem.Spec PyProof.Rows
abbrev TO := St → Hp → (Option Int → Hp → Prop) → Prop
def PO (X : Cx) (e : Option Expr) (t : TO) : Prop :=
  ∀ (pins : List (Addr × Obj)) (s : Shared) (σ : St) (H : Hp) (Q : Option Int → Hp → Prop), Inv X pins σ H s → t σ H Q →
    wpAny (model X.prog X.w) X.A (evalPart e X.env) (fun u s' => ∃ o H', Inv X pins σ H' s' ∧ IsPart u o ∧ Q o H') X.xe s
def tNoPart : TO := fun _ H Q => Q none H
def tPart (t : TE) : TO := fun σ H Q => t σ H fun x H1 => ∃ i, x = .int i ∧ Q (some i) H1
theorem intsAre_of {ns : List Int} : ∀ {us : List Value}, Vals (ns.map V.int) us → IntsAre us ns := by
  induction ns with
  | nil => intro us r; rw [List.map_nil] at r; cases r; exact .nil
  | cons n ns ih =>
    intro us r
    rw [List.map_cons] at r
    cases r with
    | cons r1 r2 =>
      obtain ⟨t, e⟩ := r1
      subst e
      exact .cons n t (ih r2)
section
variable {X : Cx} {e : Expr} {te : TE} {lo hi : Option Expr} {tl th : TO} {pos p2 : Pos}
theorem po_none : PO X none tNoPart := by
  intro pins s σ H Q I h
  rw [evalPart_none]
  exact wpAny_pure ⟨none, H, I, .none, h⟩
theorem po_some (h : PE X e te) : PO X (some e) (tPart te) := by
  intro pins s σ H Q I hw
  rw [evalPart_some]
  refine thn (h pins s σ H _ I hw) fun u s1 ⟨x, H1, I1, r1, q1⟩ => ?_
  obtain ⟨i, rfl, q⟩ := q1
  obtain ⟨t, rfl⟩ := r1
  exact ⟨some i, H1, I1, .int i t, q⟩
def SlR (X : Cx) (r : V → Option Int → Option Int → Hp → VK → Prop) : Prop :=
  ∀ (pins : List (Addr × Obj)) (s : Shared) (σ : St) (H : Hp) (x : V) (v vl vu : Value) (lo hi : Option Int) (sl : Addr) (Q : VK), Inv X pins σ H s → RelV x v → s.heap.IsSliceOf sl vl vu .none → IsPart vl lo → IsPart vu hi → r x lo hi H Q →
    ∃ T id, typeLookup (.type T) "__getitem__" = pure (some (.builtin id)) ∧ s.TypeIs v T ∧ wpAny (model X.prog X.w) X.A (getItem v (.ref sl)) (EP X pins σ Q) X.xe s
def tSl (r : V → Option Int → Option Int → Hp → VK → Prop) (te : TE) (tl th : TO) : TE := fun σ H Q => te σ H fun x H1 => tl σ H1 fun l H2 => th σ H2 fun u H3 => r x l u H3 Q
theorem pe_slice {r : V → Option Int → Option Int → Hp → VK → Prop} (hr : SlR X r) (he : PE X e te) (hl : PO X lo tl) (hu : PO X hi th) : PE X (.Subscript e (.Slice lo hi none p2) pos) (tSl r te tl th) := by
  intro pins s σ H Q I h
  refine Subscript_ (thn (he pins s σ H _ I h) fun v s1 ⟨x, H1, I1, r1, q1⟩ => ?_)
  refine wpAny_Slice (thn (hl pins s1 σ H1 _ I1 q1) fun vl s2 ⟨l, H2, I2, pl, q2⟩ => thn (hu pins s2 σ H2 _ I2 q2) fun vu s3 ⟨u, H3, I3, pu, q3⟩ => ?_)
  rw [evalPart_none]
  refine wpAny_pure ?_
  have I4 : Inv X pins σ H3 { s3 with heap := s3.heap.push { cls := .type "slice", data := .fields #[vl, vu, .none] } } := I3.kept (t' := s3.toks) fun b ob q => Heap.get?_push_of_some _ q
  obtain ⟨T, id, hT, ht, hg⟩ := hr pins { s3 with heap := s3.heap.push { cls := .type "slice", data := .fields #[vl, vu, .none] } } σ H3 x v vl vu l u s3.heap.objs.size Q I4 r1 (Heap.IsSliceOf.new ..) pl pu q3
  show wpAny (model X.prog X.w) X.A (subscriptTail e (.Slice lo hi none p2) v (.ref s3.heap.objs.size)) (EP X pins σ Q) X.xe { s3 with heap := s3.heap.push { cls := .type "slice", data := .fields #[vl, vu, .none] } }
  exact tail_any (ops := [.ref s3.heap.objs.size, v]) ht hT hg (by with_unfolding_all rfl)
def cutV (xs : List V) (lo hi : Option Int) : List V := (xs.drop (HT.sIx xs.length 0 lo)).take (HT.sIx xs.length xs.length hi - HT.sIx xs.length 0 lo)
theorem cutV_length (xs : List V) (lo hi : Option Int) : (cutV xs lo hi).length ≤ xs.length := by
  unfold cutV
  rw [List.length_take, List.length_drop]
  omega
def rSlT (K : PySem.W.Frag) : V → Option Int → Option Int → Hp → VK → Prop := fun x lo hi H Q => ∃ a xs, x = .ref a ∧ SqT K H a xs ∧
  ¬ (HT.sIx xs.length 0 lo = 0 ∧ HT.sIx xs.length xs.length hi = xs.length) ∧ ∀ p, H p = none → Q (.ref p) (upd H p (.tup (cutV xs lo hi)))
def rLtT (K : PySem.W.Frag) : R2 := fun x y H Q => ∃ a b ns ms, x = .ref a ∧ y = .ref b ∧ SqT K H a (ns.map V.int) ∧ SqT K H b (ms.map V.int) ∧ Q (.bl (HT.lexLt ns ms)) H
def rCatT (K : PySem.W.Frag) : R2 := fun x y H Q => ∃ a b xs ys, x = .ref a ∧ y = .ref b ∧ SqT K H a xs ∧ SqT K H b ys ∧ xs ≠ [] ∧ xs.length + ys.length ≤ sizeLine ∧
  (ys = [] → Q (.ref a) H) ∧ (ys ≠ [] → ∀ p, H p = none → Q (.ref p) (upd H p (.tup (xs ++ ys))))
end
end L2
namespace L2
open PySem PySem.Spec PyProof.Rows
def ixN (n : Nat) (i : Int) : Option Nat := if 0 ≤ i then (if i < n then some i.toNat else none) else if -(n : Int) ≤ i then some (i + n).toNat else none
def atI {α : Type} (xs : List α) (i : Int) : Option α := (ixN xs.length i).bind fun j => xs[j]?
theorem ixN_seq {n : Nat} {i : Int} {j : Nat} (h : ixN n i = some j) : seqIndex? i n = some j ∧ j < n ∧ -(n : Int) ≤ i ∧ i < n := by
  unfold ixN at h
  by_cases h0 : 0 ≤ i
  · rw [if_pos h0] at h
    by_cases h1 : i < n
    · rw [if_pos h1] at h
      have e : i.toNat = j := Option.some.inj h
      exact ⟨by rw [seqIndex_of h0 h1, e], by omega, by omega, h1⟩
    · rw [if_neg h1] at h; cases h
  · rw [if_neg h0] at h
    by_cases h1 : -(n : Int) ≤ i
    · rw [if_pos h1] at h
      have e : (i + n).toNat = j := Option.some.inj h
      exact ⟨by rw [seqIndex_neg (by omega) h1, e], by omega, h1, by omega⟩
    · rw [if_neg h1] at h; cases h
theorem atI_get {α : Type} {xs : List α} {i : Int} {v : α} (h : atI xs i = some v) : ∃ j, seqIndex? i xs.length = some j ∧ xs[j]? = some v ∧ j < xs.length ∧ -(xs.length : Int) ≤ i ∧ i < xs.length := by
  unfold atI at h
  cases e : ixN xs.length i with
  | none => rw [e] at h; cases h
  | some j =>
    rw [e] at h
    obtain ⟨h1, h2, h3, h4⟩ := ixN_seq e
    exact ⟨j, h1, h, h2, h3, h4⟩
theorem atI_nat {α : Type} {xs : List α} {j : Nat} {v : α} (h : xs[j]? = some v) : atI xs (j : Int) = some v := by
  have hj : j < xs.length := (List.getElem?_eq_some_iff.mp h).1
  have e : ixN xs.length (j : Int) = some j := by
    unfold ixN
    rw [if_pos (by omega), if_pos (by omega)]; simp
  unfold atI; rw [e]; exact h
theorem atI_last {α : Type} (xs : List α) (v : α) : atI (xs ++ [v]) (-1) = some v := by
  have hl : (xs ++ [v]).length = xs.length + 1 := by simp
  have e : ixN (xs ++ [v]).length (-1) = some xs.length := by
    unfold ixN
    rw [hl, if_neg (by decide), if_pos (by omega)]
    congr 1
    omega
  unfold atI
  rw [e]
  show (xs ++ [v])[xs.length]? = some v
  simp
def PlainIx (b : Expr) : Prop := ∀ o i, subscripted b false o i = operate [o, i] (getItem o i)
def IxR (X : Cx) (r : R2) : Prop :=
  ∀ (value slice : Expr) (pins : List (Addr × Obj)) (s : Shared) (σ : St) (H : Hp) (x y : V) (v u : Value) (Q : VK), Inv X pins σ H s → RelV x v → RelV y u → r x y H Q →
    subscripted slice false v u = operate [v, u] (getItem v u) → wpAny (model X.prog X.w) X.A (subscriptTail value slice v u) (EP X pins σ Q) X.xe s
def MtR (X : Cx) (id : String) (r : V → List V → Hp → VK → Prop) : Prop :=
  ∀ (pins : List (Addr × Obj)) (s : Shared) (σ : St) (H : Hp) (x : V) (xs : List V) (v : Value) (us : List Value) (Q : VK), Inv X pins σ H s → RelV x v → Vals xs us → r x xs H Q →
    wpAny (model X.prog X.w) X.A (call (.builtin id) (v :: us)) (EP X pins σ Q) X.xe s
section
variable {X : Cx} {a b : Expr} {ta tb : TE} {pos : Pos}
theorem pe_ix {r : R2} (hr : IxR X r) (ha : PE X a ta) (hb : PE X b tb) (hs : PlainIx b) : PE X (.Subscript a b pos) (tOp r ta tb) := by
  intro pins s σ H Q I h
  exact Subscript_ (binT ha hb I h fun v u s2 x y H2 I2 rx ry q => hr a b pins s2 σ H2 x y v u Q I2 rx ry q (hs _ _))
def rIxL (K : PySem.W.Frag) : R2 := fun x y H Q => ∃ p xs i v, x = .ref p ∧ y = .int i ∧ SqL K H p xs ∧ atI xs i = some v ∧ Q v H
def rIxT (K : PySem.W.Frag) : R2 := fun x y H Q => ∃ p xs i v, x = .ref p ∧ y = .int i ∧ SqT K H p xs ∧ atI xs i = some v ∧ Q v H
def rIxS : R2 := fun x y H Q => ∃ z i c, x = .str z ∧ y = .int i ∧ z.length ≤ sizeLine ∧ atI z.cps.toList i = some c ∧ Q (.str ⟨#[c]⟩) H
theorem ix_list : IxR X (rIxL X.K) := by
  intro value slice pins s σ H x y v u Q I rx ry h hs
  obtain ⟨p, xs, i, z, rfl, rfl, hq, he, q⟩ := h
  cases rx
  obtain ⟨t, rfl⟩ := ry
  obtain ⟨its, r, pl, hz⟩ := I.list hq
  obtain ⟨j, h1, h2, h3, h4, h5⟩ := atI_get he
  obtain ⟨w, ew, rw'⟩ := r.get h2
  have hl := r.length
  have hn := line63
  have fin : EP X pins σ Q w s := ⟨z, H, I, rw', q⟩
  by_cases h0 : 0 ≤ i
  · have hj : i.toNat = j := by
      rw [seqIndex_of h0 h5] at h1
      exact Option.some.inj h1
    exact item_listR pl.isList h0 (by omega) (by rw [hj]; simpa using ew) fin hs
  · have hj : (i + (its.toArray.size : Int)).toNat = j := by
      rw [seqIndex_neg (by omega) h4] at h1
      rw [List.size_toArray, ← hl]
      exact Option.some.inj h1
    exact subscriptTail_builtinR (x := w) pl.isList.typeIs slot_list_getitem.lookup
      (wpAny_getItem_list_neg (Q := fun r s' => r = w ∧ EP X pins σ Q r s') pl.isList (by omega) (by rw [List.size_toArray] <;> omega) (by omega) (by rw [hj]; simpa using ew) ⟨rfl, fin⟩) hs
theorem ix_tup : IxR X (rIxT X.K) := by
  intro value slice pins s σ H x y v u Q I rx ry h hs
  obtain ⟨p, xs, i, z, rfl, rfl, hq, he, q⟩ := h
  cases rx
  obtain ⟨t, rfl⟩ := ry
  obtain ⟨its, r, pl, hz⟩ := I.tuple hq
  obtain ⟨j, h1, h2, h3, h4, h5⟩ := atI_get he
  obtain ⟨w, ew, rw'⟩ := r.get h2
  have hl := r.length
  have hn := line63
  have fin : EP X pins σ Q w s := ⟨z, H, I, rw', q⟩
  exact subscriptTail_builtinR (x := w) pl.typeIs slot_tuple_getitem.lookup
    (getItem_tuple (j := j) (Q := fun r s' => r = w ∧ EP X pins σ Q r s') pl (by omega) (by omega) (by rw [List.size_toArray, ← hl]; exact h1) (by simpa using ew) ⟨rfl, fin⟩) hs
def rIx (K : PySem.W.Frag) : R2 := fun x y H Q => rIxL K x y H Q ∨ rIxT K x y H Q ∨ rIxS x y H Q
theorem mapSeq_set (its : List Value) (n j : Nat) (u : Value) : Obj.mapSeq (·.setIfInBounds j u) { cls := .type "list", data := .seq its.toArray n } = { cls := .type "list", data := .seq (its.set j u).toArray n } := by
  simp [Obj.mapSeq]
theorem Inv.lst {pins : List (Addr × Obj)} {σ : St} {H : Hp} {s : Shared} {p : Addr} {xs : List V} (I : Inv X pins σ H s) (h : H p = some (.lst xs)) :
    ∃ (its : List Value) (n : Nat), Vals xs its ∧ s.heap.get? p = some { cls := .type "list", data := .seq its.toArray n } ∧ xs.length ≤ sizeLine := by
  obtain ⟨z, its, n, r, e⟩ := I.hok p _ h
  exact ⟨its, n, r, e, z⟩
theorem Inv.lstUpd {pins : List (Addr × Obj)} {σ : St} {H : Hp} {s : Shared} {p : Addr} {xs ys : List V} {its its' : List Value} {n n' : Nat} {f : Obj → Obj} (I : Inv X pins σ H s) (h : H p = some (.lst xs))
    (ho : s.heap.get? p = some { cls := .type "list", data := .seq its.toArray n }) (hf : f { cls := .type "list", data := .seq its.toArray n } = { cls := .type "list", data := .seq its'.toArray n' }) (r : Vals ys its') (hz : ys.length ≤ sizeLine) (t : Nat) :
    Inv X pins σ (upd H p (.lst ys)) { s with heap := s.heap.update p f, toks := t } := by
  have e : (s.heap.update p f).get? p = some { cls := .type "list", data := .seq its'.toArray n' } := by
    rw [Heap.get?_update_self f ho (by rw [hf] <;> rfl), hf]
  refine I.write (x := p) (e := p) (by rw [h]; trivial) (.inl rfl) (fun b u hb q => (Heap.get?_update_other _ _ (Ne.symm hb)).trans q) ⟨_, e⟩ ?_
  exact ⟨hz, its', n', r, e⟩
def rSetL : V → V → V → Hp → (Hp → Prop) → Prop := fun o i v H Q => ∃ p xs k j, o = .ref p ∧ i = .int k ∧ H p = some (.lst xs) ∧ ixN xs.length k = some j ∧ Q (upd H p (.lst (xs.set j v)))
theorem set_list : PSet X rSetL := by
  intro pins s σ H o i v ov iv u Q I ro ri rv h
  obtain ⟨p, xs, k, j, rfl, rfl, hp, hj, q⟩ := h
  cases ro
  obtain ⟨t, rfl⟩ := ri
  obtain ⟨its, n, r, ho, hz⟩ := I.lst hp
  obtain ⟨h1, h2, h3, h4⟩ := ixN_seq hj
  have hl := r.length
  have hn := line63
  have I' : Inv X pins σ (upd H p (.lst (xs.set j v))) { s with heap := s.heap.update p (Obj.mapSeq (·.setIfInBounds j u)) } :=
    I.lstUpd hp ho (mapSeq_set its n j u) (r.set rv j) (by rw [List.length_set]; exact hz) s.toks
  by_cases h0 : 0 ≤ k
  · have hk : k.toNat = j := by
      rw [seqIndex_of h0 h4] at h1
      exact Option.some.inj h1
    exact PySem.W.ki_setAt ho h0 (by omega) (by rw [List.size_toArray, ← hl]; exact h4) (by rw [hk]; exact ⟨_, I', q⟩)
  · have hk : (k + (its.toArray.size : Int)).toNat = j := by
      rw [seqIndex_neg (by omega) h3] at h1
      rw [List.size_toArray, ← hl]
      exact Option.some.inj h1
    exact PySem.W.ki_setBack ho (by omega) (by rw [List.size_toArray, ← hl]; exact h3) (by omega) (by rw [hk]; exact ⟨_, I', q⟩)
theorem slice_bounds (lo hi : Option Int) (n : Nat) : (sliceBounds lo hi none n).1 = ((HT.sIx n 0 lo : Nat) : Int) ∧ (sliceBounds lo hi none n).2.1 = ((HT.sIx n n hi : Nat) : Int) ∧ (sliceBounds lo hi none n).2.2 = 1 := by
  refine ⟨?_, ?_, rfl⟩
  · cases lo with
    | none => simp [sliceBounds, HT.sIx]
    | some i =>
      simp only [sliceBounds, HT.sIx, Option.getD_none, show (1 : Int) > 0 by decide, if_true]
      by_cases h : i < 0
      · simp only [h, if_true] <;> omega
      · simp only [h, if_false] <;> omega
  · cases hi with
    | none => simp [sliceBounds, HT.sIx]
    | some i =>
      simp only [sliceBounds, HT.sIx, Option.getD_none, show (1 : Int) > 0 by decide, if_true]
      by_cases h : i < 0
      · simp only [h, if_true] <;> omega
      · simp only [h, if_false] <;> omega
theorem slicePick_cut (its : List Value) (lo hi : Option Int) : slicePick its.toArray lo hi none = ((its.drop (HT.sIx its.length 0 lo)).take (HT.sIx its.length its.length hi - HT.sIx its.length 0 lo)).toArray := by
  obtain ⟨h1, h2, h3⟩ := slice_bounds lo hi its.toArray.size
  unfold slicePick
  rw [h1, h2, h3]
  simp only [sliceRange_one, pick_run, List.size_toArray] <;> rfl
def rSlL (K : PySem.W.Frag) : V → Option Int → Option Int → Hp → VK → Prop := fun x lo hi H Q => ∃ a xs, x = .ref a ∧ SqL K H a xs ∧ ∀ p, H p = none → Q (.ref p) (upd H p (.lst (cutV xs lo hi)))
theorem sl_list : SlR X (rSlL X.K) := by
  intro pins s σ H x v vl vu lo hi sl Q I rx hs pl pu h
  obtain ⟨a, xs, rfl, hx, q⟩ := h
  cases rx
  obtain ⟨its, r, ht, hz⟩ := I.list hx
  have hlen := r.length
  refine ⟨"list", _, slot_list_getitem.lookup, ht.isList.typeIs, ?_⟩
  refine wpAny_getItem_list_slice ht.isList hs pl pu .none (by simp) ?_ (by rw [List.size_toArray] <;> omega)
  rw [slicePick_cut, ← hlen]
  refine ⟨.ref s.heap.objs.size, _, I.laid (t' := s.toks) (o := .lst (cutV xs lo hi)) (fun b ob q => Heap.get?_push_of_some _ q) (Nat.le_refl _) ?_, rfl, q _ (I.hok.fresh (Nat.le_refl _))⟩
  exact ⟨Nat.le_trans (cutV_length xs lo hi) hz, _, 0, (r.drop (HT.sIx xs.length 0 lo)).take (HT.sIx xs.length xs.length hi - HT.sIx xs.length 0 lo), Heap.get?_push_size _ rfl⟩
def flatV : V → Bool
  | .non => true
  | .bl _ => true
  | .int _ => true
  | .str _ => true
  | _ => false
def eqV : V → V → Bool
  | .non, .non => true
  | .bl a, .bl b => a == b
  | .bl a, .int b => (if a then 1 else 0) == b
  | .int a, .bl b => a == (if b then 1 else 0)
  | .int a, .int b => a == b
  | .str a, .str b => a == b
  | _, _ => false
def eqU (x : V) (u : Value) : Bool := match u with
  | .none => eqV .non x
  | .bool b => eqV (.bl b) x
  | .int i _ => eqV (.int i) x
  | .str z _ => eqV (.str z) x
  | _ => false
def inV (x : V) (xs : List V) : Bool := xs.any fun y => eqV y x
def rIn (K : PySem.W.Frag) (neg : Bool) : R2 := fun x y H Q => ∃ p xs, y = .ref p ∧ (SqL K H p xs ∨ SqT K H p xs) ∧ flatV x = true ∧ xs.all flatV = true ∧ Q (.bl (if neg then !inV x xs else inV x xs)) H
theorem call_len_seq : CallR X (.builtin "len") (fun xs H Q => ∃ p ys, xs = [.ref p] ∧ (SqL X.K H p ys ∨ SqT X.K H p ys) ∧ Q (.int ys.length) H) := by
  intro pins s σ H xs us Q I r h
  obtain ⟨p, ys, rfl, hq, q⟩ := h
  obtain ⟨u, rfl, rx⟩ := vals1 r
  cases rx
  have hn := line63
  rcases hq with hq | hq
  · obtain ⟨its, r', pl, hz⟩ := I.list hq
    have hlen := r'.length
    exact Calls.call_len_list pl.isList (by simp only [List.size_toArray] <;> omega) ⟨.int ys.length, H, I.tok _, ⟨s.toks + 1, by rw [List.size_toArray, hlen]⟩, q⟩
  · obtain ⟨its, r', pl, hz⟩ := I.tuple hq
    have hlen := r'.length
    exact len_tuple pl (by simp only [List.size_toArray] <;> omega) ⟨.int ys.length, H, I.tok _, ⟨s.toks + 1, by rw [List.size_toArray, hlen]⟩, q⟩
theorem call_list_of : CallR X (.type "list") (fun xs H Q => ∃ p ys, xs = [.ref p] ∧ (SqL X.K H p ys ∨ SqT X.K H p ys) ∧ ∀ l, H l = none → Q (.ref l) (upd H l (.lst ys))) := by
  intro pins s σ H xs us Q I r h
  obtain ⟨p, ys, rfl, hq, q⟩ := h
  obtain ⟨u, rfl, rx⟩ := vals1 r
  cases rx
  have fin : ∀ (its : List Value), Vals ys its → ys.length ≤ sizeLine → ∀ (h' : Heap) (c' : Nat), (∀ b o', s.heap.get? b = some o' → h'.get? b = some o') →
      h'.get? s.heap.objs.size = some { cls := .type "list", dict := none, data := .seq its.toArray c', slots := #[] } → EP X pins σ Q (.ref s.heap.objs.size) { s with heap := h' } := fun its r' hz h' c' kp e =>
    ⟨.ref s.heap.objs.size, _, I.laid (t' := s.toks) kp (Nat.le_refl _) (show ObjOk X.prog X.w _ h' _ (.lst ys) from ⟨hz, its, c', r', e⟩), rfl, q _ (I.hok.fresh (Nat.le_refl _))⟩
  rcases hq with hq | hq
  · obtain ⟨its, r', pl, hz⟩ := I.list hq
    have hlen := r'.length
    obtain ⟨o, ho, hc, n, hd⟩ := pl.isList
    exact call_list_seq p (.inl rfl) ho hc hd (fun h' c' kp e => fin its r' hz h' c' kp e) (by simp only [List.size_toArray] <;> omega)
  · obtain ⟨its, r', pl, hz⟩ := I.tuple hq
    have hlen := r'.length
    obtain ⟨o, ho, hc, n, hd⟩ := pl
    exact call_list_seq p (.inr rfl) ho hc hd (fun h' c' kp e => fin its r' hz h' c' kp e) (by simp only [List.size_toArray] <;> omega)
def tyV (K : PySem.W.Frag) (T : String) (x : V) (H : Hp) : Prop := match x with
  | .str _ => T = "str"
  | .int _ => T = "int"
  | .ref p => (T = "list" ∧ ∃ xs, SqL K H p xs) ∨ (T = "tuple" ∧ ∃ o, K.lookup p = some o ∧ o.cls = .type "tuple" ∧ o.dict = none) ∨
      (T = "dict" ∧ ((∃ kvs, H p = some (.dK kvs)) ∨ ∃ kvs, H p = some (.dT kvs))) ∨ (T = "set" ∧ ∃ S n, H p = some (.set S n))
  | _ => False
theorem tyV_is {pins : List (Addr × Obj)} {σ : St} {H : Hp} {s : Shared} {T : String} {x : V} {v : Value} (I : Inv X pins σ H s) (r : RelV x v) (ty : tyV X.K T x H) :
    s.TypeIs v T ∧ ∀ a, v = .ref a → ∃ ob, s.heap.get? a = some ob ∧ ob.dict = none := by
  cases x with
  | str z =>
    obtain ⟨t, rfl⟩ := r
    cases (show T = "str" from ty)
    exact ⟨typeIs_str s z t, fun _ e => nomatch e⟩
  | int i =>
    obtain ⟨t, rfl⟩ := r
    cases (show T = "int" from ty)
    exact ⟨typeIs_int s i t, fun _ e => nomatch e⟩
  | ref p =>
    cases r
    rcases ty with ⟨rfl, xs, hq⟩ | ⟨rfl, o, hk, hc, hd⟩ | ⟨rfl, hk⟩ | ⟨rfl, S, n, hk⟩
    · obtain ⟨its, _, pl, _⟩ := I.list hq
      refine ⟨pl.isList.typeIs, fun a e => ?_⟩
      cases e
      obtain ⟨o, n, e, c, hd, _⟩ := pl
      exact ⟨o, e, hd⟩
    · refine ⟨⟨o, I.kIn p o hk, hc⟩, fun a e => ?_⟩
      cases e
      exact ⟨o, I.kIn _ o hk, hd⟩
    · have z : ∃ o, s.heap.get? p = some o ∧ o.ExactDict := by
        rcases hk with ⟨kvs, hk⟩ | ⟨kvs, hk⟩
        · obtain ⟨_, _, _, _, o, _, _, e, ex, _⟩ := I.hok p _ hk
          exact ⟨o, e, ex⟩
        · obtain ⟨_, _, _, _, o, _, _, e, ex, _⟩ := I.hok p _ hk
          exact ⟨o, e, ex⟩
      obtain ⟨o, e, ex⟩ := z
      refine ⟨⟨o, e, ex.1⟩, fun a e2 => ?_⟩
      cases e2
      exact ⟨o, e, ex.2.1⟩
    · obtain ⟨o, _, _, _, e, ex, _⟩ := I.hok p _ hk
      refine ⟨⟨o, e, ex.1⟩, fun a e2 => ?_⟩
      cases e2
      exact ⟨o, e, ex.2.1⟩
  | _ => exact False.elim ty
def tBM0 (K : PySem.W.Frag) (T : String) (r : V → List V → Hp → VK → Prop) (to : TE) : TE := fun σ H Q => to σ H fun x H1 => tyV K T x H1 ∧ r x [] H1 Q
def tBM (K : PySem.W.Frag) (T : String) (r : V → List V → Hp → VK → Prop) (to : TE) (t : TA) : TE := fun σ H Q => to σ H fun x H1 => tyV K T x H1 ∧ t σ H1 fun xs H2 => r x xs H2 Q
variable {o e : Expr} {es : List Expr} {to : TE} {t : TA} {name : Str} {apos cpos : Pos} {T id : String} {r : V → List V → Hp → VK → Prop}
theorem pe_bm0 (pa : PlainAttrs T) (slot : Slot T name id) (hty : typeOf (.builtin id) = pure (.type "method_descriptor")) (hm : MtR X id r) (ho : PE X o to)
    (hbase : attributeBase o name X.env (eval o X.env) = eval o X.env := by rfl) (hline : (apos.endLine == cpos.line) = true := by rfl) : PE X (.Call (.Attribute o name apos) [] [] cpos) (tBM0 X.K T r to) := by
  intro pins s σ H Q I h
  refine wpAny_Call_method0_late hbase hline (thn (ho pins s σ H _ I h) fun v s1 ⟨x, H1, I1, r1, ty, q1⟩ => ?_)
  obtain ⟨h1, h2⟩ := tyV_is I1 r1 ty
  exact ⟨T, id, pa, slot, hty, h1, h2, Calls.callWith_builtin rfl (PySem.evalArgs_none (hm pins s1 σ H1 x [] v [] Q I1 r1 .nil q1))⟩
theorem pe_bm (pa : PlainAttrs T) (slot : Slot T name id) (hty : typeOf (.builtin id) = pure (.type "method_descriptor")) (hm : MtR X id r) (ho : PE X o to) (ha : PA X (e :: es) t)
    (hbase : attributeBase o name X.env (eval o X.env) = eval o X.env := by rfl)
    (hfew : ((backTo cpos (starEach (e :: es) X.env)).all (fun x => !x.1) && (backToKw cpos (keywordEach [] X.env)).all (fun x => x.1.isSome)
      && decide ((e :: es).length + ([] : List Keyword).length + (if ([] : List Keyword).isEmpty then 0 else 1) < 30)) = true := by rfl)
    (hline : (apos.endLine == cpos.line) = true := by rfl) (hs : starEach (e :: es) X.env = (false, eval e X.env) :: starEach es X.env := by rfl) (hplain : (backTo cpos (starEach es X.env)).any (·.1) = false := by rfl) :
    PE X (.Call (.Attribute o name apos) (e :: es) [] cpos) (tBM X.K T r to t) := by
  intro pins s σ H Q I h
  refine wpAny_Call_method_late hbase hfew hline rfl (thn (ho pins s σ H _ I h) fun v s1 ⟨x, H1, I1, r1, ty, q1⟩ => ?_)
  obtain ⟨h1, h2⟩ := tyV_is I1 r1 ty
  refine ⟨T, id, pa, slot, hty, h1, h2, ?_⟩
  have hA := ha cpos pins s1 σ H1 _ I1 q1
  rw [hs] at hA ⊢
  refine Calls.callWith_builtin (by show (false || (backTo cpos (starEach es X.env)).any (·.1)) = false; rw [hplain] <;> rfl) (Calls.evalArgs_plain ?_)
  exact thn hA fun us s2 ⟨vs, H2, I2, r2, q2⟩ => hm pins s2 σ H2 x vs v us Q I2 r1 r2 q2
/- xs.append(e), list.index on a module's tuple .. are MtR facts of 06m -/
end
end L2
namespace L2
open PySem PySem.Spec PyProof.Rows
def MtM (X : Cx) (id : String) (r : V → List V → Hp → VK → Prop) : Prop :=
  ∀ (pins : List (Addr × Obj)) (s : Shared) (σ : St) (H : Hp) (x : V) (xs : List V) (v : Value) (us : List Value) (Q : VK), Inv X pins σ H s → RelV x v → Vals xs us → r x xs H Q →
    wpAny (model X.prog X.w) X.A (call (.builtin id) (v :: us)) (EP X pins σ Q) X.xe s
theorem Vals.one : ∀ {x : V} {us : List Value}, Vals [x] us → ∃ u, us = [u] ∧ RelV x u
  | _, _, .cons r .nil => ⟨_, rfl, r⟩
theorem Vals.zero : ∀ {us : List Value}, Vals [] us → us = []
  | _, .nil => rfl
theorem Vals.dropLast {xs : List V} {us : List Value} (h : Vals xs us) : Vals xs.dropLast us.dropLast := by
  induction h with
  | nil => exact .nil
  | cons r t ih =>
    cases t with
    | nil => exact .nil
    | cons q t' => exact .cons r ih
theorem Vals.rep {xs : List V} {us : List Value} (h : Vals xs us) : ∀ k : Nat, Vals (List.replicate k xs).flatten (List.replicate k us).flatten
  | 0 => .nil
  | k + 1 => by
    rw [List.replicate_succ, List.replicate_succ, List.flatten_cons, List.flatten_cons]
    exact Vals.append h (Vals.rep h k)
theorem erase_last {α : Type} (l : List α) : l.eraseIdx (l.length - 1) = l.dropLast := by
  induction l with
  | nil => rfl
  | cons a r ih =>
    cases r with
    | nil => rfl
    | cons b r =>
      have e : (a :: b :: r).length - 1 = ((b :: r).length - 1) + 1 := by
        have h1 : (a :: b :: r).length = r.length + 2 := rfl
        have h2 : (b :: r).length = r.length + 1 := rfl
        omega
      rw [e, List.eraseIdx_cons_succ, ih]
      all_goals rfl
theorem foldl_rep (its : List Value) : ∀ (k : Nat) (acc : List Value),
    List.foldl (fun x1 x2 => x1 ++ x2) acc.toArray (List.replicate k its.toArray) = (acc ++ (List.replicate k its).flatten).toArray
  | 0, acc => by simp
  | k + 1, acc => by
    have e : acc.toArray ++ its.toArray = (acc ++ its).toArray := by simp
    have e2 : (acc ++ its) ++ (List.replicate k its).flatten = acc ++ (List.replicate (k + 1) its).flatten := by
      rw [List.replicate_succ, List.flatten_cons, List.append_assoc]
    rw [← e2, ← foldl_rep its k (acc ++ its), ← e, List.replicate_succ, List.foldl_cons]
section
variable {X : Cx} {pins : List (Addr × Obj)} {σ : St} {H : Hp} {s : Shared} {l b : Addr} {xs ys zs : List V}
theorem Inv.lset {its its' : List Value} {n : Nat} {f : Array Value → Array Value} {t' : Nat} (I : Inv X pins σ H s) (hH : H l = some (.lst xs))
    (e : s.heap.get? l = some { cls := .type "list", data := .seq its.toArray n }) (hf : f its.toArray = its'.toArray) (hv : Vals ys its') (hz : ys.length ≤ sizeLine) :
    Inv X pins σ (upd H l (.lst ys)) { s with heap := s.heap.update l (Obj.mapSeq f), toks := t' } := by
  have q := PySem.IsL.update e f
  rw [hf] at q
  refine I.write (x := l) (e := l) (by rw [hH]; exact trivial) (.inl rfl) (fun b' u hb hu => (Heap.get?_update_other s.heap (Obj.mapSeq f) (Ne.symm hb)).trans hu) ⟨_, q⟩ ?_
  exact ⟨hz, its', _, hv, q⟩
theorem Inv.lnew {its : List Value} {t' : Nat} (I : Inv X pins σ H s) (hv : Vals ys its) (hz : ys.length ≤ sizeLine) :
    Inv X pins σ (upd H s.heap.objs.size (.lst ys)) { s with heap := s.heap.push { cls := .type "list", data := .seq its.toArray }, toks := t' } :=
  I.laid (fun _ _ q => Heap.get?_push_of_some _ q) (Nat.le_refl _) ⟨hz, its, 0, hv, Heap.get?_push_size _ rfl⟩
theorem Inv.fresh (I : Inv X pins σ H s) : H s.heap.objs.size = none := I.hok.fresh (Nat.le_refl _)
theorem Inv.lstM (I : Inv X pins σ H s) (hH : H l = some (.lst xs)) : xs.length ≤ sizeLine ∧ ∃ (its : List Value) (n : Nat), Vals xs its ∧ xs.length = its.length ∧ s.heap.get? l = some { cls := .type "list", data := .seq its.toArray n } := by
  obtain ⟨z, its, n, r, e⟩ := I.hok l _ hH
  exact ⟨z, its, n, r, r.length, e⟩
theorem notLongL {n : Nat} (h : n ≤ sizeLine) : Builtin.List.listTooLong n = false := by
  unfold Builtin.List.listTooLong
  exact decide_eq_false (by omega)
end
section
variable {X : Cx}
def rAppend : V → List V → Hp → VK → Prop := fun x vs H Q => ∃ l xs y, x = .ref l ∧ vs = [y] ∧ H l = some (.lst xs) ∧ xs.length < sizeLine ∧ Q .non (upd H l (.lst (xs ++ [y])))
theorem mt_append : MtM X "list.append" rAppend := by
  intro pins s σ H x vs v us Q I rx rv h
  obtain ⟨l, xs, y, rfl, rfl, hH, hz, q⟩ := h
  cases rx
  obtain ⟨u, rfl, ru⟩ := rv.one
  obtain ⟨z, its, n, r, hl, e⟩ := I.lstM hH
  refine call_meets F.slot_list_append ⟨_, e, rfl⟩ F.entry_list_append (F.args_list_append_2 _ _) (PySem.list_append l its.toArray n u (by rw [List.size_toArray]; omega)) ⟨e, ?_⟩
  refine ⟨.non, _, I.lset (its' := its ++ [u]) hH e (by simp) (r.append (.cons ru .nil)) ?_, rfl, q⟩
  rw [List.length_append, List.length_singleton]
  omega
def rExtend : V → List V → Hp → VK → Prop := fun x vs H Q => ∃ l b xs zs, x = .ref l ∧ vs = [.ref b] ∧ H l = some (.lst xs) ∧ H b = some (.lst zs) ∧ xs.length + zs.length ≤ sizeLine ∧ Q .non (upd H l (.lst (xs ++ zs)))
def rPop : V → List V → Hp → VK → Prop := fun x vs H Q => ∃ l xs y, x = .ref l ∧ vs = [] ∧ H l = some (.lst xs) ∧ xs[xs.length - 1]? = some y ∧ Q y (upd H l (.lst xs.dropLast))
theorem mt_pop : MtM X "list.pop" rPop := by
  intro pins s σ H x vs v us Q I rx rv h
  obtain ⟨l, xs, y, rfl, rfl, hH, hy, q⟩ := h
  cases rx
  have hus := rv.zero
  subst hus
  obtain ⟨z, its, n, r, hl, e⟩ := I.lstM hH
  obtain ⟨u, hu, ru⟩ := r.get hy
  have hy' : its.toArray[its.toArray.size - 1]? = some u := by
    show its.toArray[its.length - 1]? = some u
    rw [← Array.getElem?_toList, ← hl]
    exact hu
  refine call_meets F.slot_list_pop ⟨_, e, rfl⟩ F.entry_list_pop (F.args_list_pop_1 _) (MeetsSeq.list_pop_last l its.toArray n u hy' (by rw [List.size_toArray]; omega)) ⟨e, ?_⟩
  refine ⟨y, _, I.lset (its' := its.dropLast) hH e ?_ r.dropLast ?_, ru, q⟩
  · show its.toArray.eraseIdxIfInBounds (its.toArray.size - 1) = its.dropLast.toArray
    rw [List.size_toArray, List.eraseIdxIfInBounds_toArray, erase_last]
  · rw [List.length_dropLast]
    omega
def rPopAt : V → List V → Hp → VK → Prop := fun x vs H Q => ∃ l xs i k y, x = .ref l ∧ vs = [.int i] ∧ H l = some (.lst xs) ∧ -(2 ^ 63) ≤ i ∧ i < 2 ^ 63 ∧ seqIndex? i xs.length = some k ∧ xs[k]? = some y ∧ Q y (upd H l (.lst (xs.eraseIdx k)))
def rReverse : V → List V → Hp → VK → Prop := fun x vs H Q => ∃ l xs, x = .ref l ∧ vs = [] ∧ H l = some (.lst xs) ∧ Q .non (upd H l (.lst xs.reverse))
def rClear : V → List V → Hp → VK → Prop := fun x vs H Q => ∃ l xs, x = .ref l ∧ vs = [] ∧ H l = some (.lst xs) ∧ Q .non (upd H l (.lst []))
def rCat : R2 := fun x y H Q => ∃ l b xs zs, x = .ref l ∧ y = .ref b ∧ H l = some (.lst xs) ∧ H b = some (.lst zs) ∧ xs.length + zs.length ≤ sizeLine ∧ ∀ p, H p = none → Q (.ref p) (upd H p (.lst (xs ++ zs)))
theorem op_cat : OpR X (binaryOp .Add) rCat := by
  intro pins s σ H x y v u Q I rx ry h
  obtain ⟨l, b, xs, zs, rfl, rfl, hH, hB, hz, q⟩ := h
  cases rx
  cases ry
  obtain ⟨z, its, n, r, hl, e⟩ := I.lstM hH
  obtain ⟨z2, its2, n2, r2, hl2, e2⟩ := I.lstM hB
  refine PySem.P.add_list e e2 ?_ (by rw [List.size_toArray, List.size_toArray]; omega)
  have ea : its.toArray ++ its2.toArray = (its ++ its2).toArray := by simp
  rw [ea]
  exact ⟨.ref _, _, I.lnew (t' := s.toks) (r.append r2) (by rw [List.length_append]; omega), rfl, q _ I.fresh⟩
def rRep : R2 := fun x y H Q => ∃ l k xs, x = .ref l ∧ y = .int k ∧ H l = some (.lst xs) ∧ -(2 ^ 63) ≤ k ∧ k < 2 ^ 63 ∧ xs.length * k.toNat ≤ sizeLine ∧
  ∀ p, H p = none → Q (.ref p) (upd H p (.lst (List.replicate k.toNat xs).flatten))
theorem len_rep {α : Type} (xs : List α) (k : Nat) : (List.replicate k xs).flatten.length = k * xs.length := by
  induction k with
  | zero => simp
  | succ k ih => rw [List.replicate_succ, List.flatten_cons, List.length_append, ih, Nat.succ_mul, Nat.add_comm]
theorem op_rep : OpR X (binaryOp .Mult) rRep := by
  intro pins s σ H x y v u Q I rx ry h
  obtain ⟨l, k, xs, rfl, rfl, hH, h1, h2, hz, q⟩ := h
  cases rx
  obtain ⟨t, rfl⟩ := ry
  obtain ⟨z, its, n, r, hl, e⟩ := I.lstM hH
  have hlen : its.toArray.size * k.toNat ≤ sizeLine := by rw [List.size_toArray, ← hl]; exact hz
  have hcap : ¬ its.toArray.size * k.toNat > (2 ^ 63 - 1) / 8 := by
    have : (sizeLine : Nat) ≤ (2 ^ 63 - 1) / 8 := by decide
    omega
  have hfit : ¬ (!Builtin.List.listFitsIndex k) = true := by
    rw [fitsIndex_both h1 h2]
    exact Bool.false_ne_true
  have hlong : ¬ Builtin.List.listTooLong (its.toArray.size * k.toNat) = true := by
    rw [notLongL hlen]
    exact Bool.false_ne_true
  have hnew : List.foldl (fun x1 x2 => x1 ++ x2) #[] (List.replicate (if its.toArray.isEmpty = true then 0 else k.toNat) its.toArray) = (List.replicate k.toNat its).flatten.toArray := by
    have f0 : ∀ m : Nat, List.foldl (fun x1 x2 => x1 ++ x2) #[] (List.replicate m its.toArray) = (List.replicate m its).flatten.toArray := fun m => by
      have := foldl_rep its m []
      rw [List.nil_append] at this
      exact this
    rw [f0]
    cases its with
    | nil => simp
    | cons a r' => rw [if_neg (by simp)]
  refine wpAny_binaryOp_repeat_ref (T := "list") (U := "int") (by decide) ⟨_, e, rfl⟩ (fun s' => typeIs_int s' k t) noFill_list_mul F.fills_int_mul F.slot_int_rmul repeat_list F.slot_int_index.lookup
    (call_meets F.slot_int_rmul (typeIs_int s k t) F.entry_int_rmul (F.args_int_rmul_2 _ _) (int___rmul___int_list k t l its.toArray n)
      ⟨e, rfl, ⟨_, e, rfl⟩, call_meets F.slot_list_mul ⟨_, e, rfl⟩ F.entry_list_mul (F.args_list_mul_2 _ _) (AutoListH.list___mul___list_int_3 l its.toArray n k t hfit hcap hlong) ⟨e, ?_⟩⟩)
  rw [hnew]
  exact ⟨.ref _, _, I.lnew (t' := s.toks) (r.rep k.toNat) (by rw [len_rep, Nat.mul_comm]; exact hz), rfl, q _ I.fresh⟩
end
section
variable {prog : Program} {w : World} {A : Around} {E : Value → Shared → Prop} {s : Shared}
set_option maxRecDepth 100000 in
end
section
variable {X : Cx}
end
end L2
namespace Att
open PySem PySem.W PySem.Calls PyProof.Rows
theorem ints_of_wellAll {P : Params} {h : Heap} : ∀ (ns : List Int) (vs : List Value), WellAll P h vs (ns.map WData.int) → IntsAre vs ns := by
  intro ns
  induction ns with
  | nil =>
    intro vs w
    rw [List.map_nil] at w
    cases w
    exact .nil
  | cons n ns ih =>
    intro vs w
    rw [List.map_cons] at w
    cases w with
    | cons a b =>
      cases a
      exact .cons _ _ (ih _ b)
theorem script_of {l : OpenLaw} {n : Nat} (hn : l.most = some n) {P : Params} {h : Heap} {args : List WData} {vals : List Value}
    (hpre : l.row.toRowW.claim.pre args = true) (hwl : WellAll P h vals args) :
    ∃ a vs ns, vals = [Value.ref a] ∧ args = [WData.list (ns.map WData.int)] ∧ h.get? a = some { cls := .type "list", data := .seq vs.toArray } ∧ IntsAre vs ns ∧ ns.length ≤ n := by
  have hsh : WShape.hasAll [] args [.list .int] = true := (pre_splitW hpre).1
  have hc : l.pre.holds [] { args := args } = true := (pre_splitW hpre).2
  obtain ⟨d, r, rfl, h1, h2⟩ := hasAllW_cons hsh
  obtain rfl := hasAllW_nil h2
  obtain ⟨xs, rfl, h3⟩ := hasW_list h1
  obtain ⟨ns, rfl⟩ := items_int h3
  have hlen : ns.length ≤ n := by
    unfold OpenLaw.pre at hc
    have h4 : (WTm.not (.lt (.lit (.int (n : Int))) (.len (.arg 0)))).holds [] { args := [.list (ns.map .int)] } = true := by
      have h4 := (holds_andW hc).1
      rw [hn] at h4
      exact h4
    have h5 := condW_of h4 (w_not (w_lt w_lit (w_len_list (w_arg rfl))))
    rw [List.length_map] at h5
    refine Nat.le_of_not_lt fun q => ?_
    have q' : (n : Int) < ((ns.length : Nat) : Int) := by omega
    first
      | (rw [decide_eq_true q'] at h5; exact absurd h5 (by decide))
      | (simp at h5; omega)
  cases hwl with
  | cons w1 w2 =>
    cases w2
    cases w1 with
    | list ho hall => exact ⟨_, _, ns, rfl, rfl, ho, ints_of_wellAll ns _ hall, hlen⟩
theorem post_true (l : OpenLaw) (args : List WData) : l.row.toRowW.claim.post args (.bool true) args = true :=
  postW_of (r := l.row.toRowW) (X := (true == true))
    (show WShape.has [] (.bool true) .bool = true by first | rfl | decide | simp [WShape.has, WShape.arms, WShape.armsAll])
    (show (WTm.eq .res (.lit (.bool true))).value [] { args := args, res := some (.bool true), after := args } = some (.bool (true == true)) from w_eq_bool (w_res rfl) w_lit) rfl
theorem attach_call {l : OpenLaw} {n : Nat} {q : Program} {loose : List Str} {XP : (Str → Option Value) → Heap → Prop} {YP : World → Heap → Prop} {d : DefRec}
    (hn : l.most = some n) (hdf : d.params.defaults = [])
    (call : ∀ (w : World) (s₀ s₁ : Shared) (mg mb : Str → Option Value) (fa : Addr) (o : Obj) (pm cd doc : Value) (a : Addr) (vs : List Value) (ns : List Int),
      Ground q loose [] XP w s₀ mg mb s₁.heap → YP w s₁.heap →
      s₁.heap.get? fa = some o → o.data = .func (docDef d.name d.params d.body d.scope pm cd doc) → s₁.heap.CodeRec cd d.name → mg d.name = some (.ref fa) →
      s₁.heap.get? a = some { cls := .type "list", data := .seq vs.toArray } → IntsAre vs ns → ns.length ≤ n → s₁.gens = #[] →
      codeAny (model l.prog w) callerA (.call (.ref fa) ⟨[.ref a], []⟩) (fun r s' => r = .ok (.ret (.bool true)) ∧ OldK s₁.heap s'.heap ∧ s'.os = s₁.os ∧ AllBare s'.gens) s₁) :
    WalkO q loose XP YP l.row.toRowW d [] (fun f vs => PySem.call f vs) := by
  intro w s₀ s₁ mg mb G Y fa o pm cd doc dV kV ho hd hcd hD hmg hg args vals as hpre hlay hrd hwl hlo
  obtain rfl : dV = .none := Dflts.none hD hdf
  obtain rfl : kV = .none := Dflts.noKw hD
  obtain ⟨a, vs, ns, rfl, rfl, hobj, hints, hlen⟩ := script_of hn hpre hwl
  refine enter_call (codeAny_mono (call w s₀ s₁ mg mb fa o pm cd doc a vs ns G Y ho (fd_plain hd) hcd hmg hobj hints hlen hg) fun r s' hq => ?_)
  obtain ⟨rfl, h2, h3, h4⟩ := hq
  exact ⟨.inl ⟨.bool true, .bool true, [], rfl, fun _ => rfl, .bool true, post_true l _, fun _ => ⟨List.Pairwise.nil, fun _ hm => (nomatch hm)⟩⟩, h2, h3, h4⟩
section
variable {prog : Program} {w : World} {A : Around} {E : Value → Shared → Prop} {s : Shared} {K : Frag}
def noObjs (h : Heap) : Heap := { h with objs := #[] }
def ledger (h : Heap) (L d : Addr) : List (Addr × Obj) := (List.range h.objs.size).filterMap fun a => if a = L ∨ a = d then none else (h.get? a).map fun o => (a, o)
end
end Att
namespace L2
open PySem PySem.Spec PyProof.Rows
theorem vals_ints : ∀ {vs : List Value} {ns : List Int}, IntsAre vs ns → Vals (ns.map V.int) vs
  | _, _, .nil => .nil
  | _, _, .cons n t h => .cons ⟨t, rfl⟩ (vals_ints h)
def Only (H : Hp) : Prop := ∀ b, H b = none ∨ ∃ o xs, H b = some (.frz o (.lst xs))
theorem law_call {P : Program} {w : World} {K : PySem.W.Frag} {mg mb : Str → Option Value} {CX : CXT} {k : Nat} {fa a : Addr} {fd : FuncData} {x : Str} {sp : Sp} {s₁ : Shared} {vs : List Value} {ns : List Int}
    (KX : K.In s₁.heap) (hns : s₁.heap.Ns mainGlobals mg) (hb : s₁.heap.Ns builtinsNs mb) (hbb : ∀ x : Str, x ≠ "__name__" → mb x = bootBuiltins x) (hlim : s₁.heap.NoLimit) (hg : s₁.gens = #[])
    (ha : s₁.heap.get? a = some { cls := .type "list", data := .seq vs.toArray }) (hi : IntsAre vs ns) (hl : ns.length ≤ sizeLine) (hr : Room k callerA)
    (F : ∀ base : Heap, K.In base → base.Ns mainGlobals mg → FnOk P w K mg base CX k fa fd [x] sp) (hbind : ∀ (s : Shared) (u : Value), BindsTo s fd ⟨[u], []⟩ [(x, u)])
    (hsp : ∀ H : Hp, Only H → SqL K H a (ns.map V.int) → sp [.ref a] H (fun v _ => v = .bl true) fun _ _ _ => False)
    (hCX : ∀ H e s', CX [] H s₁ (fun _ _ _ => False) e s' → False) :
    codeAny (model P w) callerA (.call (.ref fa) ⟨[.ref a], []⟩) (fun r s' => r = .ok (.ret (.bool true)) ∧ OldK s₁.heap s'.heap ∧ s'.os = s₁.os ∧ AllBare s'.gens) s₁ := by
  have rv := vals_ints hi
  have lenV := hi.length
  have core : ∀ H : Hp, Only H → SqL K H a (ns.map V.int) → HOk P w H s₁.heap → (∀ b, H b ≠ none → b = a) → (H a ≠ none → K.lookup a = none) →
      codeAny (model P w) callerA (.call (.ref fa) ⟨[.ref a], []⟩) (fun r s' => r = .ok (.ret (.bool true)) ∧ OldK s₁.heap s'.heap ∧ s'.os = s₁.os ∧ AllBare s'.gens) s₁ := by
    intro H hO hS hok hA hK
    have base_of : ∀ {b : Addr} {o : Obj}, s₁.heap.get? b = some o → H b = none → (hidT s₁.heap H).get? b = some o := fun e n => hidT_get e n
    have noA : ∀ {b : Addr} {o : Obj} {es : Array DictEntry} {ep : Nat}, s₁.heap.get? b = some o → o.data = .dict es ep → H b = none := fun {b o es ep} e d => by
      cases q : H b with
      | none => rfl
      | some u =>
        have e' : b = a := hA b (by rw [q]; simp)
        subst e'
        rw [ha] at e; cases e
        have d' : Data.seq vs.toArray _ = Data.dict es ep := d
        cases d'
    have nsK : ∀ {b : Addr} {m : Str → Option Value}, s₁.heap.Ns b m → (hidT s₁.heap H).Ns b m := fun {b m} ⟨o, es, ep, e, d, r⟩ => ⟨o, es, ep, base_of e (noA e d), d, r⟩
    have hKb : K.In (hidT s₁.heap H) := fun b o e => base_of (KX b o e) (by
      cases q : H b with
      | none => rfl
      | some u =>
        have e' : b = a := hA b (by rw [q]; simp)
        subst e'
        rw [hK (by rw [q]; simp)] at e; cases e)
    have hM : Mod K mg (hidT s₁.heap H) := ⟨hKb, nsK hns, ⟨mb, nsK hb, hbb⟩, let ⟨mc, h1, h2⟩ := hlim; ⟨mc, nsK h1, h2⟩⟩
    have e0 : Env0 P w K mg (hidT s₁.heap H) callerA [] s₁ H := ⟨rfl, hM, fun b o e => of_hidT e, Nat.le_of_eq (hidT_size _ _), trivial, fun b hb => absurd (show b ∈ ([] : List Addr) from hb) (by simp), hok, .of_eq hg⟩
    refine codeAny_mono ((F _ hKb (nsK hns)).run callerA [] s₁ H ⟨[.ref a], []⟩ [.ref a] [.ref a] _ _ hr e0 (hbind s₁ (.ref a)) (.cons rfl .nil) (hsp H hO hS)) fun r s' h => ?_
    cases r with
    | error e => exact (hCX H e s' h).elim
    | ok fl =>
      cases fl with
      | next => exact False.elim h
      | brk => exact False.elim h
      | cont => exact False.elim h
      | ret u =>
        obtain ⟨v, H', os, bare, un, hok', r', q⟩ := h
        have q' : v = .bl true := q
        subst q'
        obtain rfl : u = Value.bool true := r'
        refine ⟨rfl, OldK.of_keep fun b o e => ?_, os, bare⟩
        cases q : H b with
        | none => exact un.keep b o e q (by intro z; exact absurd (show b ∈ ([] : List Addr) from z) (by simp)) (by simp)
        | some u =>
          rcases hO b with z | ⟨ob, xs, z⟩
          · rw [q] at z; cases z
          · have z2 := un.frzs b ob _ z
            obtain ⟨e1, _⟩ := hok b _ z
            obtain ⟨e2, _⟩ := hok' b _ z2
            rw [e] at e1; cases e1
            exact e2
  cases hk : K.lookup a with
  | some o =>
    have e := KX a o hk
    rw [ha] at e
    cases e
    refine core (fun _ => none) (fun _ => .inl rfl) (.inr ⟨_, vs.toArray, _, hk, rfl, rfl, rfl, by rw [List.size_toArray, lenV]; exact hl, by simpa using rv⟩) (fun b u z => by have z' : (none : Option HO) = some u := z; cases z') (fun b z => absurd rfl z) fun z => absurd rfl z
  | none =>
    refine core (fun b => if b = a then some (.frz { cls := .type "list", data := .seq vs.toArray } (.lst (ns.map V.int))) else none) (fun b => ?_) (.inl (.inr ⟨{ cls := .type "list", data := .seq vs.toArray }, if_pos rfl⟩)) (fun b u z => ?_) (fun b z => ?_) fun _ => hk
    · by_cases hb : b = a
      · exact .inr ⟨_, _, if_pos hb⟩
      · exact .inl (if_neg hb)
    · by_cases hb : b = a
      · have z' := (if_pos hb).symm.trans z
        cases z'
        subst hb
        exact ⟨ha, by rw [List.length_map]; exact hl, vs, _, rv, ha⟩
      · have z' := (if_neg hb).symm.trans z
        cases z'
    · by_cases hb : b = a
      · exact hb
      · exact absurd (if_neg hb) z
end L2
namespace L2
open PySem PySem.Spec PyProof.Rows
abbrev KOf {K : PySem.W.Frag} {h : Heap} (_ : K.In h) : PySem.W.Frag := K
theorem walk_of {l : PySem.W.OpenLaw} {n k : Nat} {q : Program} {loose : List Str} {XP : (Str → Option Value) → Heap → Prop} {YP : World → Heap → Prop} {d : DefRec} {K : Params → PySem.W.Frag} {CX : World → CXT} {sp : World → Sp} {x : Str}
    (hn : l.most = some n) (hn2 : n ≤ sizeLine) (hdf : d.params.defaults = []) (hr : Room k callerA)
    (hY : ∀ (w : World) (h : Heap), YP w h → (K w.params).In h)
    (F : ∀ (w : World) (mg : Str → Option Value) (fa : Addr) (h : Heap), (K w.params).In h → h.Ns mainGlobals mg → mg d.name = some (.ref fa) →
      ∃ fd : FuncData, (∀ (s : Shared) (u : Value), BindsTo s fd ⟨[u], []⟩ [(x, u)]) ∧
        ∀ base : Heap, (K w.params).In base → base.Ns mainGlobals mg → FnOk l.prog w (K w.params) mg base (CX w) k fa fd [x] (sp w))
    (hsp : ∀ (w : World) (H : Hp) (a : Addr) (ns : List Int), ns.length ≤ n → Only H → SqL (K w.params) H a (ns.map V.int) → sp w [.ref a] H (fun v _ => v = .bl true) fun _ _ _ => False)
    (hCX : ∀ (w : World) (H : Hp) (s : Shared) (e : Value) (s' : Shared), CX w [] H s (fun _ _ _ => False) e s' → False) :
    PySem.W.WalkO q loose XP YP l.row.toRowW d [] (fun f vs => PySem.call f vs) := by
  refine Att.attach_call hn hdf fun w s₀ s₁ mg mb fa o pm cd doc a vs ns G Y ho hd hcd hmg hobj hints hlen hg => ?_
  have KX := hY w _ Y
  obtain ⟨fd, hb, hF⟩ := F w mg fa _ KX G.T.g hmg
  exact law_call KX G.T.g G.T.b G.T.builtins G.T.nolimit hg hobj hints (Nat.le_trans hlen hn2) hr hF hb (fun H hO hS => hsp w H a ns hlen hO hS) fun H e s' => hCX w H s₁ e s'
end L2
/- THE LAST THEOREM (shape; LID, My.* are yours):
   My.Adr: a structure of the addresses that your layer names (classes, functions); My.Txt K t: a structure (Prop) of the equations over K;
   My.txt_mk : {K} {implicit addresses ..} (e1 : nsIn K mainGlobals "law" = some (some (.ref f))) (e2 : K.lookup f = some ⟨oc, od, .func (fnOf "law" "law" params body scope dV kV doc pm an cdv ct), sl⟩) (e3 : codeIn K cdv "law" = true) .. : ∃ t, My.Txt K t
set_option maxRecDepth 100000 in
set_option maxHeartbeats 0 in
theorem PySem.Challenge.cw_LID_holds : PySem.Challenge.rw_LID.Holds := by
  w_on; o_law; k_head; (case hw => w_witness2)
  k_fill
  refine L2.walk_of (l := PySem.Challenge.rw_LID) (n := 63) (k := 40) (x := "script") (CX := fun w => ..) (sp := fun _ => My.sp_law) rfl (by decide) rfl ⟨rfl, by decide, by decide⟩ (fun w h Y => PySem.W.kIn_of Y) ?F ?S ?C
  case F =>
    intro w mg fa h KX G hmg
    have T : ∃ t, My.Txt (L2.KOf KX) t := by
      dsimp only [L2.KOf]                          -- K must stand as «<heap const> w.params» for k_is
      refine' My.txt_mk ?e1 ?e2 ?e3 ..
      (case e1 => PySem.W.k_is)                    -- in the order: a name -> its address -> its object -> its parts
      (case e2 => PySem.W.k_is)
      ..
    obtain ⟨t, T⟩ := T
    have e0 := hmg.symm.trans (PySem.W.mg_of KX G T.law)
    cases e0                                       -- fa is the law's own address
    exact ⟨_, fun s u => .of_eq rfl, fun base kb nb => My.law_fn T kb nb⟩     -- if «.of_eq rfl» comes too early: refine' ⟨_, ?b, fun base kb nb => My.law_fn T kb nb⟩; exact fun s u => .of_eq rfl
  case S => exact fun w H a ns hl hO hS => ..
  case C => exact ..
(the tactic k_is has no namespace: write k_is) -/
namespace L2
open PySem PySem.Spec PyProof.Rows
def inClass (s : Stmt) (j : Nat) : Stmt := match s with
  | .ClassDef _ _ _ body _ _ _ _ _ _ _ => body.getD j (.Pass ⟨0, 0, 0, 0⟩)
  | _ => .Pass ⟨0, 0, 0, 0⟩
def defArgs (s : Stmt) : Arguments := match s with
  | .FunctionDef _ a _ _ _ _ _ _ _ _ => a
  | _ => { posonlyargs := [], args := [], vararg := none, kwonlyargs := [], kw_defaults := [], kwarg := none, defaults := [] }
def defBody (s : Stmt) : List Stmt := match s with
  | .FunctionDef _ _ b _ _ _ _ _ _ _ => b
  | _ => []
def defScope (s : Stmt) : Scope := match s with
  | .FunctionDef _ _ _ _ _ _ sc _ _ _ => sc
  | _ => { kind := .function, names := [], isGenerator := false, isCoroutine := false }
abbrev CX0 : CXT := fun _ _ _ _ _ _ => False
abbrev E0 : XK := fun _ _ _ => False
theorem pass0 {X : Cx} : Passes CX0 X E0 := fun _ _ _ _ _ _ _ h => h.elim
structure Fun (K : PySem.W.Frag) (x qual : Str) (st : Stmt) (f : Addr) (fd : FuncData) : Prop where
  ex : ∃ (oc : Value) (od : Option Addr) (kV doc pm : Value) (an : Option Addr) (cdv ct : Value) (osl : Array (Option Value)),
    fd = PySem.W.fnOf x qual (defArgs st) (defBody st) (defScope st) .none kV doc pm an cdv ct ∧ K.lookup f = some ⟨oc, od, .func fd, osl⟩ ∧ PySem.W.codeIn K cdv qual = true
  kp : PySem.W.keepIn K (.ref f) = true
section
variable {P : Program} {w : World} {K : PySem.W.Frag} {mg : Str → Option Value} {base : Heap}
theorem Fun.ok {x qual : Str} {st : Stmt} {f : Addr} {fd : FuncData} {N ps : List Str} {k : Nat} {sp : Sp} (F : Fun K x qual st f fd) (S : FnScope N ps (defScope st)) (len : ∀ vs H Q E, sp vs H Q E → vs.length = ps.length)
    (hbody : ∀ (cdv : Value) (A : Around) (outer : List Env) (s : Shared) (H : Hp) (vs : List V) (Q : VK) (E : XK), Room k (A.deeper (envOfC qual (defScope st) s.heap.objs.size f cdv)) → sp vs H Q E →
      ∃ t, PSs (cxOf CX0 P w K mg base N qual (defScope st) f cdv A outer s H E).nox (defBody st) t ∧ t { nx := fun _ H' => Q .non H', rt := Q } (start N vs) H) : FnOk P w K mg base CX0 (k + 1) f fd ps sp := by
  obtain ⟨oc, od, kV, doc, pm, an, cdv, ct, osl, rfl, lk, hcd⟩ := F.ex
  refine fn_of lk hcd S len fun A outer s H vs Q E hr hsp => ?_
  obtain ⟨t, h, q⟩ := hbody cdv A outer s H vs Q E hr hsp
  exact ⟨t, h.nox, q⟩
theorem Fun.binds {x qual : Str} {st : Stmt} {f : Addr} {fd : FuncData} {ps : List Str} (F : Fun K x qual st f fd)
    (h : ∀ (kV doc pm : Value) (an : Option Addr) (cdv ct : Value) (us : List Value), us.length = ps.length → bindArgs (PySem.W.fnOf x qual (defArgs st) (defBody st) (defScope st) .none kV doc pm an cdv ct) ⟨us, []⟩ = pure (ps.zip us)) : Binds K fd ps [] := by
  obtain ⟨oc, od, kV, doc, pm, an, cdv, ct, osl, rfl, lk, hcd⟩ := F.ex
  exact .all (h kV doc pm an cdv ct)
theorem fun_mk {x qual : Str} {st : Stmt} {f : Addr} {oc : Value} {od an : Option Addr} {osl : Array (Option Value)} {kV doc pm cdv ct : Value} (l : K.lookup f = some ⟨oc, od, .func (PySem.W.fnOf x qual (defArgs st) (defBody st) (defScope st) .none kV doc pm an cdv ct), osl⟩)
    (c : PySem.W.codeIn K cdv qual = true) (k : PySem.W.keepIn K (.ref f) = true) : Fun K x qual st f (PySem.W.fnOf x qual (defArgs st) (defBody st) (defScope st) .none kV doc pm an cdv ct) := ⟨⟨oc, od, kV, doc, pm, an, cdv, ct, osl, rfl, l, c⟩, k⟩
end
section
variable {X : Cx}
theorem pv (i : Nat) {x : Str} {pos : Pos} (hN : X.N[i]? = some x := by rfl) (hv : Vis X.env.scope x := by first | exact Or.inl rfl | exact Or.inr (Or.inl rfl) | exact Or.inr (Or.inr rfl)) (hd : (x == ("__debug__" : Str)) = false := by decide)
    (hcd : (x == ("__classdict__" : Str)) = false := by decide) : PE X (.Name x pos) (tVar i) := pe_var hN hv hd hcd
end
theorem ite2 {c A B : Prop} [Decidable c] (h1 : c → A) (h2 : ¬ c → B) : if c then A else B := by
  by_cases h : c
  · rw [if_pos h]
    exact h1 h
  · rw [if_neg h]
    exact h2 h
def Same (H H' : Hp) : Prop := ∀ b o, H b = some o → H' b = some o
theorem Same.refl (H : Hp) : Same H H := fun _ _ h => h
theorem Same.trans {H H1 H2 : Hp} (a : Same H H1) (b : Same H1 H2) : Same H H2 := fun c o h => b c o (a c o h)
theorem Same.free {H H' : Hp} (e : Same H H') {l : Addr} (h : H' l = Option.none) : H l = Option.none := by
  cases q : H l with
  | none => rfl
  | some o =>
    rw [e l o q] at h
    cases h
theorem Same.seq {K : PySem.W.Frag} {H H' : Hp} {a : Addr} {xs : List V} (e : Same H H') (h : SqL K H a xs) : SqL K H' a xs := by
  rcases h with (h | ⟨o, h⟩) | h
  · exact .inl (.inl (e _ _ h))
  · exact .inl (.inr ⟨o, e _ _ h⟩)
  · exact .inr h
end L2
set_option autoImplicit false
namespace Dr
theorem pow_pos {p : Int} (h : 2 ≤ p) : ∀ n : Nat, 0 < p ^ n
  | 0 => by simp
  | n + 1 => by
    rw [Int.pow_succ]
    exact Int.mul_pos (pow_pos h n) (by omega)
theorem pow_add' (p : Int) (m : Nat) : ∀ n : Nat, p ^ (m + n) = p ^ m * p ^ n
  | 0 => by simp
  | n + 1 => by rw [← Nat.add_assoc, Int.pow_succ, pow_add' p m n, Int.pow_succ, Int.mul_assoc]
structure Fac (p x : Int) (d : Nat) (u : Int) : Prop where
  eq : x = u * p ^ d
  un : u % p ≠ 0
theorem Fac.ne {p x u : Int} {d : Nat} (hp : 2 ≤ p) (f : Fac p x d u) : x ≠ 0 := by
  intro z
  have h := f.eq
  rw [z] at h
  have h2 := pow_pos hp d
  rcases Int.mul_eq_zero.mp h.symm with q | q
  · exact f.un (by rw [q]; simp)
  · omega
theorem fac_ex {p : Int} (hp : 2 ≤ p) : ∀ (n : Nat) (x : Int), x.natAbs ≤ n → x ≠ 0 → ∃ d u, Fac p x d u
  | 0, x, h, h0 => by omega
  | n + 1, x, h, h0 => by
    by_cases c : x % p = 0
    · have e : x = p * (x / p) := by have := Int.mul_ediv_add_emod x p; omega
      have q0 : x / p ≠ 0 := by intro z; rw [z] at e; simp at e; exact h0 e
      have q1 : (x / p).natAbs ≤ n := by
        have e2 : x.natAbs = p.natAbs * (x / p).natAbs := by rw [← Int.natAbs_mul, ← e]
        have p2 : 2 ≤ p.natAbs := by omega
        have l : 2 * (x / p).natAbs ≤ p.natAbs * (x / p).natAbs := Nat.mul_le_mul_right _ p2
        have l0 : (x / p).natAbs ≠ 0 := by omega
        omega
      obtain ⟨d, u, f⟩ := fac_ex hp n (x / p) q1 q0
      refine ⟨d + 1, u, ?_, f.un⟩
      have e3 := f.eq
      calc x = p * (x / p) := e
        _ = p * (u * p ^ d) := by rw [← e3]
        _ = u * p ^ (d + 1) := by rw [Int.pow_succ, Int.mul_comm p, Int.mul_assoc]
    · exact ⟨0, x, by simp, c⟩
theorem fac {p x : Int} (hp : 2 ≤ p) (h : x ≠ 0) : ∃ d u, Fac p x d u := fac_ex hp _ x (Nat.le_refl _) h
theorem fac_le {p u v : Int} {d e : Nat} (hp : 2 ≤ p) (h : u * p ^ d = v * p ^ e) (hu : u % p ≠ 0) : e ≤ d := by
  refine Nat.le_of_not_lt fun c => ?_
  obtain ⟨k, rfl⟩ : ∃ k, e = d + (k + 1) := ⟨e - d - 1, by omega⟩
  have h0 := pow_pos hp d
  have e1 : u = v * p ^ (k + 1) := by
    refine Int.eq_of_mul_eq_mul_right (Int.ne_of_gt h0) ?_
    rw [h, pow_add', Int.mul_assoc, Int.mul_comm (p ^ d)]
  rw [e1, Int.pow_succ, ← Int.mul_assoc, Int.mul_emod_left] at hu
  exact hu rfl
theorem Fac.uniq {p x u v : Int} {d e : Nat} (hp : 2 ≤ p) (f : Fac p x d u) (g : Fac p x e v) : d = e ∧ u = v := by
  have h : u * p ^ d = v * p ^ e := by rw [← f.eq, g.eq]
  have a := fac_le hp h f.un
  have b := fac_le hp h.symm g.un
  have c : d = e := Nat.le_antisymm b a
  subst c
  exact ⟨rfl, Int.eq_of_mul_eq_mul_right (Int.ne_of_gt (pow_pos hp d)) h⟩
theorem Fac.dvd {p x u : Int} {d : Nat} (hp : 2 ≤ p) (f : Fac p x d u) (k : Nat) : x % p ^ k = 0 ↔ k ≤ d := by
  constructor
  · intro h
    have e : x = x / p ^ k * p ^ k := by have := Int.mul_ediv_add_emod x (p ^ k); rw [Int.mul_comm]; omega
    exact fac_le hp (f.eq.symm.trans e) f.un
  · intro h
    obtain ⟨j, rfl⟩ : ∃ j, d = j + k := ⟨d - k, by omega⟩
    rw [f.eq, pow_add', ← Int.mul_assoc, Int.mul_emod_left]
def primes : List Int := [2, 3, 5, 7, 11, 13, 17, 19, 23, 29, 31, 37, 41, 43, 47, 53, 59, 61, 67, 71, 73, 79, 83, 89, 97]
theorem primes_ge {p : Int} (h : p ∈ primes) : 2 ≤ p ∧ p ≤ 97 := by
  simp only [primes, List.mem_cons, List.not_mem_nil, or_false] at h
  omega
def invs (p : Nat) : Bool := (List.range p).all fun r => r == 0 || (List.range p).any fun y => r * y % p == 1
theorem invs_all : (primes.map Int.toNat).all invs = true := by decide +kernel
theorem inv_ex {p x : Int} (hp : p ∈ primes) (hx : x % p ≠ 0) : ∃ y : Int, 1 ≤ y ∧ y < p ∧ x * y % p = 1 := by
  have g := primes_ge hp
  have h := List.all_eq_true.mp invs_all p.toNat (List.mem_map.mpr ⟨p, hp, rfl⟩)
  have r0 := Int.emod_nonneg x (show p ≠ 0 by omega)
  have r1 := Int.emod_lt_of_pos x (show 0 < p by omega)
  have h2 := List.all_eq_true.mp h (x % p).toNat (List.mem_range.mpr (by omega))
  have z : ((x % p).toNat == 0) = false := by
    rw [beq_eq_false_iff_ne]; omega
  rw [z, Bool.false_or] at h2
  obtain ⟨y, hy, e⟩ := List.any_eq_true.mp h2
  have e' : (x % p).toNat * y % p.toNat = 1 := by simpa using e
  have hy' := List.mem_range.mp hy
  refine ⟨(y : Int), ?_, by omega, ?_⟩
  · rcases Nat.eq_zero_or_pos y with q | q
    · subst q; simp at e'
    · omega
  · rw [Int.mul_emod, Int.emod_eq_of_lt (Int.natCast_nonneg y) (show (y : Int) < p by omega)]
    have e3 := congrArg (fun n : Nat => (n : Int)) e'
    simp only [Int.natCast_emod, Int.natCast_mul] at e3
    rw [Int.toNat_of_nonneg r0, Int.toNat_of_nonneg (by omega)] at e3
    exact e3
theorem euclid {p a b : Int} (hp : p ∈ primes) (h : a * b % p = 0) (ha : a % p ≠ 0) : b % p = 0 := by
  obtain ⟨y, _, _, e⟩ := inv_ex hp ha
  have g := primes_ge hp
  have h1 : (y * (a * b)) % p = 0 := by rw [Int.mul_emod, h]; simp
  have h2 : (y * (a * b)) % p = (a * y) * b % p := by
    congr 1
    rw [← Int.mul_assoc, Int.mul_comm y a]
  rw [h2, Int.mul_emod, e, Int.one_mul, Int.emod_emod] at h1
  exact h1
theorem Fac.mul {p x y u v : Int} {d e : Nat} (hp : p ∈ primes) (f : Fac p x d u) (g : Fac p y e v) : Fac p (x * y) (d + e) (u * v) := by
  refine ⟨?_, fun h => g.un (euclid hp h f.un)⟩
  rw [f.eq, g.eq, pow_add']
  simp only [Int.mul_assoc, Int.mul_left_comm]
end Dr
namespace Dr
def IsP (n : Int) : Prop := 2 ≤ n ∧ ∀ d : Int, 2 ≤ d → d * d ≤ n → n % d ≠ 0
def isPb (n : Nat) : Bool := decide (2 ≤ n) && (List.range 32).all fun d => decide (d < 2) || decide (n < d * d) || decide (n % d ≠ 0)
def vpF : Nat → Nat → Nat → Nat
  | 0, _, _ => 0
  | f + 1, q, n => if n % q = 0 then vpF f q (n / q) + 1 else 0
def nprimes : List Nat := [2, 3, 5, 7, 11, 13, 17, 19, 23, 29, 31, 37, 41, 43, 47, 53, 59, 61, 67, 71, 73, 79, 83, 89, 97]
def outOf (n r q : Nat) : Nat := if n % q = 0 then r / q ^ vpF 10 q n else r
def left (n : Nat) : Nat := nprimes.foldl (outOf n) n
def chkN (n : Nat) : Bool := decide (1 ≤ left n ∧ left n ≤ 1000) && (decide (left n = 1) || isPb (left n)) && (isPb n == (decide (left n = n) || nprimes.contains n))
theorem Fac.pow_le {p x u : Int} {d : Nat} (hp : 2 ≤ p) (f : Fac p x d u) : (p ^ d).natAbs ≤ x.natAbs := by
  have hu : u ≠ 0 := fun z => f.un (by rw [z]; simp)
  have : x.natAbs = u.natAbs * (p ^ d).natAbs := by rw [f.eq, Int.natAbs_mul]
  have h1 : 1 * (p ^ d).natAbs ≤ u.natAbs * (p ^ d).natAbs := Nat.mul_le_mul_right _ (by omega)
  omega
theorem two_pow_le {p : Int} (hp : 2 ≤ p) : ∀ d : Nat, 2 ^ d ≤ (p ^ d).natAbs
  | 0 => by simp
  | d + 1 => by
    rw [Int.pow_succ, Int.natAbs_mul, Nat.pow_succ]
    exact Nat.mul_le_mul (two_pow_le hp d) (by omega)
theorem Fac.depth_lt {p x u : Int} {d n : Nat} (hp : 2 ≤ p) (f : Fac p x d u) (h : x.natAbs < 2 ^ n) : d < n :=
  (Nat.pow_lt_pow_iff_right (by decide : 1 < 2)).mp (Nat.lt_of_le_of_lt (Nat.le_trans (two_pow_le hp d) (f.pow_le hp)) h)
end Dr
namespace Dr
def pev : List Int → Int → Int
  | [], _ => 0
  | a :: f, x => a + x * pev f x
def pdv : List Int → Int → Int
  | [], _ => 0
  | _ :: f, x => pev f x + x * pdv f x
def dm : Int → List Int → List Int
  | _, [] => []
  | k, a :: f => k * a :: dm (k + 1) f
def pslope : List Int → List Int
  | [] => []
  | [_] => [0]
  | _ :: f => dm 1 f
theorem pev_append (f g : List Int) (x : Int) : pev (f ++ g) x = pev f x + x ^ f.length * pev g x := by
  induction f with
  | nil => simp [pev]
  | cons a f ih =>
    simp only [List.cons_append, pev, ih, List.length_cons]
    grind
theorem pev_zeros (n : Nat) (x : Int) : pev (List.replicate n 0) x = 0 := by
  induction n with
  | zero => rfl
  | succ n ih => simp [List.replicate_succ, pev, ih]
theorem pev_set (x d : Int) : ∀ (f : List Int) (k : Nat) (c : Int), f[k]? = some c → pev (f.set k (c + d)) x = pev f x + d * x ^ k
  | a :: f, 0, c, h => by
    have : a = c := by simpa using h
    subst this
    simp only [List.set_cons_zero, pev, Int.pow_zero]
    omega
  | a :: f, k + 1, c, h => by
    simp only [List.set_cons_succ, pev, pev_set x d f k c (by simpa using h)]
    grind
theorem pev_take_succ {f : List Int} {i : Nat} {c : Int} (h : f[i]? = some c) (x : Int) : pev (f.take (i + 1)) x = pev (f.take i) x + c * x ^ i := by
  have hi := (List.getElem?_eq_some_iff.mp h).1
  rw [List.take_add_one, h, pev_append, List.length_take, Nat.min_eq_left (Nat.le_of_lt hi)]
  simp only [Option.toList, pev]
  grind
def Sm (n : Int) (k : Nat) : Prop := n.natAbs < 2 ^ k
theorem Sm.mono {n : Int} {k l : Nat} (h : Sm n k) (hl : k ≤ l) : Sm n l := Nat.lt_of_lt_of_le h (Nat.pow_le_pow_right (by decide) hl)
theorem Sm.zero (k : Nat) : Sm 0 k := Nat.pow_pos (by decide)
theorem Sm.mul {a b : Int} {k l : Nat} (ha : Sm a k) (hb : Sm b l) : Sm (a * b) (k + l) := by
  unfold Sm at *
  rw [Int.natAbs_mul, Nat.pow_add]
  exact Nat.mul_lt_mul_of_lt_of_lt ha hb
def PolyB (f : List Int) (m : Nat) : Prop := ∀ c, c ∈ f → Sm c m
theorem pev_inj_from : ∀ (f g : List Int) (N : Int), f.length = g.length → (∀ x, N ≤ x → pev f x = pev g x) → f = g
  | [], [], _, _, _ => rfl
  | a :: f, b :: g, N, hl, h => by
    have hab : a = b := by
      let D : Int := ((a - b).natAbs : Int) + 1 + (N.natAbs : Int)
      have hD : N ≤ D := by omega
      have e := h D hD
      simp only [pev] at e
      have e2 : a - b = D * (pev g D - pev f D) := by grind
      refine Decidable.byContradiction fun hne => ?_
      have hz : pev g D - pev f D ≠ 0 := fun z => by
        rw [z] at e2
        simp at e2
        omega
      have h3 : (a - b).natAbs = D.natAbs * (pev g D - pev f D).natAbs := by rw [← Int.natAbs_mul, ← e2]
      have h4 : D.natAbs * 1 ≤ D.natAbs * (pev g D - pev f D).natAbs := Nat.mul_le_mul_left _ (by omega)
      omega
    subst hab
    congr 1
    refine pev_inj_from f g (max N 1) (by simpa using hl) fun x hx => ?_
    have e := h x (by omega)
    simp only [pev] at e
    have e2 : x * pev f x = x * pev g x := by omega
    exact Int.eq_of_mul_eq_mul_left (by omega) e2
  | [], _ :: _, _, hl, _ => by simp at hl
  | _ :: _, [], _, hl, _ => by simp at hl
theorem pev_inj {f g : List Int} (hl : f.length = g.length) (h : ∀ x, pev f x = pev g x) : f = g := pev_inj_from f g 0 hl fun x _ => h x
def IsDeg (f : List Int) (d : Int) : Prop := (d = -1 ∧ ∀ c, c ∈ f → c = 0) ∨ ∃ (k : Nat) (c : Int), d = (k : Int) ∧ f[k]? = some c ∧ c ≠ 0 ∧ ∀ (j : Nat) (b : Int), k < j → f[j]? = some b → b = 0
end Dr
namespace Dr
structure IsProd (f g r : List Int) : Prop where
  len : r.length + 1 = f.length + g.length
  ev : ∀ x, pev r x = pev f x * pev g x
theorem IsProd.uniq {f g r r' : List Int} (h : IsProd f g r) (h' : IsProd f g r') : r = r' := pev_inj (by have := h.len; have := h'.len; omega) fun x => by rw [h.ev, h'.ev]
def padd : List Int → List Int → List Int
  | [], g => g
  | f, [] => f
  | a :: f, b :: g => (a + b) :: padd f g
theorem padd_ev (x : Int) : ∀ f g : List Int, pev (padd f g) x = pev f x + pev g x
  | [], g => by simp [padd, pev]
  | a :: f, [] => by simp [padd, pev]
  | a :: f, b :: g => by
    simp only [padd, pev, padd_ev x f g]
    grind
theorem padd_len : ∀ f g : List Int, (padd f g).length = max f.length g.length
  | [], g => by simp [padd]
  | a :: f, [] => by simp [padd]
  | a :: f, b :: g => by
    simp only [padd, List.length_cons, padd_len f g]
    omega
theorem pev_map (k x : Int) : ∀ f : List Int, pev (f.map (k * ·)) x = k * pev f x
  | [] => by simp [pev]
  | a :: f => by
    simp only [List.map_cons, pev, pev_map k x f]
    grind
def pmul : List Int → List Int → List Int
  | [], _ => []
  | a :: f, g => padd (g.map (a * ·)) (match f with | [] => [] | _ => 0 :: pmul f g)
theorem pmul_ev (x : Int) (g : List Int) : ∀ f : List Int, pev (pmul f g) x = pev f x * pev g x
  | [] => by simp [pmul, pev]
  | [a] => by
    simp only [pmul, padd_ev, pev_map, pev]
    grind
  | a :: b :: f => by
    simp only [pmul, padd_ev, pev_map]
    have := pmul_ev x g (b :: f)
    simp only [pmul, padd_ev, pev_map] at this
    simp only [pev, padd_ev, pev_map] at this ⊢
    grind
theorem pmul_len (g : List Int) (hg : 0 < g.length) : ∀ f : List Int, 0 < f.length → (pmul f g).length + 1 = f.length + g.length
  | [a], _ => by
    simp only [pmul, padd_len, List.length_map, List.length_nil, List.length_cons]
    omega
  | a :: b :: f, _ => by
    have := pmul_len g hg (b :: f) (by simp)
    simp only [pmul, padd_len, List.length_map, List.length_cons] at this ⊢
    omega
theorem pmul_prod {f g : List Int} (hf : 0 < f.length) (hg : 0 < g.length) : IsProd f g (pmul f g) := ⟨pmul_len g hg f hf, fun x => pmul_ev x g f⟩
def psubk (k : Int) : List Int → List Int → List Int
  | [], g => g.map (-k * ·)
  | f, [] => f
  | a :: f, b :: g => (a - k * b) :: psubk k f g
structure IsCont (p : Int) (f : List Int) (c : Nat) : Prop where
  all : ∀ x, x ∈ f → x % p ^ c = 0
  one : ∃ x, x ∈ f ∧ x / p ^ c % p ≠ 0
def pdiv (q : Int) (f : List Int) : List Int := f.map (· / q)
structure IsSeen (f : List Int) (a q : Int) (s : List Int) : Prop where
  len : s.length = f.length
  ev : ∀ y, pev s y = pev f (a + q * y)
end Dr
namespace Dr
def Stp (a b : Int × Int) : Prop := a.2 * b.1 < b.2 * a.1
def Par (a b : Int × Int) : Prop := a.2 * b.1 = b.2 * a.1
instance (a b : Int × Int) : Decidable (Stp a b) := inferInstanceAs (Decidable (_ < _))
instance (a b : Int × Int) : Decidable (Par a b) := inferInstanceAs (Decidable (_ = _))
theorem mul_lt_left {a b c : Int} (hc : 0 < c) (h : a < b) : c * a < c * b := Int.mul_lt_mul_of_pos_left h hc
theorem lt_of_mul {a b c : Int} (hc : 0 < c) (h : c * a < c * b) : a < b := Int.lt_of_mul_lt_mul_left h (Int.le_of_lt hc)
theorem Stp.trans {a b c : Int × Int} (ha : 0 < a.1) (hb : 0 < b.1) (hc : 0 < c.1) (h : Stp a b) (h' : Stp b c) : Stp a c := by
  unfold Stp at *
  refine lt_of_mul hb ?_
  have h1 := mul_lt_left hc h
  have h2 := mul_lt_left ha h'
  have e1 : b.1 * (a.2 * c.1) = c.1 * (a.2 * b.1) := by grind
  have e2 : b.1 * (c.2 * a.1) = a.1 * (c.2 * b.1) := by grind
  have e3 : c.1 * (b.2 * a.1) = a.1 * (b.2 * c.1) := by grind
  omega
theorem Stp.par {a b c : Int × Int} (ha : 0 < a.1) (hb : 0 < b.1) (hc : 0 < c.1) (h : Stp a b) (h' : Par b c) : Stp a c := by
  unfold Stp Par at *
  refine lt_of_mul hb ?_
  have h1 := mul_lt_left hc h
  have e1 : b.1 * (a.2 * c.1) = c.1 * (a.2 * b.1) := by grind
  have e2 : b.1 * (c.2 * a.1) = a.1 * (c.2 * b.1) := by grind
  have e3 : c.1 * (b.2 * a.1) = a.1 * (b.2 * c.1) := by grind
  rw [h'] at e3
  omega
theorem Par.stp {a b c : Int × Int} (ha : 0 < a.1) (hb : 0 < b.1) (hc : 0 < c.1) (h : Par a b) (h' : Stp b c) : Stp a c := by
  unfold Stp Par at *
  refine lt_of_mul hb ?_
  have h1 := mul_lt_left ha h'
  have e1 : b.1 * (a.2 * c.1) = c.1 * (a.2 * b.1) := by grind
  have e2 : b.1 * (c.2 * a.1) = a.1 * (c.2 * b.1) := by grind
  have e3 : c.1 * (b.2 * a.1) = a.1 * (b.2 * c.1) := by grind
  rw [h] at e1
  omega
theorem Par.symm {a b : Int × Int} (h : Par a b) : Par b a := by unfold Par at *; omega
theorem Par.refl (a : Int × Int) : Par a a := rfl
theorem Par.trans {a b c : Int × Int} (hb : 0 < b.1) (h : Par a b) (h' : Par b c) : Par a c := by
  unfold Par at *
  refine Int.eq_of_mul_eq_mul_left (show b.1 ≠ 0 by omega) ?_
  have e1 : b.1 * (a.2 * c.1) = c.1 * (a.2 * b.1) := by grind
  have e2 : b.1 * (c.2 * a.1) = a.1 * (c.2 * b.1) := by grind
  have e3 : c.1 * (b.2 * a.1) = a.1 * (b.2 * c.1) := by grind
  rw [h] at e1
  rw [e1, e3, h', ← e2]
theorem stp_irr (a : Int × Int) : ¬ Stp a a := by unfold Stp; omega
theorem stp_asym {a b : Int × Int} (h : Stp a b) : ¬ Stp b a := by unfold Stp at *; omega
theorem stp_npar {a b : Int × Int} (h : Stp a b) : ¬ Par a b := by unfold Stp Par at *; omega
theorem par_of {a b : Int × Int} (h : ¬ Stp a b) (h' : ¬ Stp b a) : Par a b := by unfold Stp Par at *; omega
structure Border (L : List (Int × Int)) : Prop where
  inc : L.Pairwise Stp
  pos : ∀ x, x ∈ L → 0 < x.1
theorem pw_uniq {α : Type} {R : α → α → Prop} (irr : ∀ x, ¬ R x x) (asym : ∀ x y, R x y → ¬ R y x) : ∀ (bs cs : List α), bs.Pairwise R → cs.Pairwise R → (∀ b, b ∈ bs ↔ b ∈ cs) → bs = cs
  | [], [], _, _, _ => rfl
  | [], c :: cs, _, _, h => absurd ((h c).mpr (List.mem_cons_self ..)) (by simp)
  | b :: bs, [], _, _, h => absurd ((h b).mp (List.mem_cons_self ..)) (by simp)
  | b :: bs, c :: cs, hb, hc, h => by
    obtain ⟨hb1, hb2⟩ := List.pairwise_cons.mp hb
    obtain ⟨hc1, hc2⟩ := List.pairwise_cons.mp hc
    have e : b = c := by
      rcases List.mem_cons.mp ((h b).mp (List.mem_cons_self ..)) with z | z
      · exact z
      rcases List.mem_cons.mp ((h c).mpr (List.mem_cons_self ..)) with w | w
      · exact w.symm
      exact absurd (hc1 b z) (asym _ _ (hb1 c w))
    subst e
    congr 1
    refine pw_uniq irr asym bs cs hb2 hc2 fun x => ⟨fun hx => ?_, fun hx => ?_⟩
    · rcases List.mem_cons.mp ((h x).mp (List.mem_cons_of_mem _ hx)) with z | z
      · subst z; exact absurd (hb1 _ hx) (irr _)
      · exact z
    · rcases List.mem_cons.mp ((h x).mpr (List.mem_cons_of_mem _ hx)) with z | z
      · subst z; exact absurd (hc1 _ hx) (irr _)
      · exact z
def csum (v : Int × Int) : List (Int × Int) → Int × Int
  | [] => (0, 0)
  | x :: L => if Par x v then (x.1 + (csum v L).1, x.2 + (csum v L).2) else csum v L
def pls (a b : Int × Int) : Int × Int := (a.1 + b.1, a.2 + b.2)
theorem csum_append (v : Int × Int) : ∀ L M : List (Int × Int), csum v (L ++ M) = pls (csum v L) (csum v M)
  | [], M => by simp [csum, pls]
  | x :: L, M => by
    have ih := csum_append v L M
    simp only [List.cons_append, csum]
    split
    · rw [ih]
      simp only [pls, Prod.mk.injEq]
      omega
    · exact ih
theorem csum_none {v : Int × Int} : ∀ {L : List (Int × Int)}, (∀ x, x ∈ L → ¬ Par x v) → csum v L = (0, 0)
  | [], _ => rfl
  | x :: L, h => by
    simp only [csum]
    rw [if_neg (h x (List.mem_cons_self ..)), csum_none fun y hy => h y (List.mem_cons_of_mem _ hy)]
theorem csum_ex {v : Int × Int} : ∀ {L : List (Int × Int)}, csum v L ≠ (0, 0) → ∃ x, x ∈ L ∧ Par x v
  | [], h => absurd rfl h
  | x :: L, h => by
    by_cases z : Par x v
    · exact ⟨x, List.mem_cons_self .., z⟩
    · simp only [csum] at h
      rw [if_neg z] at h
      obtain ⟨y, hy, hp⟩ := csum_ex h
      exact ⟨y, List.mem_cons_of_mem _ hy, hp⟩
theorem csum_own : ∀ {L : List (Int × Int)} {a v : Int × Int}, Border L → a ∈ L → 0 < v.1 → Par a v → csum v L = a
  | x :: L, a, v, hB, ha, hv, hav => by
    obtain ⟨h1, h2⟩ := List.pairwise_cons.mp hB.inc
    have hx := hB.pos x (List.mem_cons_self ..)
    simp only [csum]
    rcases List.mem_cons.mp ha with z | z
    · subst z
      rw [if_pos hav, csum_none fun y hy hp => ?_]
      · simp
      · have hy1 := hB.pos y (List.mem_cons_of_mem _ hy)
        exact stp_npar (h1 y hy) (hav.trans hv hp.symm)
    · have ha1 := hB.pos a ha
      rw [if_neg fun hp => stp_npar (h1 a z) (hp.trans hv hav.symm)]
      exact csum_own ⟨h2, fun y hy => hB.pos y (List.mem_cons_of_mem _ hy)⟩ z hv hav
theorem Border.uniq {R S : List (Int × Int)} (hR : Border R) (hS : Border S) (h : ∀ v : Int × Int, 0 < v.1 → csum v R = csum v S) : R = S := by
  have sub : ∀ {R S : List (Int × Int)}, Border R → Border S → (∀ v : Int × Int, 0 < v.1 → csum v R = csum v S) → ∀ a, a ∈ R → a ∈ S := fun {R S} hR hS h a ha => by
    have a1 := hR.pos a ha
    have e1 := csum_own hR ha a1 (Par.refl a)
    rw [h a a1] at e1
    obtain ⟨b, hb, hp⟩ := csum_ex (v := a) (L := S) (fun z => by rw [z] at e1; rw [← e1] at a1; simp at a1)
    have e2 := csum_own hS hb a1 hp
    rw [← e1, e2]
    exact hb
  exact pw_uniq (fun x => stp_irr x) (fun x y => stp_asym) R S hR.inc hS.inc fun b => ⟨sub hR hS h b, sub hS hR (fun v hv => (h v hv).symm) b⟩
def addR : List (Int × Int) → Int × Int → List (Int × Int)
  | [], w => [w]
  | a :: L, w => if Stp a w then w :: a :: L else addR L (pls a w)
theorem par_pls {a w v : Int × Int} (ha : 0 < a.1) (hw : 0 < w.1) (h : Par a w) : (Par (pls a w) v ↔ Par a v) ∧ (Par w v ↔ Par a v) := by
  have h2 : Par w v ↔ Par a v := ⟨fun z => h.trans hw z, fun z => h.symm.trans ha z⟩
  refine ⟨⟨fun z => ?_, fun z => ?_⟩, h2⟩
  · have : Par (pls a w) a := by
      unfold Par pls at *
      simp only
      rw [Int.add_mul, Int.mul_add]
      omega
    exact this.symm.trans (show 0 < (pls a w).1 by unfold pls; simp only; omega) z
  · have z2 := h2.mpr z
    unfold Par pls at *
    simp only
    rw [Int.add_mul, Int.mul_add]
    omega
theorem addR_ok {L : List (Int × Int)} {w : Int × Int} (hw : 0 < w.1) (hB : Border L.reverse) (hl : ∀ x, x ∈ L → ¬ Stp w x) :
    Border (addR L w).reverse ∧ (∀ v : Int × Int, 0 < v.1 → csum v (addR L w).reverse = pls (csum v L.reverse) (csum v [w])) ∧ ∀ y : Int × Int, 0 < y.1 → ¬ Stp y w → ∀ x, x ∈ addR L w → ¬ Stp y x := by
  have inL : ∀ x, x ∈ L → 0 < x.1 := fun x hx => hB.pos x (List.mem_reverse.mpr hx)
  cases L with
  | nil =>
    refine ⟨⟨by simp [addR], fun x hx => ?_⟩, fun v _ => ?_, fun y _ hy x hx => ?_⟩
    · simp [addR] at hx
      rw [hx]; exact hw
    · simp only [addR, List.reverse_cons, List.reverse_nil, List.nil_append, csum, pls]
      split <;> simp
    · simp [addR] at hx
      rw [hx]; exact hy
  | cons a L =>
    have ha := inL a (List.mem_cons_self ..)
    have hB' := hB.inc
    rw [List.reverse_cons, List.pairwise_append] at hB'
    obtain ⟨p1, _, p3⟩ := hB'
    have p3' : ∀ x, x ∈ L → Stp x a := fun x hx => p3 x (List.mem_reverse.mpr hx) a (by simp)
    by_cases z : Stp a w
    · have e : addR (a :: L) w = w :: a :: L := by rw [addR, if_pos z]
      rw [e]
      refine ⟨⟨?_, fun x hx => ?_⟩, fun v _ => ?_, fun y hy0 hy x hx => ?_⟩
      · rw [List.reverse_cons, List.pairwise_append]
        refine ⟨hB.inc, by simp, fun x hx y hy => ?_⟩
        rw [List.mem_singleton.mp hy]
        rcases List.mem_cons.mp (List.mem_reverse.mp hx) with q | q
        · rw [q]; exact z
        · exact (p3' x q).trans (inL x (List.mem_cons_of_mem _ q)) ha hw z
      · rcases List.mem_cons.mp (List.mem_reverse.mp hx) with q | q
        · rw [q]; exact hw
        · exact inL x q
      · rw [List.reverse_cons, csum_append]
      · rcases List.mem_cons.mp hx with q | q
        · rw [q]; exact hy
        · intro st
          have x1 := inL x q
          rcases List.mem_cons.mp q with q' | q'
          · subst q'
            exact hy (st.trans hy0 x1 hw z)
          · exact hy (st.trans hy0 x1 hw ((p3' x q').trans x1 ha hw z))
    · have pa : Par a w := par_of z (hl a (List.mem_cons_self ..))
      have hp0 : 0 < (pls a w).1 := by unfold pls; simp only; omega
      have pl : ∀ x, x ∈ L → Stp x (pls a w) := fun x hx => (p3' x hx).par (inL x (List.mem_cons_of_mem _ hx)) ha hp0 (((par_pls (v := a) ha hw pa).1).mpr (Par.refl a)).symm
      have e : addR (a :: L) w = pls a w :: L := by
        rw [addR, if_neg z]
        cases L with
        | nil => rfl
        | cons b L => rw [addR, if_pos (pl b (List.mem_cons_self ..))]
      rw [e]
      refine ⟨⟨?_, fun x hx => ?_⟩, fun v hv => ?_, fun y hy0 hy x hx => ?_⟩
      · rw [List.reverse_cons, List.pairwise_append]
        refine ⟨p1, by simp, fun x hx y hy => ?_⟩
        rw [List.mem_singleton.mp hy]
        exact pl x (List.mem_reverse.mp hx)
      · rcases List.mem_cons.mp (List.mem_reverse.mp hx) with q | q
        · rw [q]; exact hp0
        · exact inL x (List.mem_cons_of_mem _ q)
      · rw [List.reverse_cons, List.reverse_cons, csum_append, csum_append]
        obtain ⟨i1, i2⟩ := par_pls (v := v) ha hw pa
        have one : ∀ x : Int × Int, csum v [x] = if Par x v then x else (0, 0) := fun x => by
          simp only [csum]
          split <;> simp
        rw [one, one, one]
        by_cases q : Par a v
        · rw [if_pos q, if_pos (i1.mpr q), if_pos (i2.mpr q)]
          simp only [pls, Prod.mk.injEq]
          omega
        · rw [if_neg q, if_neg fun h => q (i1.mp h), if_neg fun h => q (i2.mp h)]
          simp only [pls, Prod.mk.injEq]
          omega
      · rcases List.mem_cons.mp hx with q | q
        · rw [q]
          intro st
          exact hy (st.par hy0 hp0 hw (((par_pls (v := w) ha hw pa).1).mpr pa))
        · intro st
          have x1 := inL x (List.mem_cons_of_mem _ q)
          exact hy (st.trans hy0 x1 hw ((pl x q).par x1 hp0 hw (((par_pls (v := w) ha hw pa).1).mpr pa)))
end Dr
namespace Dr
def mns (a b : Int × Int) : Int × Int := (a.1 - b.1, a.2 - b.2)
def Abv (A s m : Int × Int) : Prop := A.1 ≤ m.1 → m.1 ≤ A.1 + s.1 → s.2 * (m.1 - A.1) ≤ (m.2 - A.2) * s.1
def HullR (ms : List (Int × Int)) (A : Int × Int) : Int × Int → List (Int × Int) → Prop
  | E, [] => E = A ∧ A ∈ ms
  | E, s :: L => E ∈ ms ∧ 0 < s.1 ∧ (∀ m, m ∈ ms → Abv (mns E s) s m) ∧ HullR ms A (mns E s) L
theorem HullR.mem {ms : List (Int × Int)} {A : Int × Int} : ∀ {E : Int × Int} {L : List (Int × Int)}, HullR ms A E L → E ∈ ms
  | _, [], h => h.1 ▸ h.2
  | _, _ :: _, h => h.1
theorem HullR.more {ms : List (Int × Int)} {A M : Int × Int} (hM : ∀ m, m ∈ ms → m.1 < M.1) : ∀ {E : Int × Int} {L : List (Int × Int)}, HullR ms A E L → HullR (ms ++ [M]) A E L
  | E, [], h => ⟨h.1, List.mem_append_left _ h.2⟩
  | E, s :: L, h => by
    obtain ⟨h1, h2, h3, h4⟩ := h
    refine ⟨List.mem_append_left _ h1, h2, fun m hm => ?_, h4.more hM⟩
    rcases List.mem_append.mp hm with z | z
    · exact h3 m z
    · rw [List.mem_singleton.mp z]
      intro a b
      have := hM E h1
      unfold mns at b
      simp only at b
      omega
theorem abv_first {a w : Int × Int} {x y : Int} (ha : 0 < a.1) (hn : w.2 * a.1 ≤ a.2 * w.1) (hx : 0 ≤ x) (h : a.2 * x ≤ y * a.1) (hw : 0 < w.1) : (a.2 + w.2) * x ≤ y * (a.1 + w.1) := by
  have h1 : 0 ≤ x * (a.2 * w.1 - w.2 * a.1) := Int.mul_nonneg hx (by omega)
  have h2 : (a.2 * x) * (a.1 + w.1) ≤ (y * a.1) * (a.1 + w.1) := Int.mul_le_mul_of_nonneg_right h (by omega)
  have h3 : a.1 * ((a.2 + w.2) * x) ≤ a.1 * (y * (a.1 + w.1)) := by
    have e1 : a.1 * ((a.2 + w.2) * x) = (a.2 * x) * (a.1 + w.1) - x * (a.2 * w.1 - w.2 * a.1) := by grind
    have e2 : a.1 * (y * (a.1 + w.1)) = (y * a.1) * (a.1 + w.1) := by grind
    omega
  exact Int.le_of_mul_le_mul_left h3 ha
theorem abv_next {a w : Int × Int} {x y : Int} (hw : 0 < w.1) (hn : w.2 * a.1 ≤ a.2 * w.1) (hx : 0 ≤ x) (hx' : x ≤ w.1) (h : w.2 * x ≤ y * w.1) (ha : 0 < a.1) : (a.2 + w.2) * (x + a.1) ≤ (y + a.2) * (a.1 + w.1) := by
  have h1 : 0 ≤ (w.1 - x) * (a.2 * w.1 - w.2 * a.1) := Int.mul_nonneg (by omega) (by omega)
  have h2 : (w.2 * x) * (a.1 + w.1) ≤ (y * w.1) * (a.1 + w.1) := Int.mul_le_mul_of_nonneg_right h (by omega)
  have h3 : w.1 * ((a.2 + w.2) * (x + a.1)) ≤ w.1 * ((y + a.2) * (a.1 + w.1)) := by
    have e1 : w.1 * ((y + a.2) * (a.1 + w.1)) - w.1 * ((a.2 + w.2) * (x + a.1)) = ((y * w.1) * (a.1 + w.1) - (w.2 * x) * (a.1 + w.1)) + (w.1 - x) * (a.2 * w.1 - w.2 * a.1) := by grind
    omega
  exact Int.le_of_mul_le_mul_left h3 hw
theorem HullR.add {ms : List (Int × Int)} {A M : Int × Int} (hM : ∀ m, m ∈ ms → m.1 < M.1) : ∀ {L : List (Int × Int)} {E w : Int × Int}, HullR ms A E L → M = pls E w → 0 < w.1 → (∀ m, m ∈ ms ++ [M] → Abv E w m) → HullR (ms ++ [M]) A M (addR L w)
  | [], E, w, h, e, hw, hab => by
    have e2 : mns M w = E := by
      rw [e]
      unfold mns pls
      ext <;> simp <;> omega
    refine ⟨by simp, hw, ?_, ?_⟩
    · rw [e2]; exact hab
    · rw [e2]; exact h.more hM
  | a :: L, E, w, h, e, hw, hab => by
    have e2 : mns M w = E := by
      rw [e]
      unfold mns pls
      ext <;> simp <;> omega
    by_cases z : Stp a w
    · rw [addR, if_pos z]
      refine ⟨by simp, hw, ?_, ?_⟩
      · rw [e2]; exact hab
      · rw [e2]; exact h.more hM
    · rw [addR, if_neg z]
      obtain ⟨h1, h2, h3, h4⟩ := h
      have hn : w.2 * a.1 ≤ a.2 * w.1 := by unfold Stp at z; omega
      refine HullR.add hM h4 ?_ (by unfold pls; simp only; omega) fun m hm => ?_
      · rw [e]
        unfold pls mns
        ext <;> simp <;> omega
      · intro b1 b2
        unfold mns pls at *
        simp only at b1 b2 ⊢
        by_cases c : m.1 ≤ E.1
        · rcases List.mem_append.mp hm with q | q
          · have := h3 m q b1 (by simp only; omega)
            simp only at this
            exact abv_first h2 hn (by omega) this hw
          · rw [List.mem_singleton.mp q, e] at c
            simp only at c
            omega
        · have := hab m hm (by omega) (by omega)
          have := abv_next (a := a) hw hn (by omega) (by omega) this h2
          rw [show m.1 - E.1 + a.1 = m.1 - (E.1 - a.1) by omega, show m.2 - E.2 + a.2 = m.2 - (E.2 - a.2) by omega] at this
          exact this
theorem addR_border : ∀ {L : List (Int × Int)} {w : Int × Int}, 0 < w.1 → Border L.reverse → Border (addR L w).reverse
  | [], w, hw, _ => ⟨by simp [addR], fun x hx => by simp [addR] at hx; rw [hx]; exact hw⟩
  | a :: L, w, hw, hB => by
    have inL : ∀ x, x ∈ a :: L → 0 < x.1 := fun x hx => hB.pos x (List.mem_reverse.mpr hx)
    have hB' := hB.inc
    rw [List.reverse_cons, List.pairwise_append] at hB'
    obtain ⟨p1, _, p3⟩ := hB'
    by_cases z : Stp a w
    · rw [addR, if_pos z]
      refine ⟨?_, fun x hx => ?_⟩
      · rw [List.reverse_cons, List.pairwise_append]
        refine ⟨hB.inc, by simp, fun x hx y hy => ?_⟩
        rw [List.mem_singleton.mp hy]
        rcases List.mem_cons.mp (List.mem_reverse.mp hx) with q | q
        · rw [q]; exact z
        · exact (p3 x (List.mem_reverse.mpr q) a (by simp)).trans (inL x (List.mem_cons_of_mem _ q)) (inL a (List.mem_cons_self ..)) hw z
      · rcases List.mem_cons.mp (List.mem_reverse.mp hx) with q | q
        · rw [q]; exact hw
        · exact inL x q
    · rw [addR, if_neg z]
      have ha := inL a (List.mem_cons_self ..)
      exact addR_border (by unfold pls; simp only; omega) ⟨p1, fun x hx => inL x (List.mem_cons_of_mem _ (List.mem_reverse.mp hx))⟩
def wayTo (A : Int × Int) : List (Int × Int) → Int × Int
  | [] => A
  | s :: R => wayTo (pls A s) R
theorem wayTo_append (A : Int × Int) : ∀ R S : List (Int × Int), wayTo A (R ++ S) = wayTo (wayTo A R) S
  | [], S => rfl
  | s :: R, S => wayTo_append (pls A s) R S
theorem HullR.way {ms : List (Int × Int)} {A : Int × Int} : ∀ {L : List (Int × Int)} {E : Int × Int}, HullR ms A E L → wayTo A L.reverse = E ∧ ∀ i s, L.reverse[i]? = some s → wayTo A (L.reverse.take i) ∈ ms ∧ (∀ m, m ∈ ms → Abv (wayTo A (L.reverse.take i)) s m)
  | [], E, h => ⟨h.1.symm, fun i s e => by simp at e⟩
  | a :: L, E, h => by
    obtain ⟨h1, h2, h3, h4⟩ := h
    obtain ⟨w1, w2⟩ := h4.way
    refine ⟨?_, fun i s e => ?_⟩
    · rw [List.reverse_cons, wayTo_append, w1]
      show pls (mns E a) a = E
      unfold pls mns
      ext <;> simp
    · rw [List.reverse_cons] at e ⊢
      by_cases hi : i < L.reverse.length
      · rw [List.getElem?_append_left hi] at e
        rw [List.take_append_of_le_length (by omega)]
        exact w2 i s e
      · rw [List.getElem?_append_right (by omega)] at e
        have hz : i - L.reverse.length = 0 := by
          refine Decidable.byContradiction fun z => ?_
          rw [List.getElem?_eq_none (by rw [List.length_singleton]; omega)] at e
          cases e
        rw [hz] at e
        cases e
        have : i = L.reverse.length := by omega
        rw [this, List.take_left', w1]
        · exact ⟨h4.mem, h3⟩
        · rfl
end Dr
namespace Dr
def tot : List (Int × Int) → Nat
  | [] => 0
  | x :: L => x.1.natAbs + x.2.natAbs + tot L
theorem tot_append : ∀ L M : List (Int × Int), tot (L ++ M) = tot L + tot M
  | [], M => by simp [tot]
  | x :: L, M => by
    have := tot_append L M
    simp only [List.cons_append, tot, this]
    omega
theorem tot_rev (L : List (Int × Int)) : tot L.reverse = tot L := by
  induction L with
  | nil => rfl
  | cons x L ih =>
    rw [List.reverse_cons, tot_append, ih]
    simp only [tot]
    omega
theorem tot_mem : ∀ {L : List (Int × Int)} {x : Int × Int}, x ∈ L → x.1.natAbs + x.2.natAbs ≤ tot L
  | y :: L, x, h => by
    rcases List.mem_cons.mp h with z | z
    · rw [z]; simp only [tot]; omega
    · have := tot_mem z
      simp only [tot]
      omega
theorem tot_addR : ∀ (L : List (Int × Int)) (w : Int × Int), tot (addR L w) ≤ tot L + tot [w]
  | [], w => by simp [addR, tot]
  | a :: L, w => by
    rw [addR]
    split
    · simp only [tot]
      omega
    · have := tot_addR L (pls a w)
      simp only [tot, pls] at this ⊢
      omega
theorem addR_len : ∀ (L : List (Int × Int)) (w : Int × Int), (addR L w).length ≤ L.length + 1
  | [], w => by simp [addR]
  | a :: L, w => by
    rw [addR]
    split
    · simp
    · have := addR_len L (pls a w)
      simp only [List.length_cons]
      omega
theorem tot_sm {L : List (Int × Int)} {x : Int × Int} {m : Nat} (hx : x ∈ L) (h : tot L < 2 ^ m) : Sm x.1 m ∧ Sm x.2 m := by
  have := tot_mem hx
  unfold Sm
  omega
end Dr
namespace Dr
def MarkOf (p : Int) (f : List Int) (m : Int × Int) : Prop := ∃ (i : Nat) (x : Int) (d : Nat) (u : Int), f[i]? = some x ∧ Fac p x d u ∧ m = ((i : Int), (d : Int))
theorem MarkOf.uniq {p : Int} {f : List Int} {m n : Int × Int} (hp : 2 ≤ p) (h : MarkOf p f m) (h' : MarkOf p f n) (e : m.1 = n.1) : m = n := by
  obtain ⟨i, x, d, u, e1, e2, rfl⟩ := h
  obtain ⟨j, y, c, v, e3, e4, rfl⟩ := h'
  simp only at e
  have : i = j := by omega
  subst this
  rw [e1] at e3
  cases e3
  rw [(e2.uniq hp e4).1]
def wt (u m : Int × Int) : Int := u.1 * m.2 - u.2 * m.1
def Low (p : Int) (f : List Int) (u m : Int × Int) : Prop := MarkOf p f m ∧ ∀ n, MarkOf p f n → n = m ∨ wt u m < wt u n
theorem Low.uniq {p : Int} {f : List Int} {u m n : Int × Int} (h : Low p f u m) (h' : Low p f u n) : m = n := by
  rcases h.2 n h'.1 with z | z
  · exact z.symm
  · rcases h'.2 m h.1 with w | w
    · exact w
    · omega
theorem wt_pls (u a b : Int × Int) : wt u (pls a b) = wt u a + wt u b := by
  unfold wt pls
  simp only
  rw [Int.mul_add, Int.mul_add]
  omega
theorem getD_padd : ∀ (f g : List Int) (k : Nat), (padd f g).getD k 0 = f.getD k 0 + g.getD k 0
  | [], g, k => by simp [padd]
  | a :: f, [], k => by simp [padd]
  | a :: f, b :: g, 0 => by simp [padd]
  | a :: f, b :: g, k + 1 => by
    have := getD_padd f g k
    simpa [padd] using this
theorem getD_smul (a : Int) : ∀ (g : List Int) (k : Nat), (g.map (a * ·)).getD k 0 = a * g.getD k 0
  | [], k => by simp
  | b :: g, 0 => by simp
  | b :: g, k + 1 => by
    have := getD_smul a g k
    simpa using this
theorem pmul_zero (a : Int) (f g : List Int) : (pmul (a :: f) g).getD 0 0 = a * g.getD 0 0 := by
  unfold pmul
  rw [getD_padd, getD_smul]
  cases f <;> simp
theorem pmul_succ (a : Int) (f g : List Int) (k : Nat) : (pmul (a :: f) g).getD (k + 1) 0 = a * g.getD (k + 1) 0 + (pmul f g).getD k 0 := by
  conv => lhs; unfold pmul
  rw [getD_padd, getD_smul]
  cases f with
  | nil => simp [pmul]
  | cons b f => simp
theorem pmul_dv {Q : Int} (g : List Int) : ∀ (f : List Int) (k : Nat), (∀ i j, i + j = k → Q ∣ f.getD i 0 * g.getD j 0) → Q ∣ (pmul f g).getD k 0
  | [], k, _ => by simp [pmul]
  | a :: f, 0, h => by
    rw [pmul_zero]
    have := h 0 0 rfl
    simpa using this
  | a :: f, k + 1, h => by
    rw [pmul_succ]
    refine Int.dvd_add ?_ (pmul_dv g f k fun i j e => ?_)
    · have := h 0 (k + 1) (by omega)
      simpa using this
    · have := h (i + 1) j (by omega)
      simpa using this
theorem pmul_but {Q : Int} (g : List Int) : ∀ (f : List Int) (k i0 j0 : Nat), i0 + j0 = k → (∀ i j, i + j = k → i ≠ i0 → Q ∣ f.getD i 0 * g.getD j 0) → Q ∣ (pmul f g).getD k 0 - f.getD i0 0 * g.getD j0 0
  | [], k, i0, j0, _, _ => by simp [pmul]
  | a :: f, 0, i0, j0, e, h => by
    obtain rfl : i0 = 0 := by omega
    obtain rfl : j0 = 0 := by omega
    rw [pmul_zero]
    simp
  | a :: f, k + 1, 0, j0, e, h => by
    obtain rfl : j0 = k + 1 := by omega
    rw [pmul_succ]
    have h1 := pmul_dv (Q := Q) g f k fun i j e => by
      have := h (i + 1) j (by omega) (by omega)
      simpa using this
    have e2 : a * g.getD (k + 1) 0 + (pmul f g).getD k 0 - (a :: f).getD 0 0 * g.getD (k + 1) 0 = (pmul f g).getD k 0 := by
      rw [List.getD_cons_zero]
      omega
    rw [e2]
    exact h1
  | a :: f, k + 1, i0 + 1, j0, e, h => by
    rw [pmul_succ, List.getD_cons_succ]
    have h1 := h 0 (k + 1) (by omega) (by omega)
    rw [List.getD_cons_zero] at h1
    have h2 := pmul_but (Q := Q) g f k i0 j0 (by omega) fun i j e' n => by
      have := h (i + 1) j (by omega) (by omega)
      simpa using this
    have e2 : a * g.getD (k + 1) 0 + (pmul f g).getD k 0 - f.getD i0 0 * g.getD j0 0 = a * g.getD (k + 1) 0 + ((pmul f g).getD k 0 - f.getD i0 0 * g.getD j0 0) := by omega
    rw [e2]
    exact Int.dvd_add h1 h2
theorem getD_mark {p : Int} (hp : 2 ≤ p) (f : List Int) (i : Nat) : f.getD i 0 = 0 ∨ ∃ (d : Nat) (u : Int), Fac p (f.getD i 0) d u ∧ MarkOf p f ((i : Int), (d : Int)) := by
  by_cases z : f.getD i 0 = 0
  · exact .inl z
  · obtain ⟨d, u, fc⟩ := fac hp z
    refine .inr ⟨d, u, fc, i, _, d, u, ?_, fc, rfl⟩
    rw [List.getD_eq_getElem?_getD] at z ⊢
    cases e : f[i]? with
    | none => rw [e] at z; exact absurd rfl z
    | some x => rfl
theorem lt_of_wt {a b c d : Int} (ha : 0 < a) (h : a * c - b < a * d - b) : c < d := Int.lt_of_mul_lt_mul_left (show a * c < a * d by omega) (Int.le_of_lt ha)
theorem Low.mul {p : Int} {f g r : List Int} {u m n : Int × Int} (hp : p ∈ primes) (u1 : 0 < u.1) (hf : Low p f u m) (hg : Low p g u n) (hr : IsProd f g r) : Low p r u (pls m n) := by
  have p2 := primes_ge hp
  have p2' : 2 ≤ p := by omega
  obtain ⟨⟨i0, x0, d0, v0, ex, fx, rfl⟩, lf⟩ := hf
  obtain ⟨⟨j0, y0, e0, w0, ey, fy, rfl⟩, lg⟩ := hg
  have f0 : 0 < f.length := by have := (List.getElem?_eq_some_iff.mp ex).1; omega
  have g0 : 0 < g.length := by have := (List.getElem?_eq_some_iff.mp ey).1; omega
  have er : r = pmul f g := hr.uniq (pmul_prod f0 g0)
  have gx : f.getD i0 0 = x0 := by rw [List.getD_eq_getElem?_getD, ex]; rfl
  have gy : g.getD j0 0 = y0 := by rw [List.getD_eq_getElem?_getD, ey]; rfl
  have rl := hr.len
  have il := (List.getElem?_eq_some_iff.mp ex).1
  have jl := (List.getElem?_eq_some_iff.mp ey).1
  have hi : ∀ i j : Nat, (i ≠ i0 ∨ j ≠ j0) → f.getD i 0 * g.getD j 0 = 0 ∨ ∃ (d : Nat) (v : Int), Fac p (f.getD i 0 * g.getD j 0) d v ∧ wt u ((i0 : Int), (d0 : Int)) + wt u ((j0 : Int), (e0 : Int)) < wt u ((i : Int) + (j : Int), (d : Int)) := fun i j hij => by
    rcases getD_mark p2' f i with z | ⟨d, v, fc, mk⟩
    · exact .inl (by rw [z, Int.zero_mul])
    rcases getD_mark p2' g j with z | ⟨e, w, fd, mk'⟩
    · exact .inl (by rw [z, Int.mul_zero])
    refine .inr ⟨d + e, v * w, fc.mul hp fd, ?_⟩
    have a1 := lf _ mk
    have a2 := lg _ mk'
    have s : wt u ((i : Int) + (j : Int), ((d + e : Nat) : Int)) = wt u ((i : Int), (d : Int)) + wt u ((j : Int), (e : Int)) := by
      rw [← wt_pls]
      unfold pls
      simp
    rw [s]
    rcases a1 with z | z
    · simp only [Prod.mk.injEq] at z
      rcases a2 with y | y
      · simp only [Prod.mk.injEq] at y
        omega
      · have : wt u ((i : Int), (d : Int)) = wt u ((i0 : Int), (d0 : Int)) := by rw [z.1, z.2]
        omega
    · rcases a2 with y | y
      · simp only [Prod.mk.injEq] at y
        have : wt u ((j : Int), (e : Int)) = wt u ((j0 : Int), (e0 : Int)) := by rw [y.1, y.2]
        omega
      · omega
  have W : wt u ((i0 : Int), (d0 : Int)) + wt u ((j0 : Int), (e0 : Int)) = wt u ((i0 : Int) + (j0 : Int), ((d0 + e0 : Nat) : Int)) := by
    rw [← wt_pls]
    unfold pls
    simp
  have dv := pmul_but (Q := p ^ (d0 + e0 + 1)) g f (i0 + j0) i0 j0 rfl fun i j e n => by
    rcases hi i j (.inl n) with z | ⟨d, v, fc, lt⟩
    · rw [z]; exact Int.dvd_zero _
    · rw [W] at lt
      have e' : (i : Int) + (j : Int) = (i0 : Int) + (j0 : Int) := by omega
      rw [e'] at lt
      unfold wt at lt
      simp only at lt
      have := lt_of_wt u1 lt
      exact Int.dvd_of_emod_eq_zero ((fc.dvd p2' _).mpr (by omega))
  have own := fx.mul hp fy
  rw [gx, gy, ← er] at dv
  have rfc : Fac p (r.getD (i0 + j0) 0) (d0 + e0) (r.getD (i0 + j0) 0 / p ^ (d0 + e0)) := by
    obtain ⟨t, et⟩ := dv
    have e1 : r.getD (i0 + j0) 0 = (v0 * w0 + p * t) * p ^ (d0 + e0) := by
      have := own.eq
      rw [Int.pow_succ] at et
      have e3 : (v0 * w0 + p * t) * p ^ (d0 + e0) = v0 * w0 * p ^ (d0 + e0) + p ^ (d0 + e0) * p * t := by grind
      omega
    have q0 := pow_pos p2' (d0 + e0)
    have e2 : r.getD (i0 + j0) 0 / p ^ (d0 + e0) = v0 * w0 + p * t := by rw [e1, Int.mul_ediv_cancel _ (by omega)]
    rw [e2]
    refine ⟨e1, fun z => own.un ?_⟩
    rw [Int.add_mul_emod_self_left] at z
    exact z
  refine ⟨⟨i0 + j0, r.getD (i0 + j0) 0, d0 + e0, _, ?_, rfc, by unfold pls; simp⟩, fun m' hm' => ?_⟩
  · rw [List.getD_eq_getElem?_getD, List.getElem?_eq_getElem (by omega)]
    rfl
  obtain ⟨k, z, c, v, ek, fz, rfl⟩ := hm'
  by_cases hk : k = i0 + j0
  · refine .inl ?_
    subst hk
    have ez : r.getD (i0 + j0) 0 = z := by rw [List.getD_eq_getElem?_getD, ek]; rfl
    rw [ez] at rfc
    rw [(fz.uniq p2' rfc).1]
    unfold pls
    simp
  refine .inr (Int.lt_of_not_ge fun le => ?_)
  rw [wt_pls] at le
  have ez : r.getD k 0 = z := by rw [List.getD_eq_getElem?_getD, ek]; rfl
  have dz := pmul_dv (Q := p ^ (c + 1)) g f k fun i j e => by
    rcases hi i j (by omega) with z | ⟨d, v, fc, lt⟩
    · rw [z]; exact Int.dvd_zero _
    · have e' : (i : Int) + (j : Int) = (k : Int) := by omega
      rw [e'] at lt
      have lt2 : wt u ((k : Int), (c : Int)) < wt u ((k : Int), (d : Int)) := by omega
      have := lt_of_wt (a := u.1) (b := u.2 * (k : Int)) u1 lt2
      exact Int.dvd_of_emod_eq_zero ((fc.dvd p2' _).mpr (by omega))
  rw [← er, ez] at dz
  have := (fz.dvd p2' (c + 1)).mp (Int.emod_eq_zero_of_dvd dz)
  omega
theorem abv_wt {u s V m : Int × Int} (s0 : 0 < s.1) (h : s.2 * (m.1 - V.1) ≤ (m.2 - V.2) * s.1) (u1 : 0 < u.1) : s.1 * wt u V + (m.1 - V.1) * wt u s ≤ s.1 * wt u m := by
  unfold wt
  have h2 := Int.mul_le_mul_of_nonneg_left h (Int.le_of_lt u1)
  have e : s.1 * (u.1 * m.2 - u.2 * m.1) - (s.1 * (u.1 * V.2 - u.2 * V.1) + (m.1 - V.1) * (u.1 * s.2 - u.2 * s.1)) = u.1 * ((m.2 - V.2) * s.1) - u.1 * (s.2 * (m.1 - V.1)) := by grind
  omega
theorem stp_wt {s u : Int × Int} : Stp s u ↔ wt u s < 0 := by
  unfold Stp wt
  rw [Int.mul_comm s.2]
  omega
theorem stp_wt' {s u : Int × Int} : Stp u s ↔ 0 < wt u s := by
  unfold Stp wt
  rw [Int.mul_comm s.2]
  omega
theorem HullR.low {ms : List (Int × Int)} {A u : Int × Int} (u1 : 0 < u.1) (hu : ∀ m n, m ∈ ms → n ∈ ms → m.1 = n.1 → m = n) : ∀ {L : List (Int × Int)} {E : Int × Int}, HullR ms A E L → Border L.reverse → (∀ s, s ∈ L → ¬ Par s u) →
    ∃ V, V = wayTo A (L.reverse.filter fun s => decide (Stp s u)) ∧ V ∈ ms ∧ A.1 ≤ V.1 ∧ V.1 ≤ E.1 ∧ ∀ m, m ∈ ms → A.1 ≤ m.1 → m.1 ≤ E.1 → m = V ∨ wt u V < wt u m
  | [], E, h, _, _ => by
    obtain ⟨rfl, h2⟩ := h
    exact ⟨E, rfl, h2, Int.le_refl _, Int.le_refl _, fun m hm a b => .inl (hu m E hm h2 (by omega))⟩
  | s :: L, E, h, hB, hP => by
    have way := h.way.1
    obtain ⟨hE, s0, hab, h4⟩ := h
    have way' := h4.way.1
    have hB' := hB.inc
    rw [List.reverse_cons, List.pairwise_append] at hB'
    obtain ⟨b1, _, b3⟩ := hB'
    have bp : ∀ x, x ∈ L.reverse → 0 < x.1 := fun x hx => hB.pos x (by rw [List.reverse_cons]; exact List.mem_append_left _ hx)
    obtain ⟨V, eV, hV, a1, a2, low⟩ := h4.low u1 hu ⟨b1, bp⟩ fun x hx => hP x (List.mem_cons_of_mem _ hx)
    have E1 : (mns E s).1 = E.1 - s.1 := rfl
    have wE : wt u E = wt u (mns E s) + wt u s := by
      rw [← wt_pls]
      congr 1
      unfold pls mns
      ext <;> simp
    have lowE : wt u V ≤ wt u (mns E s) := by
      rcases low _ h4.mem (by omega) (Int.le_refl _) with z | z
      · rw [z]; exact Int.le_refl _
      · omega
    by_cases c : Stp s u
    · have allL : L.reverse.filter (fun x => decide (Stp x u)) = L.reverse := List.filter_eq_self.mpr fun x hx => decide_eq_true ((b3 x hx s (by simp)).trans (bp x hx) s0 u1 c)
      refine ⟨E, ?_, hE, by omega, Int.le_refl _, fun m hm m1 m2 => ?_⟩
      · rw [List.reverse_cons, List.filter_append, allL]
        rw [← way, List.reverse_cons]
        simp [c]
      · have c' := stp_wt.mp c
        by_cases z : m.1 = E.1
        · exact .inl (hu m E hm hE z)
        refine .inr ?_
        by_cases w : m.1 ≤ (mns E s).1
        · rcases low m hm m1 w with y | y
          · rw [y]
            have := low _ h4.mem (by omega) (Int.le_refl _)
            rw [allL, way'] at eV
            rw [eV]
            omega
          · rw [allL, way'] at eV
            rw [eV] at y
            omega
        · have t := abv_wt s0 (hab m hm (by omega) (by omega)) u1
          have e1 : (m.1 - (mns E s).1) * wt u s > s.1 * wt u s := by
            have : 0 < (s.1 - (m.1 - (mns E s).1)) * (0 - wt u s) := Int.mul_pos (by omega) (by omega)
            have e2 : (s.1 - (m.1 - (mns E s).1)) * (0 - wt u s) = (m.1 - (mns E s).1) * wt u s - s.1 * wt u s := by grind
            omega
          have e3 : s.1 * wt u E < s.1 * wt u m := by
            rw [wE, Int.mul_add]
            omega
          exact lt_of_mul s0 e3
    · have c' : Stp u s := Decidable.byContradiction fun z => hP s (List.mem_cons_self ..) (par_of c z)
      have c2 := stp_wt'.mp c'
      refine ⟨V, ?_, hV, a1, by omega, fun m hm m1 m2 => ?_⟩
      · rw [List.reverse_cons, List.filter_append, eV]
        simp [c]
      · by_cases w : m.1 ≤ (mns E s).1
        · exact low m hm m1 w
        · refine .inr ?_
          have t := abv_wt s0 (hab m hm (by omega) (by omega)) u1
          have e1 : 0 < (m.1 - (mns E s).1) * wt u s := Int.mul_pos (by omega) c2
          have e3 : s.1 * wt u (mns E s) < s.1 * wt u m := by omega
          have := lt_of_mul s0 e3
          omega
theorem wayTo_pls (A B : Int × Int) : ∀ R : List (Int × Int), wayTo (pls A B) R = pls (wayTo A R) B
  | [] => rfl
  | s :: R => by
    simp only [wayTo]
    rw [← wayTo_pls (pls A s) B R]
    congr 1
    unfold pls
    ext <;> simp <;> omega
theorem way_csum {N : Int} {v : Int × Int} (hv : 0 < v.1) (A : Int × Int) : ∀ J : List (Int × Int), (∀ s, s ∈ J → 0 < s.1 ∧ s.1 < N) →
    wayTo A (J.filter fun s => decide (Stp s (N * v.1, N * v.2 + 1))) = pls (wayTo A (J.filter fun s => decide (Stp s (N * v.1, N * v.2 - 1)))) (csum v J)
  | [], _ => by simp [wayTo, csum, pls]
  | s :: J, h => by
    obtain ⟨s0, sN⟩ := h s (List.mem_cons_self ..)
    have ih := way_csum (N := N) hv A J fun x hx => h x (List.mem_cons_of_mem _ hx)
    have ihs := way_csum (N := N) hv (pls A s) J fun x hx => h x (List.mem_cons_of_mem _ hx)
    have N0 : 0 < N := by omega
    have ep : s.2 * (N * v.1) - (N * v.2 + 1) * s.1 = N * (s.2 * v.1 - v.2 * s.1) - s.1 := by grind
    have em : s.2 * (N * v.1) - (N * v.2 - 1) * s.1 = N * (s.2 * v.1 - v.2 * s.1) + s.1 := by grind
    have sp : Stp s (N * v.1, N * v.2 + 1) ↔ s.2 * v.1 - v.2 * s.1 ≤ 0 := by
      unfold Stp
      simp only
      constructor
      · intro z
        refine Int.le_of_not_gt fun w => ?_
        have : N * 1 ≤ N * (s.2 * v.1 - v.2 * s.1) := Int.mul_le_mul_of_nonneg_left (by omega) (by omega)
        omega
      · intro z
        have : 0 ≤ N * (0 - (s.2 * v.1 - v.2 * s.1)) := Int.mul_nonneg (by omega) (by omega)
        rw [Int.mul_sub, Int.mul_zero] at this
        omega
    have sm : Stp s (N * v.1, N * v.2 - 1) ↔ s.2 * v.1 - v.2 * s.1 < 0 := by
      unfold Stp
      simp only
      constructor
      · intro z
        refine Int.lt_of_not_ge fun w => ?_
        have : 0 ≤ N * (s.2 * v.1 - v.2 * s.1) := Int.mul_nonneg (by omega) (by omega)
        omega
      · intro z
        have : N * (s.2 * v.1 - v.2 * s.1) ≤ N * (-1) := Int.mul_le_mul_of_nonneg_left (by omega) (by omega)
        omega
    have pr : Par s v ↔ s.2 * v.1 - v.2 * s.1 = 0 := by unfold Par; omega
    simp only [List.filter_cons, csum]
    by_cases c1 : s.2 * v.1 - v.2 * s.1 < 0
    · rw [if_pos (decide_eq_true (sp.mpr (by omega))), if_pos (decide_eq_true (sm.mpr c1)), if_neg fun z => by have := pr.mp z; omega]
      exact ihs
    · by_cases c2 : s.2 * v.1 - v.2 * s.1 = 0
      · rw [if_pos (decide_eq_true (sp.mpr (by omega))), if_neg (by rw [decide_eq_true_eq]; exact fun z => c1 (sm.mp z)), if_pos (pr.mpr c2)]
        simp only [wayTo]
        rw [wayTo_pls, ih]
        unfold pls
        ext <;> simp <;> omega
      · rw [if_neg (by rw [decide_eq_true_eq]; exact fun z => by have := sp.mp z; omega), if_neg (by rw [decide_eq_true_eq]; exact fun z => c1 (sm.mp z)), if_neg fun z => c2 (pr.mp z)]
        exact ih
theorem runs_lt : ∀ J : List (Int × Int), ∃ N : Int, 0 < N ∧ ∀ s, s ∈ J → s.1 < N
  | [] => ⟨1, by decide, fun _ h => nomatch h⟩
  | s :: J => by
    obtain ⟨N, h0, h⟩ := runs_lt J
    refine ⟨if N ≤ s.1 then s.1 + 1 else N, by split <;> omega, fun x hx => ?_⟩
    rcases List.mem_cons.mp hx with z | z
    · rw [z]; split <;> omega
    · have := h x z
      split <;> omega
structure BorderOf (p : Int) (f : List Int) (J : List (Int × Int)) : Prop where
  bor : Border J
  hull : ∃ (ms : List (Int × Int)) (A M : Int × Int), (∀ m, m ∈ ms ↔ MarkOf p f m) ∧ HullR ms A M J.reverse ∧ ∀ m, m ∈ ms → A.1 ≤ m.1 ∧ m.1 ≤ M.1
theorem inc_range {ms : List (Int × Int)} {A M : Int × Int} (h : ms.Pairwise fun a b => a.1 < b.1) (hA : ms.head? = some A) (hM : ms.getLast? = some M) : ∀ m, m ∈ ms → A.1 ≤ m.1 ∧ m.1 ≤ M.1 := fun m hm => by
  constructor
  · cases ms with
    | nil => cases hm
    | cons a ms =>
      simp only [List.head?_cons, Option.some.injEq] at hA
      subst hA
      rcases List.mem_cons.mp hm with z | z
      · rw [z]; exact Int.le_refl _
      · exact Int.le_of_lt ((List.pairwise_cons.mp h).1 m z)
  · obtain ⟨R, rfl⟩ := List.getLast?_eq_some_iff.mp hM
    rcases List.mem_append.mp hm with z | z
    · exact Int.le_of_lt ((List.pairwise_append.mp h).2.2 m z M (by simp))
    · rw [List.mem_singleton.mp z]; exact Int.le_refl _
theorem BorderOf.low {p : Int} {f : List Int} {J : List (Int × Int)} (hp : 2 ≤ p) (h : BorderOf p f J) : ∃ A : Int × Int, ∀ u : Int × Int, 0 < u.1 → (∀ s, s ∈ J → ¬ Par s u) → Low p f u (wayTo A (J.filter fun s => decide (Stp s u))) := by
  obtain ⟨hB, ms, A, M, hm, hH, hr⟩ := h
  refine ⟨A, fun u u1 hP => ?_⟩
  obtain ⟨V, eV, h1, _, _, h4⟩ := hH.low u1 (fun m n a b e => MarkOf.uniq hp ((hm m).mp a) ((hm n).mp b) e) (by rw [List.reverse_reverse]; exact hB) fun s hs => hP s (List.mem_reverse.mp hs)
  rw [List.reverse_reverse] at eV
  rw [← eV]
  exact ⟨(hm V).mp h1, fun n hn => h4 n ((hm n).mpr hn) (hr n ((hm n).mpr hn)).1 (hr n ((hm n).mpr hn)).2⟩
theorem npar_near {N : Int} {v s : Int × Int} (s0 : 0 < s.1) (sN : s.1 < N) : ¬ Par s (N * v.1, N * v.2 + 1) ∧ ¬ Par s (N * v.1, N * v.2 - 1) := by
  unfold Par
  simp only
  have ep : s.2 * (N * v.1) - (N * v.2 + 1) * s.1 = N * (s.2 * v.1 - v.2 * s.1) - s.1 := by grind
  have em : s.2 * (N * v.1) - (N * v.2 - 1) * s.1 = N * (s.2 * v.1 - v.2 * s.1) + s.1 := by grind
  generalize s.2 * v.1 - v.2 * s.1 = c at ep em
  have tri : c ≤ -1 ∨ c = 0 ∨ 1 ≤ c := by omega
  constructor
  · intro z
    rcases tri with w | w | w
    · have : N * c ≤ N * (-1) := Int.mul_le_mul_of_nonneg_left w (by omega)
      omega
    · rw [w] at ep; omega
    · have : N * 1 ≤ N * c := Int.mul_le_mul_of_nonneg_left w (by omega)
      omega
  · intro z
    rcases tri with w | w | w
    · have : N * c ≤ N * (-1) := Int.mul_le_mul_of_nonneg_left w (by omega)
      omega
    · rw [w] at em; omega
    · have : N * 1 ≤ N * c := Int.mul_le_mul_of_nonneg_left w (by omega)
      omega
theorem BorderOf.mul {p : Int} {f g r : List Int} {I J R : List (Int × Int)} (hp : p ∈ primes) (hf : BorderOf p f I) (hg : BorderOf p g J) (hr : BorderOf p r R) (hm : IsProd f g r) : ∀ v : Int × Int, 0 < v.1 → csum v R = pls (csum v I) (csum v J) := fun v hv => by
  have p2 := primes_ge hp
  have p2' : 2 ≤ p := by omega
  obtain ⟨A, lA⟩ := hf.low p2'
  obtain ⟨B, lB⟩ := hg.low p2'
  obtain ⟨C, lC⟩ := hr.low p2'
  obtain ⟨N, N0, hN⟩ := runs_lt (I ++ J ++ R)
  have bI : ∀ s, s ∈ I → 0 < s.1 ∧ s.1 < N := fun s hs => ⟨hf.bor.pos s hs, hN s (by simp [hs])⟩
  have bJ : ∀ s, s ∈ J → 0 < s.1 ∧ s.1 < N := fun s hs => ⟨hg.bor.pos s hs, hN s (by simp [hs])⟩
  have bR : ∀ s, s ∈ R → 0 < s.1 ∧ s.1 < N := fun s hs => ⟨hr.bor.pos s hs, hN s (by simp [hs])⟩
  have n1 : 0 < N * v.1 := Int.mul_pos N0 hv
  have ep := (lC (N * v.1, N * v.2 + 1) n1 fun s hs => (npar_near (bR s hs).1 (bR s hs).2).1).uniq
    ((lA (N * v.1, N * v.2 + 1) n1 fun s hs => (npar_near (bI s hs).1 (bI s hs).2).1).mul hp n1 (lB (N * v.1, N * v.2 + 1) n1 fun s hs => (npar_near (bJ s hs).1 (bJ s hs).2).1) hm)
  have em := (lC (N * v.1, N * v.2 - 1) n1 fun s hs => (npar_near (bR s hs).1 (bR s hs).2).2).uniq
    ((lA (N * v.1, N * v.2 - 1) n1 fun s hs => (npar_near (bI s hs).1 (bI s hs).2).2).mul hp n1 (lB (N * v.1, N * v.2 - 1) n1 fun s hs => (npar_near (bJ s hs).1 (bJ s hs).2).2) hm)
  rw [way_csum hv A I bI, way_csum hv B J bJ, way_csum hv C R bR, em] at ep
  unfold pls at ep ⊢
  simp only [Prod.mk.injEq] at ep
  ext
  · simp only; omega
  · simp only; omega
theorem BorderOf.mul_ne {p : Int} {f g r : List Int} {I J : List (Int × Int)} (hp : p ∈ primes) (hf : BorderOf p f I) (hg : BorderOf p g J) (hm : IsProd f g r) : ∃ x, x ∈ r ∧ x ≠ 0 := by
  have p2 := primes_ge hp
  have p2' : 2 ≤ p := by omega
  obtain ⟨A, lA⟩ := hf.low p2'
  obtain ⟨B, lB⟩ := hg.low p2'
  obtain ⟨N, N0, hN⟩ := runs_lt (I ++ J)
  have n1 : 0 < N * (1 : Int) := by omega
  have bI : ∀ s, s ∈ I → 0 < s.1 ∧ s.1 < N := fun s hs => ⟨hf.bor.pos s hs, hN s (by simp [hs])⟩
  have bJ : ∀ s, s ∈ J → 0 < s.1 ∧ s.1 < N := fun s hs => ⟨hg.bor.pos s hs, hN s (by simp [hs])⟩
  obtain ⟨⟨i, x, d, u, e, fc, _⟩, _⟩ := (lA (N * ((1, 0) : Int × Int).1, N * ((1, 0) : Int × Int).2 + 1) n1 fun s hs => (npar_near (bI s hs).1 (bI s hs).2).1).mul hp n1 (lB (N * ((1, 0) : Int × Int).1, N * ((1, 0) : Int × Int).2 + 1) n1 fun s hs => (npar_near (bJ s hs).1 (bJ s hs).2).1) hm
  exact ⟨x, List.mem_of_getElem? e, fc.ne p2'⟩
theorem way_len : ∀ (J : List (Int × Int)) (A : Int × Int), (∀ s, s ∈ J → 0 < s.1) → A.1 + (J.length : Int) ≤ (wayTo A J).1
  | [], A, _ => by simp [wayTo]
  | s :: J, A, h => by
    have := way_len J (pls A s) fun x hx => h x (List.mem_cons_of_mem _ hx)
    have s0 := h s (List.mem_cons_self ..)
    simp only [wayTo, List.length_cons]
    have e : (pls A s).1 = A.1 + s.1 := rfl
    omega
theorem hull_sides {ms : List (Int × Int)} {A : Int × Int} : ∀ {L : List (Int × Int)} {E : Int × Int}, HullR ms A E L → ∀ s, s ∈ L → ∃ m n, m ∈ ms ∧ n ∈ ms ∧ s = mns m n
  | [], _, _, s, hs => nomatch hs
  | t :: L, E, h, s, hs => by
    obtain ⟨h1, _, _, h4⟩ := h
    rcases List.mem_cons.mp hs with z | z
    · exact ⟨E, mns E t, h1, h4.mem, by rw [z]; unfold mns; ext <;> simp <;> omega⟩
    · exact hull_sides h4 s z
theorem tot_le {B : Nat} : ∀ {J : List (Int × Int)}, (∀ s, s ∈ J → s.1.natAbs + s.2.natAbs ≤ B) → tot J ≤ J.length * B
  | [], _ => by simp [tot]
  | s :: J, h => by
    have h1 := h s (List.mem_cons_self ..)
    have h2 := tot_le (J := J) fun x hx => h x (List.mem_cons_of_mem _ hx)
    simp only [tot, List.length_cons, Nat.add_mul, Nat.one_mul]
    omega
end Dr
namespace Dr
def fath (p : Int) (b : Int × Nat) : Int × Nat := (b.1 % p ^ (b.2 - 1), b.2 - 1)
end Dr
namespace Dr
def Deep (p : Int) : Nat → List Int → Prop
  | 0, _ => True
  | n + 1, s => ∃ (c : Nat) (r : Int) (t : List Int), IsCont p s c ∧ (0 ≤ r ∧ r < p) ∧ pev (pdiv (p ^ c) s) r % p = 0 ∧ pdv (pdiv (p ^ c) s) r % p = 0 ∧ IsSeen (pdiv (p ^ c) s) r p t ∧ Deep p n t
structure RootAt (p : Int) (g : List Int) (r : Int) (M : Nat) (x : Int) : Prop where
  lo : 0 ≤ x
  hi : x < p ^ M
  near : M = 0 ∨ (x - r) % p = 0
  deep : pev g x % p ^ M = 0
inductive FL (p : Int) (N : Nat) (rec : Int → Nat → List Int → List Int → Prop) (a : Int) (e : Nat) (g : List Int) : List Int → List Int → Prop
  | nil : FL p N rec a e g [] []
  | knot {rs L L1 t : List Int} {r : Int} : FL p N rec a e g rs L → pdv g r % p = 0 → IsSeen g r p t → rec (a + r * p ^ e) (e + 1) t L1 → FL p N rec a e g (rs ++ [r]) (L ++ L1)
  | leaf {rs L : List Int} {r x : Int} : FL p N rec a e g rs L → pdv g r % p ≠ 0 → RootAt p g r (N - e) x → FL p N rec a e g (rs ++ [r]) (L ++ [(a + p ^ e * x) % p ^ N])
def restsP (p : Int) (g : List Int) : List Int := ((List.range p.toNat).map fun k : Nat => (k : Int)).filter fun r => decide (pev g r % p = 0)
def Found (p : Int) (N : Nat) : Nat → Int → Nat → List Int → List Int → Prop
  | 0, _, _, _, _ => False
  | n + 1, a, e, s, L => ∃ c : Nat, IsCont p s c ∧ FL p N (Found p N n) a e (pdiv (p ^ c) s) (restsP p (pdiv (p ^ c) s)) L
def lin (w : Int × Int) : List Int := [-w.1, w.2]
def PL (F : List Int) : List (Int × Int) → List Int
  | [] => F
  | w :: W => pmul (lin w) (PL F W)
def Un (p : Int) (F : List Int) : Prop := 0 < F.length ∧ ∀ y, pev F y % p ≠ 0
structure Fct (p : Int) (s : List Int) (W : List (Int × Int)) : Prop where
  ex : ∃ (K : Int) (F : List Int), K ≠ 0 ∧ Un p F ∧ s = (PL F W).map (K * ·)
  un : ∀ w, w ∈ W → w.2 % p ≠ 0
def hits (p r : Int) (W : List (Int × Int)) : List (Int × Int) := W.filter fun w => decide ((w.2 * r - w.1) % p = 0)
def shw (p r : Int) (w : Int × Int) : Int × Int := ((w.1 - w.2 * r) / p, w.2)
def Apart (p : Int) (n : Nat) (W : List (Int × Int)) : Prop := W.Pairwise fun u v => (u.1 * v.2 - v.1 * u.2) % p ^ n ≠ 0
end Dr
namespace Dr
def vl (p : Int) (N : Nat) (β : Int → Int) (a : Int) (e : Nat) (w : Int × Int) : Int := (a + p ^ e * (w.1 * β w.2)) % p ^ N
end Dr
namespace Dr
structure Lim (p : Int) (s : List Int) (η : Nat → Int) : Prop where
  coh : ∀ M, (η (M + 1) - η M) % p ^ M = 0
  root : ∀ M, pev s (η M) % p ^ M = 0
def sub1 (p r : Int) (η : Nat → Int) (M : Nat) : Int := (η (M + 1) - r) / p
def lv (p : Int) (N : Nat) (a : Int) (e : Nat) (η : Nat → Int) : Int := (a + p ^ e * η (N - e)) % p ^ N
end Dr
namespace Dr
def rho (p : Int) (f : List Int) (a y : Int) (d : Nat) : Nat → Int
  | 0 => a % p ^ (d + 1)
  | k + 1 => rho p f a y d k + -(pev f (rho p f a y d k) / p ^ (d + 1 + k + d)) * y % p * p ^ (d + 1 + k)
end Dr
namespace L2
open PySem PySem.Spec PyProof.Rows
section
variable {X : Cx}
theorem op_mulW : OpR X (binaryOp .Mult) (rI IntMulOk fun i j => .int (i * j)) := opI fun _ _ _ _ _ _ _ hc q => mul_int q hc
def CDivW (_ j : Int) : Prop := 0 < j ∧ j.natAbs.log2 < 9000
theorem op_fdivW : OpR X (binaryOp .FloorDiv) (rI CDivW fun i j => .int (i / j)) := opI fun i j _ _ _ _ _ hc q => by
  have h1 : (0 : Int) < j := hc.1
  exact floordiv_int (by omega) (by rw [Int.fdiv_eq_ediv_of_nonneg i (by omega)]; exact q) (.inl (PyProof.noPylong_of_log2 hc.2))
end
def Itc (a c : Int) (n : Nat) : It := ⟨fun i _ => i < n, fun i H x H' => H' = H ∧ x = .int (a + i * c), fun i _ => n ≤ i⟩
theorem turn_rangeC {P : Program} {w : World} {K : PySem.W.Frag} {tg : Expr} (it : Addr) (lo c : Int) (n : Nat) : Turn P w K tg (Itc lo c n) [it] it (fun i h => IsRangeIter h it (lo + (i : Nat) * c) ((n : Int) - (i : Nat)) c) where
  mem := by simp
  obj := fun i h st b hb => by
    have e : b = it := by simpa using hb
    subst e
    exact ⟨_, st, fun v z => by
      have z' : Data.fields _ = Data.cell v := z
      cases z'⟩
  keep := fun i h h' st k => k it (by simp) _ st
  item := by
    intro X hP hw hK hc i pins s σ H E I hf st hg
    subst hP hw hK
    obtain ⟨f0, f1, f2, f3, f4, f5⟩ := hf it (by simp)
    have W := Walks.range (prog := X.prog) (w := X.w) (I.ok.hd hc) it lo c n
    refine W.item i s _ _ hg st fun v h' tk hv st' kk => ?_
    obtain ⟨t, rfl⟩ := hv
    have I1 : Inv X pins σ H { s with heap := h', toks := tk } := I.turned (fun b o hb e => kk b o (by simpa using hb) e) f0 f1 f3 f4 f5
    exact ⟨_, rfl, go_of (s := { s with heap := h', toks := tk }) (n := "range_iterator") st' rfl rfl (by decide) ⟨.int (lo + i * c), H, I1, ⟨t, rfl⟩, ⟨rfl, rfl⟩, st', fun b hb => (hf b hb).1⟩⟩
  done := by
    intro X hP hw hK hc i pins s σ H E I hf st hg
    subst hP hw hK
    obtain ⟨f0, f1, f2, f3, f4, f5⟩ := hf it (by simp)
    exact wpAny_pyNext_range_end (I.ok.hd hc) st (by have : n ≤ i := hg; omega) fun h' eb => ⟨rfl, I.turned (t' := s.toks) (fun b o hb e => eb b o hb e) f0 f1 f3 f4 f5⟩
  self := fun _ _ _ _ _ st h => wpAny_pyIter_rangeiter st h
section
variable {X : Cx} {tg : Expr}
def turns (a b c : Int) : Nat := if a < b then ((b - a - 1) / c + 1).toNat else 0
theorem rangeSize_pos {a b c : Int} (hc : 0 < c) : Builtin.Range.rangeSize a b c = ((turns a b c : Nat) : Int) := by
  unfold Builtin.Range.rangeSize turns
  rw [if_pos hc]
  split
  · have := Int.ediv_nonneg (show 0 ≤ b - a - 1 by omega) (show 0 ≤ c by omega)
    omega
  · rfl
theorem small_c {a b c : Int} (ha : -(2 ^ 60) ≤ a) (ha' : a < 2 ^ 60) (hb : -(2 ^ 60) ≤ b) (hb' : b < 2 ^ 60) (hc : 0 < c) (hc' : c < 1000) : Builtin.Range.small a b c = true := by
  have h1 : turns a b c < 2 ^ 62 := by
    unfold turns
    split
    · have := Int.ediv_le_self (a := b - a - 1) c (by omega)
      omega
    · decide
  have h2 : ((turns a b c : Nat) : Int) * c ≤ 2 ^ 61 + 2000 := by
    unfold turns
    split
    · have h0 := Int.ediv_nonneg (show 0 ≤ b - a - 1 by omega) (show 0 ≤ c by omega)
      rw [Int.toNat_of_nonneg (by omega), Int.add_mul, Int.one_mul]
      have := Int.ediv_mul_le (b - a - 1) (show c ≠ 0 by omega)
      omega
    · simp
  unfold Builtin.Range.small
  rw [rangeSize_pos hc]
  simp only [Builtin.Range.rangeFitsLong, Bool.and_eq_true, Bool.or_eq_true, decide_eq_true_eq, beq_iff_eq, show c > 0 from hc, if_true]
  omega
theorem range_itC {pins : List (Addr × Obj)} {σ : St} {H : Hp} {s : Shared} {R : It → Hp → Prop} {E : Value → Shared → Prop} {lo hi c : Int} {t u v : Tok} {tk : Nat} (I : Inv X pins σ H s) (h1 : -(2 ^ 60) ≤ lo) (h2 : lo < 2 ^ 60) (h3 : -(2 ^ 60) ≤ hi) (h4 : hi < 2 ^ 60) (h5 : 0 < c) (h6 : c < 1000)
    (q : R (Itc lo c (turns lo hi c)) H) : wpAny (model X.prog X.w) X.A (pyIter (.ref s.heap.objs.size)) (PIE X pins σ tg R) E { s with heap := s.heap.push { cls := .type "range", data := .fields #[.int lo t, .int hi u, .int c v] }, toks := tk } := by
  refine wpAny_pyIter_range (IsRange.new ..) (small_c h1 h2 h3 h4 h5 h6) ?_
  have I1 : Inv X pins σ H { s with heap := s.heap.push { cls := .type "range", data := .fields #[.int lo t, .int hi u, .int c v] }, toks := tk } := I.kept fun b o e => Heap.get?_push_of_some _ e
  refine ⟨(s.heap.push { cls := .type "range", data := .fields #[.int lo t, .int hi u, .int c v] }).objs.size, [(s.heap.push { cls := .type "range", data := .fields #[.int lo t, .int hi u, .int c v] }).objs.size], _, _, H, rfl,
    I1.kept (t' := tk) fun b o e => Heap.get?_push_of_some _ e, turn_rangeC _ lo c (turns lo hi c), ?_, fun b hb => ?_, q⟩
  · have e1 : lo + ((0 : Nat) : Int) * c = lo := by simp
    have e2 : ((turns lo hi c : Nat) : Int) - ((0 : Nat) : Int) = Builtin.Range.rangeSize lo hi c := by rw [rangeSize_pos h5]; simp
    show IsRangeIter _ _ (lo + ((0 : Nat) : Int) * c) (((turns lo hi c : Nat) : Int) - ((0 : Nat) : Int)) c
    rw [e1, e2]
    exact Heap.get?_push_size _ rfl
  · have e : b = (s.heap.push { cls := .type "range", data := .fields #[.int lo t, .int hi u, .int c v] }).objs.size := by simpa using hb
    subst e
    exact I1.fpOk (Nat.le_refl _) (I1.hok.fresh (Nat.le_refl _))
def iRng3 (ta : TA) : TI := fun σ H R => ta σ H fun vs H1 => ∃ i j c : Int, vs = [.int i, .int j, .int c] ∧ (-(2 ^ 60) ≤ i ∧ i < 2 ^ 60 ∧ -(2 ^ 60) ≤ j ∧ j < 2 ^ 60 ∧ 0 < c ∧ c < 1000) ∧ R (Itc i c (turns i j c)) H1
theorem pi_range3 {a : Expr} {es : List Expr} {ta : TA} {p pos : Pos} (hg : Gl X "range") (hm : X.mg "range" = none) (ha : PA X (a :: es) ta) (he : starEach (a :: es) X.env = (false, eval a X.env) :: starEach es X.env := by rfl) (hpl : (backTo pos (starEach es X.env)).any (·.1) = false := by rfl) :
    PI X tg (.Call (.Name "range" p) (a :: es) [] pos) (iRng3 ta) := by
  intro pins s σ H R I h
  refine Call_ (ld_blt I hg hm boot_range (PyProof.Rows.callWith_type1 (thn (ha pos pins s σ H _ I h) fun us s1 ⟨vs, H1, I1, r1, q1⟩ => ?_) he hpl))
  obtain ⟨i, j, c, e, ⟨q1, q2, q3, q4, q5, q6⟩, q⟩ := q1
  subst e
  cases r1 with
  | cons r rr =>
    cases rr with
    | cons r' rr =>
      cases rr with
      | cons r'' rr =>
        cases rr
        obtain ⟨t, rfl⟩ := r
        obtain ⟨t', rfl⟩ := r'
        obtain ⟨t'', rfl⟩ := r''
        exact call_range_3 (by omega) (range_itC I1 q1 q2 q3 q4 q5 q6 q) (.inl (PyProof.noPylong_small (by omega)))
end
theorem for_rangeC {lo c : Int} {n : Nat} {g : TG} {tb : TS} {D : Ends} {σ : St} {H : Hp} (Pv : Nat → St → Hp → Prop) (h0 : Pv 0 σ H)
    (hs : ∀ i σ H, i < n → Pv i σ H → g (.int (lo + i * c)) σ H fun σ2 H2 => tb { D with nx := Pv (i + 1), ct := Pv (i + 1), bk := D.nx } σ2 H2) (hd : ∀ σ H, Pv n σ H → D.nx σ H) :
    ∃ W : Nat → Nat → St → Hp → Prop, (∃ m, W 0 m σ H) ∧ ∀ i m σ H, W i m σ H →
      ((Itc lo c n).stop i H ∧ D.nx σ H) ∨ ((Itc lo c n).go i H ∧ ∃ N : St → Hp → Prop, (∀ σ' H', N σ' H' → ∃ m', m' < m ∧ W (i + 1) m' σ' H') ∧ ∀ x H', (Itc lo c n).yld i H x H' → g x σ H' fun σ2 H2 => tb { D with nx := N, ct := N, bk := D.nx } σ2 H2) := by
  refine ⟨fun i m σ H => m = n - i ∧ i ≤ n ∧ Pv i σ H, ⟨n, by simp, Nat.zero_le _, h0⟩, ?_⟩
  rintro i m σ H ⟨rfl, hi, p⟩
  by_cases hlt : i < n
  · refine .inr ⟨hlt, Pv (i + 1), fun σ' H' p' => ⟨n - (i + 1), by omega, rfl, hlt, p'⟩, fun x H' y => ?_⟩
    obtain ⟨e, y⟩ := y
    subst e y
    exact hs i σ _ hlt p
  · have e : i = n := by omega
    subst e
    exact .inl ⟨Nat.le_refl _, hd σ H p⟩
def clsV : V → Value
  | .ty n => .type n
  | .ref a => .ref a
  | _ => .none
def isCls : V → Bool
  | .ty _ => true
  | .ref _ => true
  | _ => false
section
variable {X : Cx}
theorem call_isinst : CallR X (.builtin "isinstance") (fun xs H Q => ∃ x y t b, xs = [x, y] ∧ isCls y = true ∧ TyOf X.K H x t ∧ PySem.W.kitOne X.K t (clsV y) = some b ∧ Q (.bl b) H) := by
  intro pins s σ H xs us Q I r h
  obtain ⟨x, y, t, b, rfl, hy, ty, e, q⟩ := h
  obtain ⟨u, w', rfl, rx, ry⟩ := vals2 r
  have ec : w' = clsV y := by
    cases y <;> first
      | (simp [isCls] at hy; done)
      | exact ry
  subst ec
  exact isinst_ok I rx ty e fun tk => ⟨.bl b, H, I.tok tk, rfl, q⟩
mutual
inductive DatV (K : PySem.W.Frag) (H : Hp) : V → PyData → Prop
  | non : DatV K H .non .none
  | bl (b : Bool) : DatV K H (.bl b) (.bool b)
  | int (i : Int) : DatV K H (.int i) (.int i)
  | str (x : Str) : DatV K H (.str x) (.str x)
  | lst {a : Addr} {xs : List V} {ds : List PyData} : SqL K H a xs → DatVs K H xs ds → DatV K H (.ref a) (.list ds)
  | tup {a : Addr} {xs : List V} {ds : List PyData} : SqT K H a xs → DatVs K H xs ds → DatV K H (.ref a) (.tuple ds)
inductive DatVs (K : PySem.W.Frag) (H : Hp) : List V → List PyData → Prop
  | nil : DatVs K H [] []
  | cons {x : V} {d : PyData} {xs : List V} {ds : List PyData} : DatV K H x d → DatVs K H xs ds → DatVs K H (x :: xs) (d :: ds)
end
theorem DatVs.ints {K : PySem.W.Frag} {H : Hp} : ∀ ns : List Int, DatVs K H (ns.map V.int) (ns.map PyData.int)
  | [] => .nil
  | n :: r => .cons (.int n) (DatVs.ints r)
variable {pins : List (Addr × Obj)} {σ : St} {H : Hp} {s : Shared}
mutual
theorem reads_of (I : Inv X pins σ H s) : ∀ {x : V} {d : PyData} {u : Value}, DatV X.K H x d → RelV x u → ∃ as, Reads s.heap u d as
  | _, _, _, .non, r => by cases r; exact ⟨_, .none⟩
  | _, _, _, .bl b, r => by cases r; exact ⟨_, .bool b⟩
  | _, _, _, .int i, r => by obtain ⟨t, rfl⟩ := r; exact ⟨_, .int i t⟩
  | _, _, _, .str x, r => by obtain ⟨t, rfl⟩ := r; exact ⟨_, .str x t⟩
  | _, _, _, .lst h q, r => by
    cases r
    obtain ⟨its, rv, pl, _⟩ := I.list h
    obtain ⟨o, ho, hc, n, hd⟩ := pl.isList
    obtain ⟨as, ra⟩ := readsAll_of I q rv
    exact ⟨_, .list ho hc hd (by simpa using ra)⟩
  | _, _, _, .tup h q, r => by
    cases r
    obtain ⟨its, rv, pl, _⟩ := I.tuple h
    obtain ⟨o, ho, hc, n, hd⟩ := pl
    obtain ⟨as, ra⟩ := readsAll_of I q rv
    exact ⟨_, .tuple ho hc hd (by simpa using ra)⟩
theorem readsAll_of (I : Inv X pins σ H s) : ∀ {xs : List V} {ds : List PyData} {us : List Value}, DatVs X.K H xs ds → Vals xs us → ∃ as, ReadsAll s.heap us ds as
  | _, _, _, .nil, r => by cases r; exact ⟨_, .nil⟩
  | _, _, _, .cons h q, r => by
    cases r with
    | cons r rr =>
      obtain ⟨as, ra⟩ := reads_of I h r
      obtain ⟨bs, rb⟩ := readsAll_of I q rr
      exact ⟨_, .cons ra rb⟩
end
def rEqD (K : PySem.W.Frag) (neg : Bool) : R2 := fun x y H Q => ∃ d e, DatV K H x d ∧ DatV K H y e ∧ SeqAt.shaped d = true ∧ SeqAt.shaped e = true ∧ Q (.bl (if neg then !PyData.eqv d e else PyData.eqv d e)) H
theorem op_eqD (hu : X.A.units + 64 < cLine) : OpR X (compareOp .Eq) (rEqD X.K false) := by
  intro pins s σ H x y v u Q I rx ry h
  obtain ⟨d, e, hd, he, sd, se, q⟩ := h
  obtain ⟨as, ra⟩ := reads_of I hd rx
  obtain ⟨bs, rb⟩ := reads_of I he ry
  exact eq_dataH ra rb sd se hu (fin_bl I q rfl)
theorem op_neD (hu : X.A.units + 64 < cLine) : OpR X (compareOp .NotEq) (rEqD X.K true) := by
  intro pins s σ H x y v u Q I rx ry h
  obtain ⟨d, e, hd, he, sd, se, q⟩ := h
  obtain ⟨as, ra⟩ := reads_of I hd rx
  obtain ⟨bs, rb⟩ := reads_of I he ry
  exact ne_dataH ra rb sd se hu (fin_bl I q rfl)
theorem eqvAll_ints : ∀ ns ms : List Int, PyData.eqvAll (ns.map PyData.int) (ms.map PyData.int) = decide (ns = ms)
  | [], [] => by simp [PyData.eqvAll]
  | [], _ :: _ => by simp [PyData.eqvAll]
  | _ :: _, [] => by simp [PyData.eqvAll]
  | a :: r, b :: t => by
    simp only [List.map_cons, PyData.eqvAll, PyData.eqv, eqvAll_ints r t]
    by_cases h : a = b <;> by_cases h' : r = t <;> simp [h, h']
end
end L2
namespace Att
open PySem PySem.W PySem.Calls PyProof.Rows
theorem bits_of_lay {ns : List Int} (h : WData.layableAll [WData.list (ns.map WData.int)] = true) : ∀ n, n ∈ ns → Builtin.Int.intBits n ≤ 2 ^ 20 := fun n hn => by
  have h1 := layableW_arg h _ (List.mem_singleton.mpr rfl)
  have h2 := layableW_item h1 (.int n) (List.mem_map.mpr ⟨n, hn, rfl⟩)
  have h3 := (layableW_iff.mp h2).2.2
  simpa only [WData.weight, Builtin.Int.intBits] using h3
theorem attach_callB {l : OpenLaw} {n : Nat} {q : Program} {loose : List Str} {XP : (Str → Option Value) → Heap → Prop} {YP : World → Heap → Prop} {d : DefRec}
    (hn : l.most = some n) (hdf : d.params.defaults = [])
    (call : ∀ (w : World) (s₀ s₁ : Shared) (mg mb : Str → Option Value) (fa : Addr) (o : Obj) (pm cd doc : Value) (a : Addr) (vs : List Value) (ns : List Int),
      Ground q loose [] XP w s₀ mg mb s₁.heap → YP w s₁.heap →
      s₁.heap.get? fa = some o → o.data = .func (docDef d.name d.params d.body d.scope pm cd doc) → s₁.heap.CodeRec cd d.name → mg d.name = some (.ref fa) →
      s₁.heap.get? a = some { cls := .type "list", data := .seq vs.toArray } → IntsAre vs ns → ns.length ≤ n → (∀ n, n ∈ ns → Builtin.Int.intBits n ≤ 2 ^ 20) → s₁.gens = #[] →
      codeAny (model l.prog w) callerA (.call (.ref fa) ⟨[.ref a], []⟩) (fun r s' => r = .ok (.ret (.bool true)) ∧ OldK s₁.heap s'.heap ∧ s'.os = s₁.os ∧ AllBare s'.gens) s₁) :
    WalkO q loose XP YP l.row.toRowW d [] (fun f vs => PySem.call f vs) := by
  intro w s₀ s₁ mg mb G Y fa o pm cd doc dV kV ho hd hcd hD hmg hg args vals as hpre hlay hrd hwl hlo
  obtain rfl : dV = .none := Dflts.none hD hdf
  obtain rfl : kV = .none := Dflts.noKw hD
  obtain ⟨a, vs, ns, rfl, rfl, hobj, hints, hlen⟩ := script_of hn hpre hwl
  refine enter_call (codeAny_mono (call w s₀ s₁ mg mb fa o pm cd doc a vs ns G Y ho (fd_plain hd) hcd hmg hobj hints hlen (bits_of_lay hlay) hg) fun r s' hq => ?_)
  obtain ⟨rfl, h2, h3, h4⟩ := hq
  exact ⟨.inl ⟨.bool true, .bool true, [], rfl, fun _ => rfl, .bool true, post_true l _, fun _ => ⟨List.Pairwise.nil, fun _ hm => (nomatch hm)⟩⟩, h2, h3, h4⟩
end Att
namespace L2
open PySem PySem.Spec PyProof.Rows
def spLaw (K : PySem.W.Frag) : Sp := fun vs H Q _ => ∃ (a : Addr) (ns : List Int), vs = [.ref a] ∧ SqL K H a (ns.map V.int) ∧ ns.length ≤ 63 ∧ (∀ n, n ∈ ns → Builtin.Int.intBits n ≤ 2 ^ 20) ∧ ∀ H', Q (.bl true) H'
theorem walk_law {l : PySem.W.OpenLaw} {k : Nat} {q : Program} {loose : List Str} {XP : (Str → Option Value) → Heap → Prop} {YP : World → Heap → Prop} {d : DefRec} {K : Params → PySem.W.Frag} {CX : World → CXT}
    (hn : l.most = some 63) (hdf : d.params.defaults = []) (hr : Room k callerA)
    (hY : ∀ (w : World) (h : Heap), YP w h → (K w.params).In h)
    (hCX : ∀ (w : World) (H : Hp) (s : Shared) (e : Value) (s' : Shared), CX w [] H s (fun _ _ _ => False) e s' → False)
    (F : ∀ (w : World) (mg : Str → Option Value) (fa : Addr) (h : Heap), (K w.params).In h → h.Ns mainGlobals mg → mg d.name = some (.ref fa) →
      ∃ fd : FuncData, (∀ (s : Shared) (u : Value), BindsTo s fd ⟨[u], []⟩ [("script", u)]) ∧
        ∀ base : Heap, (K w.params).In base → base.Ns mainGlobals mg → FnOk l.prog w (K w.params) mg base (CX w) k fa fd ["script"] (spLaw (K w.params))) :
    PySem.W.WalkO q loose XP YP l.row.toRowW d [] (fun f vs => PySem.call f vs) := by
  refine Att.attach_callB hn hdf fun w s₀ s₁ mg mb fa o pm cd doc a vs ns G Y ho hd hcd hmg hobj hints hlen hbits hg => ?_
  have KX := hY w _ Y
  obtain ⟨fd, hb, hF⟩ := F w mg fa _ KX G.T.g hmg
  exact law_call KX G.T.g G.T.b G.T.builtins G.T.nolimit hg hobj hints (Nat.le_trans hlen (by decide)) hr hF hb (fun H hO hS => ⟨a, ns, rfl, hS, hlen, hbits, fun _ => rfl⟩) fun H e s' => hCX w H s₁ e s'
end L2
namespace L2
open PySem PySem.Spec PyProof.Rows
theorem adr {a b : Addr} (h : @Ne Nat a b) : a ≠ b := h
theorem ltN {h : Heap} {b : Addr} {o : Obj} (e : h.get? b = some o) : @LT.lt Nat instLTNat b h.objs.size := Heap.lt_size e
def ClOk (cells : List (Str × Addr)) : List (Str × Addr) → Prop
  | [] => True
  | y :: r => cells.lookup y.1 = some y.2 ∧ ClOk cells r
theorem ClOk.get {cells : List (Str × Addr)} : ∀ {cl : List (Str × Addr)}, ClOk cells cl → ∀ {x : Str} {c : Addr}, cl.lookup x = some c → cells.lookup x = some c
  | (y, d) :: r, ⟨h, hr⟩, x, c, e => by
    by_cases q : x = y
    · subst q
      simp only [List.lookup_cons, beq_self_eq_true] at e
      cases e
      exact h
    · have q' : (x == y) = false := by simpa using q
      simp only [List.lookup_cons, q'] at e
      exact ClOk.get hr e
def CapsOk (X : Cx) (sc : Scope) (cl : List (Str × Addr)) : List Nat → List Str → Prop
  | [], [] => True
  | j :: js, x :: xs => X.N[j]? = some x ∧ X.env.scope.names.lookup x = some .cell ∧ sc.names.lookup x = some .cell ∧ (cl.lookup x).isSome = true ∧ CapsOk X sc cl js xs
  | _, _ => False
def capV (caps : List Nat) (σ : St) : St := caps.map fun j => (σ[j]?).getD none
def compCx (X : Cx) (N : List Str) (scope : Scope) (cl : List (Str × Addr)) (C : Addr) (s : Shared) (H : Hp) (fp : List Addr) : Cx where
  prog := X.prog
  w := X.w
  K := X.K
  mg := X.mg
  base := X.base
  A := X.A
  N := N
  s₀ := s
  H₀ := H
  env := compEnvC scope cl C X.env
  outer := X.stack
  stack := X.stack
  ex := fp
  fn := fun _ => false
  calm := X.calm
  pn := []
  xe := fun _ _ => False
theorem mem_of_lookup {α : Type} {x : Str} {k : α} : ∀ {l : List (Str × α)}, l.lookup x = some k → (x, k) ∈ l
  | (y, j) :: r, e => by
    by_cases q : x = y
    · subst q
      simp only [List.lookup_cons, beq_self_eq_true] at e
      cases e
      exact .head _
    · have q' : (x == y) = false := by simpa using q
      simp only [List.lookup_cons, q'] at e
      exact .tail _ (mem_of_lookup e)
section
variable {X : Cx} {pins : List (Addr × Obj)} {σ : St} {H : Hp} {s : Shared} {N : List Str} {scope : Scope} {cl : List (Str × Addr)} {C : Addr} {fp : List Addr} {caps : List Nat} {xs : List Str}
theorem comp_ok (I : Inv X pins σ H s) (hcl : ClOk X.env.cells cl) (hk : scope.kind = .function) (hfp : ∀ b ∈ fp, FpOk X pins H b) (hlt : ∀ b ∈ fp, b < s.heap.objs.size)
    (hhas : ((relabel scope X.env).names.all fun y => !(y.2 == .cell || y.2 == .free) || (cl.lookup y.1).isSome) = true) (hC : s.heap.objs.size ≤ C) : (compCx X N scope cl C s H fp).Ok where
  mod := I.ok.mod
  kind := hk
  glob := I.ok.glob
  blt := I.ok.blt
  above := hC
  inj := fun x y c h1 h2 => I.ok.inj x y c (hcl.get h1) (hcl.get h2)
  has := fun x h => by
    have key : ∀ k : NameKind, (k = .cell ∨ k = .free) → (relabel scope X.env).names.lookup x = some k → ∃ c, cl.lookup x = some c := fun k hk e => by
      have h1 := List.all_eq_true.mp hhas _ (mem_of_lookup e)
      have h2 : (cl.lookup x).isSome = true := by
        rcases hk with rfl | rfl <;> simpa using h1
      exact Option.isSome_iff_exists.mp h2
    rcases h with h | h
    · exact key _ (.inl rfl) h
    · exact key _ (.inr rfl) h
  cab := fun x c h => by cases h
  hd := I.ok.hd
  frames := I.ok.frames
  stk := .inl rfl
  exf := fun b hb => ⟨fun z => by
      have h1 : @LT.lt Nat instLTNat b s.heap.objs.size := hlt b hb
      have z' : @Eq Nat b C := z
      have hC' : @LE.le Nat _ s.heap.objs.size C := hC
      omega, fun x c e => (hfp b hb).2.2.2.2.1 x c (hcl.get e)⟩
  bs := I.bs
  bsz := Nat.le_trans I.ok.bsz I.sz
  noex := fun b o e hb => by
    rcases (hfp b hb).2.2.2.1 with z | z
    · exact I.ok.noex b o e z
    · have h1 : @LT.lt Nat _ b X.base.objs.size := Heap.lt_size e
      have h2 := I.ok.bsz
      have z' : @LE.le Nat _ X.s₀.heap.objs.size b := z
      omega
  exfs := fun b hb z => by
    have h1 := I.stkSub b z
    rcases List.mem_cons.mp h1 with q | q
    · exact (hfp b hb).2.1 q
    · exact (hfp b hb).2.2.1 q
  funs := I.stack
  frf := I.stkFree
theorem cap_get : ∀ {caps : List Nat} {xs : List Str}, CapsOk X (relabel scope X.env) cl caps xs → ∀ {i : Nat} {x : Str} {v : V}, xs[i]? = some x → (capV caps σ)[i]? = some (some v) →
    ∃ j : Nat, X.N[j]? = some x ∧ σ[j]? = some (some v) ∧ X.env.scope.names.lookup x = some .cell ∧ (relabel scope X.env).names.lookup x = some .cell ∧ ∃ c, cl.lookup x = some c
  | [], [], _, i, x, v, h, _ => by simp at h
  | j :: js, y :: ys, ⟨h1, h2, h3, h4, hr⟩, 0, x, v, h, e => by
    simp only [List.getElem?_cons_zero, Option.some.injEq] at h
    subst h
    have e' : (σ[j]?).getD none = some v := by simpa [capV] using e
    refine ⟨j, h1, ?_, h2, h3, Option.isSome_iff_exists.mp h4⟩
    cases q : σ[j]? with
    | none => rw [q] at e'; cases e'
    | some o => rw [q] at e'; exact congrArg some e'
  | j :: js, y :: ys, ⟨_, _, _, _, hr⟩, i + 1, x, v, h, e => cap_get hr (by simpa using h) (by simpa [capV] using e)
theorem comp_start (I : Inv X pins σ H s) (hcl : ClOk X.env.cells cl) (hk : scope.kind = .function) (hfp : ∀ b ∈ fp, FpOk X pins H b) (hlt : ∀ b ∈ fp, b < s.heap.objs.size)
    (hhas : ((relabel scope X.env).names.all fun y => !(y.2 == .cell || y.2 == .free) || (cl.lookup y.1).isSome) = true) (hC : s.heap.objs.size ≤ C)
    (hcap : CapsOk X (relabel scope X.env) cl caps xs) (hlen : caps.length = xs.length) {x : Str} {h₁ : Heap} {t : Nat} {m : Str → Option Value} (hn : h₁.Ns C m) (kp : ∀ b o, s.heap.get? b = some o → h₁.get? b = some o) :
    Inv (compCx X (x :: xs) scope cl C s H fp) [] (none :: capV caps σ) H { s with heap := h₁, toks := t } where
  ok := comp_ok I hcl hk hfp hlt hhas hC
  os := rfl
  bare := I.bare
  base := Un.kept kp
  loc := by
    refine ⟨m, hn, fun i y v h1 h2 _ => ?_⟩
    cases i with
    | zero => simp at h2
    | succ i =>
      obtain ⟨j, e1, e2, e3, e4, c, e5⟩ := cap_get (X := X) (scope := scope) hcap (i := i) (by simpa [compCx] using h1) (by simpa using h2)
      obtain ⟨m₀, _, hl⟩ := I.loc
      obtain ⟨u, r, lk⟩ := hl j y v e1 e2 (.inr (.inl e3))
      refine ⟨u, r, .inr ⟨.inl e4, c, e5, ?_⟩⟩
      rcases lk with ⟨z, _⟩ | ⟨_, c', q1, q2⟩
      · have z' : X.env.scope.names.lookup y = some .local := z
        rw [e3] at z'
        cases z'
      · rw [hcl.get e5] at q1
        cases q1
        obtain ⟨o, ho, hd⟩ := q2
        exact ⟨o, kp _ _ ho, hd⟩
  cell := fun y c e => by
    obtain ⟨v, o, ho, hd⟩ := I.cell y c (hcl.get e)
    exact ⟨v, o, kp _ _ ho, hd⟩
  free := I.hok.fresh hC
  freeC := fun y c e => I.freeC y c (hcl.get e)
  pin := fun p hp => by
    have hp' : p ∈ ([] : List (Addr × Obj)) := hp
    cases hp'
  hok := I.hok.kept kp
  len := by simp [compCx, capV, hlen]
end
def PTs (X : Cx) (ifs : List Expr) (t : TT) : Prop :=
  ∀ (pins : List (Addr × Obj)) (s : Shared) (σ : St) (H : Hp) (Q : Bool → Hp → Prop), Inv X pins σ H s → t σ H Q →
    wpAny (model X.prog X.w) X.A (forIn ifs true fun c r => if r = true then do let ok ← isTrue c X.env (eval c X.env); pure (ForInStep.yield ok) else pure (ForInStep.yield r)) (TP X pins σ Q) X.xe s
theorem pts_nil {X : Cx} : PTs X [] (fun _ H Q => Q true H) := fun _ _ _ H _ I h => wpAny_tests_nil ⟨H, I, h⟩
theorem pts_one {X : Cx} {c : Expr} {t : TT} (h : PT X c t) : PTs X [c] t := fun pins s σ H Q I q => wpAny_tests_one (h pins s σ H Q I q)
def tComp (caps : List Nat) (wi : TI) (tt : TT) (te : TE) : TE := fun σ H Q => wi σ H fun J H1 => ∃ (n : Nat) (W : Nat → List V → Hp → Prop), n ≤ sizeLine ∧ W 0 [] H1 ∧ ∀ i ys H2, W i ys H2 →
  (J.stop i H2 ∧ ∀ p, H2 p = none → Q (.ref p) (upd H2 p (.lst ys))) ∨
  (J.go i H2 ∧ i < n ∧ ∀ x H3, J.yld i H2 x H3 → tt (some x :: capV caps σ) H3 fun b H4 => if b = true then te (some x :: capV caps σ) H4 fun v H5 => W (i + 1) (ys ++ [v]) H5 else W (i + 1) ys H4)
section
variable {prog : Program} {w : World} {A : Around} {R : Result → Shared → Prop} {s : Shared}
theorem comp_loop {elt target iter : Expr} {ifs : List Expr} {scope : Scope} {pos : Pos} {it acc : Value} {env : Env} (I : Nat → Shared → Prop)
    (turn : ∀ n s, I n s → wpAny (model prog w) A (pyNext it) (fun r s₁ => match r with
      | none => R (.ok .next) s₁
      | some v => wpAny (model prog w) A (letOwnedTupleGo target it v) (fun _ s₁ => wpAny (model prog w) A (assign target env v) (fun _ s₂ =>
          wpAny (model prog w) A (forIn ifs true fun c r => if r = true then do let ok ← isTrue c env (eval c env); pure (ForInStep.yield ok) else pure (ForInStep.yield r)) (fun ok s₃ =>
            if ok = true then wpAny (model prog w) A (eval elt env) (fun x s₄ =>
              wpAny (model prog w) A (call (.builtin "list.append") [acc, x]) (fun _ s₅ => ∃ m, m < n ∧ I m s₅) (fun _ _ => False) s₄) (fun _ _ => False) s₃
            else ∃ m, m < n ∧ I m s₃) (fun _ _ => False) s₂) (fun _ _ => False) s₁) (fun _ _ => False) s₁) (fun _ _ => False) s)
    (n : Nat) (h : I n s) :
    codeAny (model prog w) A (.compLoop (.ListComp elt [⟨target, iter, ifs, 0⟩] scope pos) 0 it acc env) R s := by
  refine codeAny_loop rfl I (fun n s hI => ?_) n h
  show wpAny _ A ((compTurn (.ListComp elt [⟨target, iter, ifs, 0⟩] scope pos) 0 it acc env).onRaise (fun x => do noteFrame x env; theTreesLotGoes x)) _ _ s
  refine wpAny_noted ?_
  rw [compTurn_list]
  refine wpAny_bind (wpAny_standAt (wpAny_bind (wpAny_mono (turn n s hI) (fun r s₁ h₁ => ?_) fun _ _ h' => h'.elim)))
  cases r with
  | none => exact wpAny_pure h₁
  | some v =>
    refine wpAny_bind (wpAny_mono h₁ (fun _ s₁ h₁ => ?_) fun _ _ h' => h'.elim)
    refine wpAny_bind (wpAny_mono h₁ (fun _ s₂ h₂ => wpAny_bind (wpAny_mono h₂ (fun ok s₃ h₃ => ?_) fun _ _ h' => h'.elim)) fun _ _ h' => h'.elim)
    cases ok with
    | false => exact wpAny_pure ⟨rfl, h₃⟩
    | true =>
      exact wpAny_bind (wpAny_bind (wpAny_mono h₃ (fun x s₄ h₄ => wpAny_bind (wpAny_mono h₄ (fun _ s₅ h₅ => wpAny_pure (wpAny_pure ⟨rfl, h₅⟩)) fun _ _ h' => h'.elim)) fun _ _ h' => h'.elim))
end
def Loose (X : Cx) (pins : List (Addr × Obj)) (H : Hp) (C : Addr) : Prop :=
  H C = none ∧ C ≠ X.env.locals ∧ X.s₀.heap.objs.size ≤ C ∧ (∀ x c, X.env.cells.lookup x = some c → c ≠ C) ∧ ∀ p ∈ X.pn ++ pins, p.1 ≠ C
theorem Inv.letGo {X : Cx} {pins : List (Addr × Obj)} {σ : St} {H : Hp} {s : Shared} {C : Addr} {h' : Heap} (I : Inv X pins σ H s) (l : Loose X pins H C) (k : Heap.SameBut C s.heap h') : Inv X pins σ H { s with heap := h' } :=
  I.turned (it := C) (t' := s.toks) (fun b o hb e => k.extBut b o hb e) l.1 l.2.1 (.inr l.2.2.1) l.2.2.2.1 l.2.2.2.2
section
variable {X : Cx}
theorem comp_block {elt iter : Expr} {x : Str} {px pos : Pos} {ifs : List Expr} {scope : Scope} {cl : List (Str × Addr)} {caps : List Nat} {xs : List Str} {tt : TT} {te : TE}
    (hc : X.calm = true) (hcl : ClOk X.env.cells cl) (hcap : CapsOk X (relabel scope X.env) cl caps xs) (hlen : caps.length = xs.length)
    (hkind : scope.kind = .function) (hcell : ∀ y ∈ scope.names, y.2 ≠ .cell)
    (hhas : ((relabel scope X.env).names.all fun y => !(y.2 == .cell || y.2 == .free) || (cl.lookup y.1).isSome) = true)
    (hx : (relabel scope X.env).names.lookup x = some .local) (hN : (x :: xs).Nodup)
    (ht : ∀ C s H fp, PTs (compCx X (x :: xs) scope cl C s H fp) ifs tt) (he : ∀ C s H fp, PE (compCx X (x :: xs) scope cl C s H fp) elt te)
    {pins : List (Addr × Obj)} {σ : St} {H1 : Hp} {s2 : Shared} {it : Addr} {fp : List Addr} {tn : Nat → Heap → Prop} {J : It} {Q : VK}
    (I2 : Inv X pins σ H1 s2) (T : Turn X.prog X.w X.K (.Name x px) J fp it tn) (st0 : tn 0 s2.heap) (hfp : ∀ b ∈ fp, FpOk X pins H1 b)
    (hq : ∃ (n : Nat) (W : Nat → List V → Hp → Prop), n ≤ sizeLine ∧ W 0 [] H1 ∧ ∀ i ys H2, W i ys H2 →
      (J.stop i H2 ∧ ∀ p, H2 p = none → Q (.ref p) (upd H2 p (.lst ys))) ∨
      (J.go i H2 ∧ i < n ∧ ∀ x H3, J.yld i H2 x H3 → tt (some x :: capV caps σ) H3 fun b H4 => if b = true then te (some x :: capV caps σ) H4 fun v H5 => W (i + 1) (ys ++ [v]) H5 else W (i + 1) ys H4))
    {RR : Value → Addr → Result → Shared → Prop}
    (hRR : ∀ s1 D C m H', Inv X pins σ H' s1 → s1.heap.Ns C m → Loose X pins H' C → Q (.ref D) H' → RR (.ref D) C (.ok .next) s1) :
    wpAny (model X.prog X.w) X.A (newList []) (fun acc s₃ => wpAny (model X.prog X.w) X.A (newFunctionEnv scope X.env.globals cl [] X.env.qual none .none (some X.env)) (fun cenv s₄ =>
      codeAny (model X.prog X.w) X.A (.compStart (.ListComp elt [⟨.Name x px, iter, ifs, 0⟩] scope pos) 0 (.ref it) acc { cenv with scope := relabel scope X.env }) (RR acc cenv.locals) s₄) X.xe s₃) X.xe s2 := by
  obtain ⟨n, W, hn, w0, hW⟩ := hq
  have hlt : ∀ b ∈ fp, b < s2.heap.objs.size := fun b hb => by
    obtain ⟨o, ho, _⟩ := T.obj 0 s2.heap st0 b hb
    exact Heap.lt_size ho
  refine wpAny_newObj_type (wpAny_newFunctionEnv hcell (by intro y hy; simp at hy) (fun h₁ hns₁ hsb₁ => ?_) hkind)
  dsimp only at hns₁ hsb₁ ⊢
  generalize hH2 : s2.heap.push { cls := .type "list", dict := none, data := .seq ([] : List Value).toArray } = G at hns₁ hsb₁ ⊢
  have hC : G.objs.size = s2.heap.objs.size + 1 := by rw [← hH2, Heap.size_push]
  have hDC : s2.heap.objs.size ≠ G.objs.size := by omega
  have old : ∀ b o, s2.heap.get? b = some o → h₁.get? b = some o := fun b o e => hsb₁.extBut b o (adr (by have h1 : @LT.lt Nat _ b s2.heap.objs.size := Heap.lt_size e; omega)) (Heap.get?_push_of_some _ (hH2 ▸ Heap.get?_push_of_some _ e))
  have hacc : h₁.get? s2.heap.objs.size = some { cls := .type "list", dict := none, data := .seq ([] : List Value).toArray } :=
    hsb₁.extBut _ _ hDC (Heap.get?_push_of_some _ (hH2 ▸ Heap.get?_push_size _ rfl))
  have I3 : Inv (compCx X (x :: xs) scope cl G.objs.size s2 H1 fp) [] (none :: capV caps σ) H1 { s2 with heap := h₁, toks := s2.toks + ([] : List (Str × Value)).length } :=
    comp_start I2 hcl hkind hfp hlt hhas (by omega) hcap hlen hns₁ old
  have st1 : tn 0 h₁ := T.keep 0 _ _ st0 fun b hb o e => old b o e
  have fpX : ∀ {pins' : List (Addr × Obj)} {H' : Hp} (b : Addr), b ∈ fp → H' b = none → (∀ p ∈ pins', p.1 ≠ b) → FpOk (compCx X (x :: xs) scope cl G.objs.size s2 H1 fp) pins' H' b := fun b hb hh hp =>
    ⟨hh, fun z => by have h1 : @LT.lt Nat _ b s2.heap.objs.size := hlt b hb; have z' : @Eq Nat b G.objs.size := z; omega, fun z => by
      rcases List.mem_cons.mp (I2.stkSub b z) with q | q
      · exact (hfp b hb).2.1 q
      · exact (hfp b hb).2.2.1 q, .inl hb, fun y c e => (hfp b hb).2.2.2.2.1 y c (hcl.get e), fun p hp' => hp p hp'⟩
  let XC := compCx X (x :: xs) scope cl G.objs.size s2 H1 fp
  have loop : ∀ s3 : Shared, s3 = { s2 with heap := h₁, toks := s2.toks + ([] : List (Str × Value)).length } →
      codeAny (model X.prog X.w) X.A (.compLoop (.ListComp elt [⟨.Name x px, iter, ifs, 0⟩] scope pos) 0 (.ref it) (.ref s2.heap.objs.size) (compEnvC scope cl G.objs.size X.env))
        (RR (.ref s2.heap.objs.size) G.objs.size) s3 := by
    rintro s3 rfl
    refine comp_loop (fun m s' => ∃ (i : Nat) (ys : List V) (Hn : Hp) (its : List Value) (k : Nat) (v0 : Option V), m = n + 1 - i ∧ i ≤ n ∧ ys.length ≤ i ∧ W i ys Hn ∧ Vals ys its ∧ tn i s'.heap ∧ (∀ b ∈ fp, Hn b = none) ∧
      Inv XC [(s2.heap.objs.size, { cls := .type "list", data := .seq its.toArray k })] (v0 :: capV caps σ) Hn s') ?_ (n + 1) ?_
    · rintro m s' ⟨i, ys, Hn, its, k, v0, rfl, hin, hyl, w, rv, st, hfn, J'⟩
      have pD := J'.pin _ (List.mem_append_right _ (List.mem_singleton.mpr rfl))
      have neD : ∀ b ∈ fp, ∀ p ∈ [((s2.heap.objs.size, ({ cls := .type "list", data := .seq its.toArray k } : Obj)))], p.1 ≠ b := fun b hb p hp z => by
        have h1 : @LT.lt Nat instLTNat b s2.heap.objs.size := hlt b hb
        rw [List.mem_singleton.mp hp] at z
        have z' : @Eq Nat s2.heap.objs.size b := z
        omega
      rcases hW i ys Hn w with ⟨hstop, fin⟩ | ⟨hgo, hi', hgo'⟩
      · -- it stops
        refine wpAny_mono (T.done XC rfl rfl rfl hc i _ s' _ Hn (fun _ _ => False) J' (fun b hb => fpX b hb (hfn b hb) (neD b hb)) st hstop) (fun r s1 hr => ?_) fun _ _ z => z
        obtain ⟨rfl, J1⟩ := hr
        obtain ⟨mC, hnC, _⟩ := J1.loc
        have pD1 := J1.pin _ (List.mem_append_right _ (List.mem_singleton.mpr rfl))
        have hD' : s1.heap.get? s2.heap.objs.size = some { cls := .type "list", data := .seq its.toArray k } := pD1.1
        have hHD : Hn s2.heap.objs.size = none := pD1.2.1
        have hHC : Hn G.objs.size = none := J1.free
        have un : Un (frs X.stack) fp H1 (upd Hn s2.heap.objs.size (.lst ys)) s2.heap s1.heap := by
          have u := J1.base
          have lt2 : ∀ b o, s2.heap.get? b = some o → b ≠ G.objs.size ∧ b ≠ s2.heap.objs.size := fun b o e => by
            have h1 := ltN e
            exact ⟨adr (by omega), adr (by omega)⟩
          refine ⟨u.keep, u.slot, fun b o e n1 n2 => ?_, u.there, fun b zs e => ?_, fun b o u' e => ?_, fun b ps e => ?_⟩
          · rw [upd_ne (lt2 b o e).2]
            exact u.free b o e n1 n2
          · have q := u.tups b zs e
            rw [upd_ne (fun z => by rw [z, hHD] at q; cases q)]
            exact q
          · have q := u.frzs b o u' e
            rw [upd_ne (fun z => by rw [z, hHD] at q; cases q)]
            exact q
          · obtain ⟨more, q⟩ := u.tbls b ps e
            refine ⟨more, ?_⟩
            rw [upd_ne (fun z => by rw [z, hHD] at q; cases q)]
            exact q
        have hok : HOk X.prog X.w (upd Hn s2.heap.objs.size (.lst ys)) s1.heap := fun a o e => by
          by_cases ha : a = s2.heap.objs.size
          · subst ha
            rw [upd_same] at e
            cases e
            exact ⟨by omega, its, k, rv, hD'⟩
          · rw [upd_ne ha] at e
            have q : ObjOk X.prog X.w Hn s1.heap a o := J1.hok a o e
            refine q.stay (fun b u' hb e' => e') (fun b e' => ?_) fun b zs e' => ?_
            · rw [upd_ne (fun z => by rw [z, hHD] at e'; cases e')]; exact e'
            · rw [upd_ne (fun z => by rw [z, hHD] at e'; cases e')]; exact e'
        have I4 : Inv X pins σ (upd Hn s2.heap.objs.size (.lst ys)) s1 :=
          I2.call' (ch := fp) J1.os un hok J1.bare fun b hb => ⟨(hfp b hb).2.2.2.1, (hfp b hb).2.1, (hfp b hb).2.2.2.2.1, (hfp b hb).2.2.2.2.2⟩
        refine hRR s1 _ _ mC _ I4 hnC ⟨by rw [upd_ne (Ne.symm hDC)]; exact hHC, fun z => ?_, by have := I2.sz; omega, fun y c e z => ?_, fun p hp z => ?_⟩ (fin _ hHD)
        · have h1 : @LT.lt Nat instLTNat X.env.locals s2.heap.objs.size := I2.lt
          have z' : @Eq Nat G.objs.size X.env.locals := z
          omega
        · obtain ⟨v', o', ho', _⟩ := I2.cell y c e
          have h1 := ltN ho'
          have z' : @Eq Nat c G.objs.size := z
          omega
        · have h1 := ltN (I2.pin p hp).1
          have z' : @Eq Nat p.1 G.objs.size := z
          omega
      · -- a turn
        refine wpAny_mono (T.item XC rfl rfl rfl hc i _ s' _ Hn (fun _ _ => False) J' (fun b hb => fpX b hb (hfn b hb) (neD b hb)) st hgo) (fun r s1 hr => ?_) fun _ _ z => z
        obtain ⟨u, rfl, hr⟩ := hr
        refine wpAny_mono hr (fun _ s2' h2 => ?_) fun _ _ z => z
        obtain ⟨v, H3, J1, ru, hy, st1', hf3⟩ := h2
        refine wpAny_assign_Name ?_
        refine store_ok2 (v := v) J1 hN (i := 0) rfl (.inl hx) ru (fun s4 J2 hsb => ?_) (.inr hx)
        have st4 : tn (i + 1) s4.heap := by
          obtain ⟨a, hsa, ha⟩ := hsb
          refine T.keep _ _ _ st1' fun b hb o e => hsa.extBut b o (fun z => ?_) e
          rcases ha with ha | ha
          · have h1 : @LT.lt Nat instLTNat b s2.heap.objs.size := hlt b hb
            have ha' : @Eq Nat a G.objs.size := ha
            have z' : @Eq Nat b a := z
            omega
          · exact (hfp b hb).2.2.2.2.1 x a (hcl.get ha) z.symm
        have J2' : Inv XC [(s2.heap.objs.size, { cls := .type "list", data := .seq its.toArray k })] (some v :: capV caps σ) H3 s4 := J2
        have ob4 : ∀ b ∈ fp, ∃ o, s4.heap.get? b = some o ∧ ∀ v, o.data ≠ .cell v := fun b hb => T.obj _ _ st4 b hb
        have J3 := J2'.pinned (fun b hb => fpX b hb (hf3 b hb) (neD b hb)) ob4
        have tnAt : ∀ {σ' : St} {H' : Hp} {s'' : Shared}, Inv XC ([(s2.heap.objs.size, ({ cls := .type "list", data := .seq its.toArray k } : Obj))] ++ pinsAt fp s4.heap) σ' H' s'' → tn (i + 1) s''.heap ∧ ∀ b ∈ fp, H' b = none := fun J4 =>
          ⟨T.keep _ _ _ st4 fun b hb o e => (J4.pin (b, o) (List.mem_append_right _ (List.mem_append_right _ (mem_pinsAt hb e)))).1, fun b hb => by
            obtain ⟨o, e, _⟩ := ob4 b hb
            exact (J4.pin (b, o) (List.mem_append_right _ (List.mem_append_right _ (mem_pinsAt hb e)))).2.1⟩
        refine thn (ht _ _ _ _ _ s4 _ H3 _ J3 (hgo' v H3 hy)) fun ok s5 ⟨H4, J4, q4⟩ => ?_
        cases ok with
        | false =>
          rw [if_neg (by simp)]
          have q4' : W (i + 1) ys H4 := q4
          obtain ⟨a1, a2⟩ := tnAt J4
          exact ⟨n + 1 - (i + 1), by omega, i + 1, ys, H4, its, k, some v, rfl, by omega, by omega, q4', rv, a1, a2, J4.unpinned⟩
        | true =>
          rw [if_pos rfl]
          have q4' : te (some v :: capV caps σ) H4 fun v H5 => W (i + 1) (ys ++ [v]) H5 := q4
          refine thn (he _ _ _ _ _ s5 _ H4 _ J4 q4') fun uv s6 ⟨y, H5, J5, ry, q5⟩ => ?_
          obtain ⟨a1, a2⟩ := tnAt J5
          have pD6 := J5.pin _ (List.mem_append_right _ (List.mem_append_left _ (List.mem_singleton.mpr rfl)))
          have hl6 := rv.length
          refine call_meets F.slot_list_append ⟨_, pD6.1, rfl⟩ F.entry_list_append (F.args_list_append_2 _ _) (PySem.list_append s2.heap.objs.size its.toArray k uv (by rw [List.size_toArray]; omega)) ⟨pD6.1, ?_⟩
          have J6 : Inv XC [] (some v :: capV caps σ) H5 s6 := J5.pins_of fun p hp => by cases hp
          have ne6 : s2.heap.objs.size ∉ fp := fun z => by have h1 : @LT.lt Nat instLTNat s2.heap.objs.size s2.heap.objs.size := hlt _ z; omega
          have J7 : Inv XC [] (some v :: capV caps σ) H5 { s6 with heap := s6.heap.update s2.heap.objs.size (Obj.mapSeq fun xs => xs.push uv), toks := s6.toks } :=
            J6.turned (it := s2.heap.objs.size) (fun b o hb e => by rw [Heap.get?_update_other _ _ (Ne.symm hb)]; exact e) pD6.2.1 (fun z => hDC z) (.inr (Nat.le_refl _)) (fun y c e z => by
              have e1 := I2.cell y c (hcl.get e)
              obtain ⟨v', o', ho', _⟩ := e1
              have h1 := ltN ho'
              have z' : @Eq Nat c s2.heap.objs.size := z
              omega) (fun p hp => by cases hp)
          refine ⟨n + 1 - (i + 1), by omega, i + 1, ys ++ [y], H5, its ++ [uv], k + 1, some v, rfl, by omega, by rw [List.length_append, List.length_singleton]; omega, q5, rv.append (.cons ry .nil), ?_, a2, ?_⟩
          · refine T.keep _ _ _ a1 fun b hb o e => ?_
            show (s6.heap.update s2.heap.objs.size _).get? b = some o
            rw [Heap.get?_update_other _ _ (fun z => ne6 (by rw [z]; exact hb))]
            exact e
          · refine J7.pins_of fun p hp => ?_
            rw [List.mem_singleton.mp hp]
            refine ⟨?_, pD6.2.1, fun z => hDC z, pD6.2.2.2.1, fun v' z => ?_⟩
            · show (s6.heap.update s2.heap.objs.size _).get? s2.heap.objs.size = _
              rw [Heap.get?_update_self _ pD6.1 rfl]
              simp only [Obj.mapSeq, List.push_toArray]
              rw [if_neg (by simp)]
            · have z' : Data.seq _ _ = Data.cell v' := z
              cases z'
    · exact ⟨0, [], H1, [], 0, none, by omega, by omega, by simp, w0, .nil, st1, fun b hb => (hfp b hb).1, I3.pins_of fun p hp => by
        rw [List.mem_singleton.mp hp]
        refine ⟨hacc, I2.hok.fresh (Nat.le_refl _), fun z => hDC z, fun z => ?_, fun v' z => ?_⟩
        · have := I2.stkFree _ z
          rcases List.mem_cons.mp (I2.stkSub _ z) with q | q
          · have h1 : @LT.lt Nat instLTNat X.env.locals s2.heap.objs.size := I2.lt
            have z' : @Eq Nat s2.heap.objs.size X.env.locals := q
            omega
          · exact I2.nofs (Nat.le_refl _) q
        · have z' : Data.seq _ _ = Data.cell v' := z
          cases z'⟩
  exact codeAny_compStart_list (loop _ rfl) (T.self X.A 0 _ _ _ st1 (loop _ rfl))
theorem pe_comp {elt iter : Expr} {x : Str} {px pos : Pos} {ifs : List Expr} {scope : Scope} {cl : List (Str × Addr)} (caps : List Nat) (xs : List Str) {wi : TI} {tt : TT} {te : TE}
    (hc : X.calm = true) (hclos : closureFor scope X.env = pure cl) (hcl : ClOk X.env.cells cl) (hcap : CapsOk X (relabel scope X.env) cl caps xs) (hlen : caps.length = xs.length)
    (hkind : scope.kind = .function) (hcell : ∀ y ∈ scope.names, y.2 ≠ .cell) (hnames : ∀ y ∈ scope.names, y.2 = .local → scope.names.lookup y.1 = some .local)
    (hhas : ((relabel scope X.env).names.all fun y => !(y.2 == .cell || y.2 == .free) || (cl.lookup y.1).isSome) = true)
    (hx : (relabel scope X.env).names.lookup x = some .local) (hN : (x :: xs).Nodup)
    (hi : PI X (.Name x px) iter wi) (ht : ∀ C s H fp, PTs (compCx X (x :: xs) scope cl C s H fp) ifs tt) (he : ∀ C s H fp, PE (compCx X (x :: xs) scope cl C s H fp) elt te)
    (hs : ∀ v, foldedSetIterable iter X.env v = pure v := by intro _; rfl) : PE X (.ListComp elt [⟨.Name x px, iter, ifs, 0⟩] scope pos) (tComp caps wi tt te) := by
  intro pins s σ H Q I h
  rw [eval_ListComp]
  refine wpAny_comprehension_free (use := none) rfl hs hclos hkind hnames (wpAny_mono (hi pins s σ H _ I h) (fun v s1 h1 => wpAny_mono h1 (fun itv s2 h2 => ?_) fun _ _ e => e) fun _ _ e => e)
  obtain ⟨it, fp, tn, J, H1, rfl, I2, T, st0, hfp, hq⟩ := h2
  refine comp_block (RR := fun acc C => compPost (model X.prog X.w) X.A X.xe none (EP X pins σ Q) acc C) hc hcl hcap hlen hkind hcell hhas hx hN ht he I2 T st0 hfp hq ?_
  intro s1 D C m H' I4 hn l q
  exact ⟨m, hn, fun h' hsb => ⟨.ref D, H', I4.letGo l hsb, rfl, q⟩⟩
theorem ps_comp {elt iter : Expr} {x y : Str} {px py pos spos : Pos} {ifs : List Expr} {scope : Scope} {cl : List (Str × Addr)} {k : Nat} (caps : List Nat) (xs : List Str) {wi : TI} {tt : TT} {te : TE}
    (hsw : swapsWith (.ListComp elt [⟨.Name x px, iter, ifs, 0⟩] scope pos) (some (.Name y py)) spos.line X.env = pure true)
    (hNX : X.N.Nodup) (hk : X.N[k]? = some y) (hy : X.env.scope.names.lookup y = some .local)
    (hc : X.calm = true) (hclos : closureFor scope X.env = pure cl) (hcl : ClOk X.env.cells cl) (hcap : CapsOk X (relabel scope X.env) cl caps xs) (hlen : caps.length = xs.length)
    (hkind : scope.kind = .function) (hcell : ∀ y ∈ scope.names, y.2 ≠ .cell) (hnames : ∀ y ∈ scope.names, y.2 = .local → scope.names.lookup y.1 = some .local)
    (hhas : ((relabel scope X.env).names.all fun y => !(y.2 == .cell || y.2 == .free) || (cl.lookup y.1).isSome) = true)
    (hx : (relabel scope X.env).names.lookup x = some .local) (hN : (x :: xs).Nodup)
    (hi : PI X (.Name x px) iter wi) (ht : ∀ C s H fp, PTs (compCx X (x :: xs) scope cl C s H fp) ifs tt) (he : ∀ C s H fp, PE (compCx X (x :: xs) scope cl C s H fp) elt te)
    (hs : ∀ v, foldedSetIterable iter X.env v = pure v := by intro _; rfl) : PS X (.Assign [.Name y py] (.ListComp elt [⟨.Name x px, iter, ifs, 0⟩] scope pos) spos) (tAsg (tComp caps wi tt te) (gName k)) := by
  intro pins s σ H D I h
  rw [exec_Assign_Name_used _ _ _ _ hsw]
  refine wpAny_bind (wpAny_standAt (wpAny_bind ?_))
  show wpAny _ X.A (do let _ ← comprehension (.ListComp elt [⟨.Name x px, iter, ifs, 0⟩] scope pos) scope X.env _ (newList []) false (eval iter X.env) (some (assign (.Name y py) X.env))) _ _ s
  refine wpAny_bind (wpAny_mono (wpAny_comprehension_free (use := some (assign (.Name y py) X.env)) (Q := fun _ s' => SP X pins D .next s') rfl hs hclos hkind hnames
    (wpAny_mono (hi pins s σ H _ I h) (fun xv s₁ h₁ => wpAny_mono h₁ (fun itv s2 h2 => ?_) fun _ _ e => e) fun _ _ e => e)) (fun _ s' hq => wpAny_pure (wpAny_pure hq)) fun _ _ e => e)
  obtain ⟨it, fp, tn, J, H1, rfl, I2, T, st0, hfp, hq⟩ := h2
  refine comp_block (Q := fun v H1 => gName k v σ H1 D.nx) (RR := fun acc C => compPost (model X.prog X.w) X.A X.xe (some (assign (.Name y py) X.env)) (fun _ s' => SP X pins D .next s') acc C) hc hcl hcap hlen hkind hcell hhas hx hN ht he I2 T st0 hfp hq ?_
  intro s1 Da C m H' I4 hn l q
  show wpAny _ X.A (assign (.Name y py) X.env (.ref Da)) _ _ s1
  refine wpAny_assign_Name (store_ok2 (v := .ref Da) I4 hNX hk (.inl hy) rfl (fun s4 I5 hsb => ?_) (.inr hy))
  obtain ⟨a, hsa, ha⟩ := hsb
  have hCa : C ≠ a := by
    rcases ha with ha | ha
    · rw [ha]; exact l.2.1
    · exact Ne.symm (l.2.2.2.1 y a ha)
  refine ⟨m, hn.sameBut hsa hCa, fun h' hsb => ⟨_, H', I5.letGo l hsb, q⟩⟩
end
end L2
namespace L2
open PySem PySem.Spec PyProof.Rows
theorem same_new {H : Hp} {p : Addr} (h : H p = none) (o : HO) : Same H (upd H p o) := fun b u q => by rw [upd_ne (ne_of_none q h)]; exact q
structure Def (P : Program) (w : World) (K : PySem.W.Frag) (mg : Str → Option Value) (base : Heap) (x : Str) (k : Nat) (ps : List Str) (sp : Sp) : Prop where
  ex : ∃ (f : Addr) (fd : FuncData), FnOk P w K mg base CX0 k f fd ps sp ∧ Binds K fd ps [] ∧ PySem.W.keepIn K (.ref f) = true ∧ mg x = some (.ref f)
theorem def_mk {P : Program} {w : World} {K : PySem.W.Frag} {mg : Str → Option Value} {base : Heap} {x qual : Str} {st : Stmt} {f : Addr} {fd : FuncData} {k : Nat} {ps : List Str} {sp : Sp} (F : Fun K x qual st f fd)
    (ok : FnOk P w K mg base CX0 k f fd ps sp) (b : Binds K fd ps []) (m : mg x = some (.ref f)) : Def P w K mg base x k ps sp := ⟨⟨f, fd, ok, b, F.kp, m⟩⟩
section
variable {X : Cx} {x : Str} {j k : Nat} {ps : List Str} {sp : Sp} {p pos : Pos} {e : Expr} {es : List Expr} {t : TA}
theorem pe_def (D : Def X.prog X.w X.K X.mg X.base x j ps sp) (hr : Room k X.A) (hg : Gl X x) (ha : PA X (e :: es) t) (hjk : j ≤ k := by decide) (hdb : (x == ("__debug__" : Str)) = false := by decide)
    (he : starEach (e :: es) X.env = (false, eval e X.env) :: starEach es X.env := by rfl) (hpl : (backTo pos (starEach es X.env)).any (·.1) = false := by rfl) :
    PE X (.Call (.Name x p) (e :: es) [] pos) (tCall sp [] E0 t) := by
  obtain ⟨f, fd, ok, b, kp, m⟩ := D.ex
  exact pe_call ok (hr.mono hjk) hg m kp b .nil pass0 ha hdb he hpl
end
end L2
namespace L2
open PySem PySem.Spec PyProof.Rows
def tJoin (t : TS) : TS := fun D σ H => ∃ R : St → Hp → Prop, (∀ σ' H', R σ' H' → D.nx σ' H') ∧ t { D with nx := R } σ H
theorem ps_join {X : Cx} {st : Stmt} {t : TS} (h : PS X st t) : PS X st (tJoin t) := by
  intro pins s σ H D I ⟨R, hR, q⟩
  refine thn (h pins s σ H _ I q) fun f s' hq => ?_
  cases f with
  | next =>
    obtain ⟨σ', H', I', r⟩ := hq
    exact ⟨σ', H', I', hR _ _ r⟩
  | brk => exact hq
  | cont => exact hq
  | ret v => exact hq
theorem turns_lt {a b c : Int} {i : Nat} (hc : 0 < c) (h : i < turns a b c) : a + i * c < b := by
  unfold turns at h
  split at h
  · rename_i hab
    have h0 := Int.ediv_nonneg (show 0 ≤ b - a - 1 by omega) (show 0 ≤ c by omega)
    have h1 : (i : Int) ≤ (b - a - 1) / c := by omega
    have h2 := Int.mul_le_mul_of_nonneg_right h1 (show 0 ≤ c by omega)
    have h3 := Int.ediv_mul_le (b - a - 1) (show c ≠ 0 by omega)
    omega
  · omega
end L2
namespace L2
open PySem PySem.Spec PyProof.Rows
theorem bt_isinstance : bootBuiltins "isinstance" = some (.builtin "isinstance") := by decide +kernel
theorem bt_min : bootBuiltins "min" = some (.builtin "min") := by decide +kernel
theorem bt_max : bootBuiltins "max" = some (.builtin "max") := by decide +kernel
theorem bt_int : bootBuiltins "int" = some (.type "int") := by decide +kernel
theorem bt_bool : bootBuiltins "bool" = some (.type "bool") := by decide +kernel
theorem bt_list : bootBuiltins "list" = some (.type "list") := by decide +kernel
def cInts : List Expr → Option (List Int)
  | [] => some []
  | .Constant (.int i) _ _ :: r => (cInts r).map (i :: ·)
  | _ => none
theorem pa_ints {X : Cx} : ∀ {es : List Expr} {ns : List Int}, cInts es = some ns → PA X es (fun _ H Q => Q (ns.map V.int) H)
  | [], ns, h => by
    simp only [cInts, Option.some.injEq] at h
    subst h
    exact pa_nil
  | e :: es, ns, h => by
    cases e with
    | Constant c k p =>
      cases c with
      | int i =>
        simp only [cInts, Option.map_eq_some_iff] at h
        obtain ⟨ms, h1, rfl⟩ := h
        have q := pa_cons (X := X) (e := .Constant (.int i) k p) pe_int (pa_ints h1) rfl
        exact q
      | _ => simp [cInts] at h
    | _ => simp [cInts] at h
theorem int_pow_le {a b : Int} (h0 : 0 ≤ a) (h : a ≤ b) : ∀ n : Nat, a ^ n ≤ b ^ n
  | 0 => by simp
  | n + 1 => by
    rw [Int.pow_succ, Int.pow_succ]
    have h1 := int_pow_le h0 h n
    have h2 : 0 ≤ a ^ n := Int.pow_nonneg h0
    exact Int.mul_le_mul h1 h h0 (Int.le_trans h2 h1)
end L2
namespace L2
open PySem PySem.Spec PyProof.Rows
theorem ps_eq {X : Cx} {st st' : Stmt} {t : TS} (e : st = st') (h : PS X st' t) : PS X st t := by subst e; exact h
theorem ps_setInts {X : Cx} {st : Stmt} {i : Nat} {x : Str} {es : List Expr} {ns : List Int} {p1 p2 pos : Pos} (e : st = .Assign [.Name x p1] (.List es p2) pos) (hc : cInts es = some ns) (hN : X.N.Nodup) (hi : X.N[i]? = some x) (hx : Loc X.env.scope x)
    (hf : X.fn x = true ∨ X.env.scope.names.lookup x = some .local) : PS X st (tAsg (tLst fun _ H Q => Q (ns.map V.int) H) (gName i)) := by
  subst e
  exact ps_set hN hi hx (pe_lst (pa_ints hc)) rfl hf
end L2
namespace L2
open PySem PySem.Spec PyProof.Rows
def ForIt (J : It) (g : TG) (tb : TS) (D : Ends) (σ : St) (H : Hp) : Prop := ∃ W : Nat → Nat → St → Hp → Prop, (∃ m, W 0 m σ H) ∧ ∀ i m σ H, W i m σ H →
  (J.stop i H ∧ D.nx σ H) ∨ (J.go i H ∧ ∃ N : St → Hp → Prop, (∀ σ' H', N σ' H' → ∃ m', m' < m ∧ W (i + 1) m' σ' H') ∧ ∀ x H', J.yld i H x H' → g x σ H' fun σ2 H2 => tb { D with nx := N, ct := N, bk := D.nx } σ2 H2)
theorem w_for {wi : TI} {g : TG} {tb : TS} {D : Ends} {σ : St} {H : Hp} : tFor wi g tb D σ H = wi σ H fun J H1 => ForIt J g tb D σ H1 := rfl
section
variable {lo c : Int} {n : Nat} {K : PySem.W.Frag} {a : Addr} {xs : List V} {g : TG} {tb : TS} {D : Ends} {σ : St} {H : Hp}
theorem forR (Pv : Nat → St → Hp → Prop) (h0 : Pv 0 σ H)
    (hs : ∀ i σ H, i < n → Pv i σ H → g (.int (lo + i)) σ H fun σ2 H2 => tb { D with nx := Pv (i + 1), ct := Pv (i + 1), bk := D.nx } σ2 H2) (hd : ∀ σ H, Pv n σ H → D.nx σ H) : ForIt (Itr lo n) g tb D σ H := for_range Pv h0 hs hd
theorem forC (Pv : Nat → St → Hp → Prop) (h0 : Pv 0 σ H)
    (hs : ∀ i σ H, i < n → Pv i σ H → g (.int (lo + i * c)) σ H fun σ2 H2 => tb { D with nx := Pv (i + 1), ct := Pv (i + 1), bk := D.nx } σ2 H2) (hd : ∀ σ H, Pv n σ H → D.nx σ H) : ForIt (Itc lo c n) g tb D σ H := for_rangeC Pv h0 hs hd
theorem forL (xs : List V) (Pv : Nat → St → Hp → Prop) (h0 : Pv 0 σ H) (hl : ∀ i σ H, i ≤ xs.length → Pv i σ H → SqL K H a xs)
    (hs : ∀ i x σ H, xs[i]? = some x → Pv i σ H → g x σ H fun σ2 H2 => tb { D with nx := Pv (i + 1), ct := Pv (i + 1), bk := D.nx } σ2 H2) (hd : ∀ σ H, Pv xs.length σ H → D.nx σ H) : ForIt (Itl K a) g tb D σ H := for_list Pv h0 hl hs hd
end
theorem whB {c : TT} {tb : TS} {D : Ends} {σ : St} {H : Hp} (W : Nat → St → Hp → Prop) (m : Nat) (h0 : W m σ H) (hs : ∀ m σ H, W m σ H →
    c σ H fun b H1 => if b = true then ∃ N : St → Hp → Prop, (∀ σ' H', N σ' H' → ∃ m', m' < m ∧ W m' σ' H') ∧ tb { D with nx := N, ct := N, bk := D.nx } σ H1 else D.nx σ H1) : tWhile c tb D σ H := ⟨W, ⟨m, h0⟩, hs⟩
theorem Same.up {H H' : Hp} (g : Same H H') {p : Addr} (hp : H p = none) (o : HO) : Same H (upd H' p o) := fun b u q => by rw [upd_ne (ne_of_none q hp)]; exact g b u q
theorem joinB {t : TS} {D : Ends} {σ : St} {H : Hp} (R : St → Hp → Prop) (h : t { D with nx := R } σ H) (hR : ∀ σ' H', R σ' H' → D.nx σ' H') : tJoin t D σ H := ⟨R, hR, h⟩
theorem sc_ii {a b : Int} : scal (.int a) (.int b) = true := rfl
theorem sc_bb {a b : Bool} : scal (.bl a) (.bl b) = true := rfl
theorem sc_in {a : Int} : scal (.int a) .non = true := rfl
theorem sc_ni {a : Int} : scal .non (.int a) = true := rfl
theorem sc_ss {a b : Str} : scal (.str a) (.str b) = true := rfl
theorem sc_nn : scal .non .non = true := rfl
theorem sc_bn {a : Bool} : scal (.bl a) .non = true := rfl
theorem sc_is {a : Int} {b : Str} : scal (.int a) (.str b) = true := rfl
theorem kit_int_int (K : PySem.W.Frag) : PySem.W.kitOne K (.type "int") (.type "int") = some true := by unfold PySem.W.kitOne; rw [if_pos (by decide)]
theorem kit_int_bool (K : PySem.W.Frag) : PySem.W.kitOne K (.type "int") (.type "bool") = some false := by unfold PySem.W.kitOne; rw [if_neg (by decide)]; kernel_rfl
theorem kit_int_str (K : PySem.W.Frag) : PySem.W.kitOne K (.type "int") (.type "str") = some false := by unfold PySem.W.kitOne; rw [if_neg (by decide)]; kernel_rfl
theorem kit_int_list (K : PySem.W.Frag) : PySem.W.kitOne K (.type "int") (.type "list") = some false := by unfold PySem.W.kitOne; rw [if_neg (by decide)]; kernel_rfl
theorem kit_int_tuple (K : PySem.W.Frag) : PySem.W.kitOne K (.type "int") (.type "tuple") = some false := by unfold PySem.W.kitOne; rw [if_neg (by decide)]; kernel_rfl
theorem kit_int_dict (K : PySem.W.Frag) : PySem.W.kitOne K (.type "int") (.type "dict") = some false := by unfold PySem.W.kitOne; rw [if_neg (by decide)]; kernel_rfl
theorem kit_bool_int (K : PySem.W.Frag) : PySem.W.kitOne K (.type "bool") (.type "int") = some true := by unfold PySem.W.kitOne; rw [if_neg (by decide)]; kernel_rfl
theorem kit_bool_bool (K : PySem.W.Frag) : PySem.W.kitOne K (.type "bool") (.type "bool") = some true := by unfold PySem.W.kitOne; rw [if_pos (by decide)]
theorem kit_bool_str (K : PySem.W.Frag) : PySem.W.kitOne K (.type "bool") (.type "str") = some false := by unfold PySem.W.kitOne; rw [if_neg (by decide)]; kernel_rfl
theorem kit_bool_list (K : PySem.W.Frag) : PySem.W.kitOne K (.type "bool") (.type "list") = some false := by unfold PySem.W.kitOne; rw [if_neg (by decide)]; kernel_rfl
theorem kit_bool_tuple (K : PySem.W.Frag) : PySem.W.kitOne K (.type "bool") (.type "tuple") = some false := by unfold PySem.W.kitOne; rw [if_neg (by decide)]; kernel_rfl
theorem kit_bool_dict (K : PySem.W.Frag) : PySem.W.kitOne K (.type "bool") (.type "dict") = some false := by unfold PySem.W.kitOne; rw [if_neg (by decide)]; kernel_rfl
theorem kit_NoneType_int (K : PySem.W.Frag) : PySem.W.kitOne K (.type "NoneType") (.type "int") = some false := by unfold PySem.W.kitOne; rw [if_neg (by decide)]; kernel_rfl
theorem kit_NoneType_bool (K : PySem.W.Frag) : PySem.W.kitOne K (.type "NoneType") (.type "bool") = some false := by unfold PySem.W.kitOne; rw [if_neg (by decide)]; kernel_rfl
theorem kit_NoneType_str (K : PySem.W.Frag) : PySem.W.kitOne K (.type "NoneType") (.type "str") = some false := by unfold PySem.W.kitOne; rw [if_neg (by decide)]; kernel_rfl
theorem kit_NoneType_list (K : PySem.W.Frag) : PySem.W.kitOne K (.type "NoneType") (.type "list") = some false := by unfold PySem.W.kitOne; rw [if_neg (by decide)]; kernel_rfl
theorem kit_NoneType_tuple (K : PySem.W.Frag) : PySem.W.kitOne K (.type "NoneType") (.type "tuple") = some false := by unfold PySem.W.kitOne; rw [if_neg (by decide)]; kernel_rfl
theorem kit_NoneType_dict (K : PySem.W.Frag) : PySem.W.kitOne K (.type "NoneType") (.type "dict") = some false := by unfold PySem.W.kitOne; rw [if_neg (by decide)]; kernel_rfl
theorem kit_str_int (K : PySem.W.Frag) : PySem.W.kitOne K (.type "str") (.type "int") = some false := by unfold PySem.W.kitOne; rw [if_neg (by decide)]; kernel_rfl
theorem kit_str_bool (K : PySem.W.Frag) : PySem.W.kitOne K (.type "str") (.type "bool") = some false := by unfold PySem.W.kitOne; rw [if_neg (by decide)]; kernel_rfl
theorem kit_str_str (K : PySem.W.Frag) : PySem.W.kitOne K (.type "str") (.type "str") = some true := by unfold PySem.W.kitOne; rw [if_pos (by decide)]
theorem kit_str_list (K : PySem.W.Frag) : PySem.W.kitOne K (.type "str") (.type "list") = some false := by unfold PySem.W.kitOne; rw [if_neg (by decide)]; kernel_rfl
theorem kit_str_tuple (K : PySem.W.Frag) : PySem.W.kitOne K (.type "str") (.type "tuple") = some false := by unfold PySem.W.kitOne; rw [if_neg (by decide)]; kernel_rfl
theorem kit_str_dict (K : PySem.W.Frag) : PySem.W.kitOne K (.type "str") (.type "dict") = some false := by unfold PySem.W.kitOne; rw [if_neg (by decide)]; kernel_rfl
abbrev bnames : List String := ["int", "bool", "str", "list", "tuple", "dict"]
def isiT (a b : String) : Option Bool := if b ∈ bnames then some (a == b || (a == "bool" && b == "int")) else none
theorem isi_int {K : PySem.W.Frag} {b : String} {v : Bool} (h : isiT "int" b = some v) : PySem.W.kitOne K (.type "int") (.type b) = some v := by
  unfold isiT at h
  split at h
  · rename_i z
    cases h
    simp only [bnames, List.mem_cons, List.not_mem_nil, or_false] at z
    rcases z with rfl | rfl | rfl | rfl | rfl | rfl
    · exact kit_int_int K
    · exact kit_int_bool K
    · exact kit_int_str K
    · exact kit_int_list K
    · exact kit_int_tuple K
    · exact kit_int_dict K
  · cases h
theorem isi_bool {K : PySem.W.Frag} {b : String} {v : Bool} (h : isiT "bool" b = some v) : PySem.W.kitOne K (.type "bool") (.type b) = some v := by
  unfold isiT at h
  split at h
  · rename_i z
    cases h
    simp only [bnames, List.mem_cons, List.not_mem_nil, or_false] at z
    rcases z with rfl | rfl | rfl | rfl | rfl | rfl
    · exact kit_bool_int K
    · exact kit_bool_bool K
    · exact kit_bool_str K
    · exact kit_bool_list K
    · exact kit_bool_tuple K
    · exact kit_bool_dict K
  · cases h
theorem isi_NoneType {K : PySem.W.Frag} {b : String} {v : Bool} (h : isiT "NoneType" b = some v) : PySem.W.kitOne K (.type "NoneType") (.type b) = some v := by
  unfold isiT at h
  split at h
  · rename_i z
    cases h
    simp only [bnames, List.mem_cons, List.not_mem_nil, or_false] at z
    rcases z with rfl | rfl | rfl | rfl | rfl | rfl
    · exact kit_NoneType_int K
    · exact kit_NoneType_bool K
    · exact kit_NoneType_str K
    · exact kit_NoneType_list K
    · exact kit_NoneType_tuple K
    · exact kit_NoneType_dict K
  · cases h
theorem isi_str {K : PySem.W.Frag} {b : String} {v : Bool} (h : isiT "str" b = some v) : PySem.W.kitOne K (.type "str") (.type b) = some v := by
  unfold isiT at h
  split at h
  · rename_i z
    cases h
    simp only [bnames, List.mem_cons, List.not_mem_nil, or_false] at z
    rcases z with rfl | rfl | rfl | rfl | rfl | rfl
    · exact kit_str_int K
    · exact kit_str_bool K
    · exact kit_str_str K
    · exact kit_str_list K
    · exact kit_str_tuple K
    · exact kit_str_dict K
  · cases h
def isiV : V → String → Option Bool
  | .int _, n => isiT "int" n
  | .bl _, n => isiT "bool" n
  | .non, n => isiT "NoneType" n
  | .str _, n => isiT "str" n
  | _, _ => none
def isiO : HO → String → Option Bool
  | .lst _, n => isiT "list" n
  | .tup _, n => isiT "tuple" n
  | .dK _, n => isiT "dict" n
  | _, _ => none
section
variable {X : Cx}
theorem call_isiS : CallR X (.builtin "isinstance") (fun xs H Q => ∃ x n, xs = [x, .ty n] ∧ ∃ b, isiV x n = some b ∧ Q (.bl b) H) := by
  intro pins s σ H xs us Q I r h
  obtain ⟨x, n, rfl, b, e, q⟩ := h
  refine call_isinst pins s σ H _ us Q I r ?_
  cases x with
  | int i => exact ⟨_, _, _, b, rfl, rfl, .int i, isi_int e, q⟩
  | bl i => exact ⟨_, _, _, b, rfl, rfl, .bl i, isi_bool e, q⟩
  | non => exact ⟨_, _, _, b, rfl, rfl, .non, isi_NoneType e, q⟩
  | str i => exact ⟨_, _, _, b, rfl, rfl, .str i, isi_str e, q⟩
  | _ => cases e
end
theorem isv_int_int {i : Int} : isiV (.int i) "int" = some true := (by decide : isiT "int" "int" = _)
theorem isv_int_bool {i : Int} : isiV (.int i) "bool" = some false := (by decide : isiT "int" "bool" = _)
theorem isv_int_str {i : Int} : isiV (.int i) "str" = some false := (by decide : isiT "int" "str" = _)
theorem isv_int_list {i : Int} : isiV (.int i) "list" = some false := (by decide : isiT "int" "list" = _)
theorem isv_int_tuple {i : Int} : isiV (.int i) "tuple" = some false := (by decide : isiT "int" "tuple" = _)
theorem isv_int_dict {i : Int} : isiV (.int i) "dict" = some false := (by decide : isiT "int" "dict" = _)
theorem isv_bool_int {i : Bool} : isiV (.bl i) "int" = some true := (by decide : isiT "bool" "int" = _)
theorem isv_bool_bool {i : Bool} : isiV (.bl i) "bool" = some true := (by decide : isiT "bool" "bool" = _)
theorem isv_bool_str {i : Bool} : isiV (.bl i) "str" = some false := (by decide : isiT "bool" "str" = _)
theorem isv_bool_list {i : Bool} : isiV (.bl i) "list" = some false := (by decide : isiT "bool" "list" = _)
theorem isv_bool_tuple {i : Bool} : isiV (.bl i) "tuple" = some false := (by decide : isiT "bool" "tuple" = _)
theorem isv_bool_dict {i : Bool} : isiV (.bl i) "dict" = some false := (by decide : isiT "bool" "dict" = _)
theorem isv_NoneType_int  : isiV (.non) "int" = some false := by decide
theorem isv_NoneType_bool  : isiV (.non) "bool" = some false := by decide
theorem isv_NoneType_str  : isiV (.non) "str" = some false := by decide
theorem isv_NoneType_list  : isiV (.non) "list" = some false := by decide
theorem isv_NoneType_tuple  : isiV (.non) "tuple" = some false := by decide
theorem isv_NoneType_dict  : isiV (.non) "dict" = some false := by decide
theorem isv_str_int {i : Str} : isiV (.str i) "int" = some false := (by decide : isiT "str" "int" = _)
theorem isv_str_bool {i : Str} : isiV (.str i) "bool" = some false := (by decide : isiT "str" "bool" = _)
theorem isv_str_str {i : Str} : isiV (.str i) "str" = some true := (by decide : isiT "str" "str" = _)
theorem isv_str_list {i : Str} : isiV (.str i) "list" = some false := (by decide : isiT "str" "list" = _)
theorem isv_str_tuple {i : Str} : isiV (.str i) "tuple" = some false := (by decide : isiT "str" "tuple" = _)
theorem isv_str_dict {i : Str} : isiV (.str i) "dict" = some false := (by decide : isiT "str" "dict" = _)
theorem iso_list_int {xs : List V} : isiO (.lst xs) "int" = some false := (by decide : isiT "list" "int" = _)
theorem iso_list_bool {xs : List V} : isiO (.lst xs) "bool" = some false := (by decide : isiT "list" "bool" = _)
theorem iso_list_str {xs : List V} : isiO (.lst xs) "str" = some false := (by decide : isiT "list" "str" = _)
theorem iso_list_list {xs : List V} : isiO (.lst xs) "list" = some true := (by decide : isiT "list" "list" = _)
theorem iso_list_tuple {xs : List V} : isiO (.lst xs) "tuple" = some false := (by decide : isiT "list" "tuple" = _)
theorem iso_list_dict {xs : List V} : isiO (.lst xs) "dict" = some false := (by decide : isiT "list" "dict" = _)
theorem iso_tuple_int {xs : List V} : isiO (.tup xs) "int" = some false := (by decide : isiT "tuple" "int" = _)
theorem iso_tuple_bool {xs : List V} : isiO (.tup xs) "bool" = some false := (by decide : isiT "tuple" "bool" = _)
theorem iso_tuple_str {xs : List V} : isiO (.tup xs) "str" = some false := (by decide : isiT "tuple" "str" = _)
theorem iso_tuple_list {xs : List V} : isiO (.tup xs) "list" = some false := (by decide : isiT "tuple" "list" = _)
theorem iso_tuple_tuple {xs : List V} : isiO (.tup xs) "tuple" = some true := (by decide : isiT "tuple" "tuple" = _)
theorem iso_tuple_dict {xs : List V} : isiO (.tup xs) "dict" = some false := (by decide : isiT "tuple" "dict" = _)
theorem iso_dict_int {xs : List (Key × V)} : isiO (.dK xs) "int" = some false := (by decide : isiT "dict" "int" = _)
theorem iso_dict_bool {xs : List (Key × V)} : isiO (.dK xs) "bool" = some false := (by decide : isiT "dict" "bool" = _)
theorem iso_dict_str {xs : List (Key × V)} : isiO (.dK xs) "str" = some false := (by decide : isiT "dict" "str" = _)
theorem iso_dict_list {xs : List (Key × V)} : isiO (.dK xs) "list" = some false := (by decide : isiT "dict" "list" = _)
theorem iso_dict_tuple {xs : List (Key × V)} : isiO (.dK xs) "tuple" = some false := (by decide : isiT "dict" "tuple" = _)
theorem iso_dict_dict {xs : List (Key × V)} : isiO (.dK xs) "dict" = some true := (by decide : isiT "dict" "dict" = _)
end L2
namespace L2
open PySem PySem.Spec PyProof.Rows
def CompIt (J : It) (caps : List Nat) (tt : TT) (te : TE) (σ : St) (H : Hp) (Q : VK) : Prop := ∃ (n : Nat) (W : Nat → List V → Hp → Prop), n ≤ sizeLine ∧ W 0 [] H ∧ ∀ i ys H2, W i ys H2 →
  (J.stop i H2 ∧ ∀ p, H2 p = none → Q (.ref p) (upd H2 p (.lst ys))) ∨
  (J.go i H2 ∧ i < n ∧ ∀ x H3, J.yld i H2 x H3 → tt (some x :: capV caps σ) H3 fun b H4 => if b = true then te (some x :: capV caps σ) H4 fun v H5 => W (i + 1) (ys ++ [v]) H5 else W (i + 1) ys H4)
theorem w_comp {caps : List Nat} {wi : TI} {tt : TT} {te : TE} {σ : St} {H : Hp} {Q : VK} : tComp caps wi tt te σ H Q = wi σ H fun J H1 => CompIt J caps tt te σ H1 Q := rfl
section
variable {lo : Int} {n : Nat} {K : PySem.W.Frag} {a : Addr} {caps : List Nat} {tt : TT} {te : TE} {σ : St} {H : Hp} {Q : VK}
theorem compR (Pv : Nat → List V → Hp → Prop) (hn : n ≤ sizeLine) (h0 : Pv 0 [] H)
    (hs : ∀ i ys H, i < n → Pv i ys H → tt (some (.int (lo + i)) :: capV caps σ) H fun b H4 => if b = true then te (some (.int (lo + i)) :: capV caps σ) H4 fun v H5 => Pv (i + 1) (ys ++ [v]) H5 else Pv (i + 1) ys H4)
    (hd : ∀ ys H, Pv n ys H → ∀ p, H p = none → Q (.ref p) (upd H p (.lst ys))) : CompIt (Itr lo n) caps tt te σ H Q := by
  refine ⟨n, fun i ys H => i ≤ n ∧ Pv i ys H, hn, ⟨Nat.zero_le _, h0⟩, ?_⟩
  rintro i ys H2 ⟨hi, p⟩
  by_cases hlt : i < n
  · refine .inr ⟨hlt, hlt, ?_⟩
    rintro x H3 ⟨rfl, rfl⟩
    have key := hs i ys H3 hlt p
    have e1 : ∀ H5 zs, Pv (i + 1) zs H5 → i + 1 ≤ n ∧ Pv (i + 1) zs H5 := fun _ _ h => ⟨hlt, h⟩
    have e2 : (fun (b : Bool) (H4 : Hp) => if b = true then te (some (.int (lo + i)) :: capV caps σ) H4 fun v H5 => Pv (i + 1) (ys ++ [v]) H5 else Pv (i + 1) ys H4) = fun b H4 => if b = true then te (some (.int (lo + i)) :: capV caps σ) H4 fun v H5 => i + 1 ≤ n ∧ Pv (i + 1) (ys ++ [v]) H5 else i + 1 ≤ n ∧ Pv (i + 1) ys H4 := by
      funext b H4
      have z : i + 1 ≤ n := hlt
      simp only [z, true_and]
    rw [e2] at key
    exact key
  · have e : i = n := by omega
    subst e
    exact .inl ⟨Nat.le_refl _, hd ys H2 p⟩
theorem compI (ns : List Int) (Pv : Nat → List V → Hp → Prop) (hn : ns.length ≤ sizeLine) (h0 : Pv 0 [] H) (hl : ∀ i ys H, Pv i ys H → SqL K H a (ns.map V.int))
    (hs : ∀ i (x : Int) ys H, ns[i]? = some x → Pv i ys H → tt (some (.int x) :: capV caps σ) H fun b H4 => if b = true then te (some (.int x) :: capV caps σ) H4 fun v H5 => Pv (i + 1) (ys ++ [v]) H5 else Pv (i + 1) ys H4)
    (hd : ∀ ys H, Pv ns.length ys H → ∀ p, H p = none → Q (.ref p) (upd H p (.lst ys))) : CompIt (Itl K a) caps tt te σ H Q := by
  refine ⟨ns.length, fun i ys H => i ≤ ns.length ∧ Pv i ys H, hn, ⟨Nat.zero_le _, h0⟩, ?_⟩
  rintro i ys H2 ⟨hi, p⟩
  have hS := hl i ys H2 p
  by_cases hlt : i < ns.length
  · obtain ⟨x, hx⟩ : ∃ x, ns[i]? = some x := ⟨ns[i], List.getElem?_eq_getElem hlt⟩
    have hv : (ns.map V.int)[i]? = some (.int x) := by rw [List.getElem?_map, hx]; rfl
    refine .inr ⟨⟨_, _, hS, hv⟩, hlt, ?_⟩
    rintro y H3 ⟨rfl, hy⟩
    have hxy : y = .int x := (Option.some.inj (hv.symm.trans (hy _ hS))).symm
    subst hxy
    have key := hs i x ys H3 hx p
    have e2 : (fun (b : Bool) (H4 : Hp) => if b = true then te (some (.int x) :: capV caps σ) H4 fun v H5 => Pv (i + 1) (ys ++ [v]) H5 else Pv (i + 1) ys H4) = fun b H4 => if b = true then te (some (.int x) :: capV caps σ) H4 fun v H5 => i + 1 ≤ ns.length ∧ Pv (i + 1) (ys ++ [v]) H5 else i + 1 ≤ ns.length ∧ Pv (i + 1) ys H4 := by
      funext b H4
      have z : i + 1 ≤ ns.length := hlt
      simp only [z, true_and]
    rw [e2] at key
    exact key
  · have e : i = ns.length := by omega
    subst e
    exact .inl ⟨⟨_, hS, by rw [List.length_map]; exact Nat.le_refl _⟩, hd ys H2 p⟩
end
theorem cx_K {CX : CXT} {P : Program} {w : World} {K : PySem.W.Frag} {mg : Str → Option Value} {base : Heap} {N : List Str} {qual : Str} {scope : Scope} {f : Addr} {cd : Value} {A : Around} {outer : List Env} {s : Shared} {H : Hp} {E : XK} : (cxOf CX P w K mg base N qual scope f cd A outer s H E).K = K := rfl
theorem cc_K {X : Cx} {N : List Str} {scope : Scope} {cl : List (Str × Addr)} {C : Addr} {s : Shared} {H : Hp} {fp : List Addr} : (compCx X N scope cl C s H fp).K = X.K := rfl
end L2
namespace Rv
open PySem PySem.Spec PyProof.Rows
section
variable {prog : Program} {w : World} {A : Around} {E : Value → Shared → Prop} {s : Shared}
end
section
variable {prog : Program} {w : World} {A : Around} {E : Value → Shared → Prop} {s : Shared}
end
end Rv
namespace L2
open PySem PySem.Spec PyProof.Rows
def Itv (K : PySem.W.Frag) (a : Addr) (n : Nat) : It :=
  ⟨fun i H => i < n ∧ ∃ xs, SqL K H a xs ∧ xs.length = n, fun i H x H' => H' = H ∧ ∀ xs, SqL K H a xs → xs[n - 1 - i]? = some x, fun i _ => n ≤ i⟩
section
variable {X : Cx} {tg e : Expr} {te : TE} {p p2 pos pos2 : Pos}
def iRev (K : PySem.W.Frag) (tl : TE) : TI := fun σ H R => tl σ H fun x H1 => ∃ a xs, x = .ref a ∧ SqL K H1 a xs ∧ R (Itv K a xs.length) H1
def tListRev (K : PySem.W.Frag) (te : TE) : TE := fun σ H Q => te σ H fun x H1 => ∃ a xs, x = .ref a ∧ SqL K H1 a xs ∧ ∀ l, H1 l = none → Q (.ref l) (upd H1 l (.lst xs.reverse))
end
theorem cut_from {α : Type} (f : α → V) (xs : List α) {k : Int} (hk : 0 ≤ k) : cutV (xs.map f) (some k) none = (xs.drop k.toNat).map f := by
  obtain ⟨n, rfl⟩ : ∃ n : Nat, k = (n : Int) := ⟨k.toNat, by omega⟩
  unfold cutV
  rw [HT.sIx_none, HT.sIx_nat, Int.toNat_natCast, List.map_drop]
  rcases Nat.le_total n (xs.map f).length with h | h
  · rw [Nat.min_eq_left h, List.take_of_length_le (by rw [List.length_drop]; exact Nat.le_refl _)]
  · rw [Nat.min_eq_right h, List.drop_of_length_le (Nat.le_refl _), List.drop_of_length_le h]
    simp
theorem newH {H H1 : Hp} {p : Addr} {o : HO} (e : upd H p o = H1) (n : H p = none) : Same H H1 ∧ H1 p = some o := by
  subst e
  exact ⟨same_new n o, upd_same⟩
theorem w_tyl {K : PySem.W.Frag} {p : Addr} {H : Hp} : tyV K "list" (.ref p) H = ∃ xs, SqL K H p xs := by
  unfold tyV
  simp
section
variable {K : PySem.W.Frag} {H : Hp} {a b : Addr} {ns ms : List Int} {Q : VK}
theorem eqv_il : PyData.eqv (.list (ns.map PyData.int)) (.list (ms.map PyData.int)) = decide (ns = ms) := by
  rw [← eqvAll_ints]
  simp only [PyData.eqv]
theorem canLay_ints : ∀ ns : List Int, PyData.canLayAll0 (ns.map PyData.int) = true
  | [] => by simp [PyData.canLayAll0]
  | n :: r => by simp [PyData.canLayAll0, PyData.canLay0, canLay_ints r]
theorem depth_ints : ∀ ns : List Int, PyData.depthAll (ns.map PyData.int) = 0
  | [] => by simp [PyData.depthAll]
  | n :: r => by simp [PyData.depthAll, PyData.depth, depth_ints r]
theorem shaped_l (ns : List Int) : SeqAt.shaped (.list (ns.map PyData.int)) = true := by
  unfold SeqAt.shaped
  simp [PyData.canLay0, PyData.depth, canLay_ints, depth_ints]
theorem eqL (h : SqL K H a (ns.map V.int)) (h' : SqL K H b (ms.map V.int)) (q : Q (.bl (decide (ns = ms))) H) : rEqD K false (.ref a) (.ref b) H Q := by
  refine ⟨_, _, .lst h (DatVs.ints ns), .lst h' (DatVs.ints ms), shaped_l ns, shaped_l ms, ?_⟩
  rw [if_neg (by decide), eqv_il]
  exact q
theorem neL (h : SqL K H a (ns.map V.int)) (h' : SqL K H b (ms.map V.int)) (q : Q (.bl (!decide (ns = ms))) H) : rEqD K true (.ref a) (.ref b) H Q := by
  refine ⟨_, _, .lst h (DatVs.ints ns), .lst h' (DatVs.ints ms), shaped_l ns, shaped_l ms, ?_⟩
  rw [if_pos rfl, eqv_il]
  exact q
end
theorem seqI {t u : TS} {D : Ends} {σ : St} {H : Hp} (h : t { D with nx := u D } σ H) : tSeq t u D σ H := h
section
variable {X : Cx}
end
end L2
namespace Ul
open PySem PySem.Spec PyProof.Rows
section
variable {prog : Program} {w : World} {A : Around} {E : Value → Shared → Prop}
variable {s : Shared}
end
end Ul
namespace L2
open PySem PySem.Spec PyProof.Rows
section
variable {X : Cx} {pos : Pos}
def gLst (K : PySem.W.Frag) (n : Nat) (t : TGs) : TG := fun v σ H Q => ∃ a xs, v = .ref a ∧ SqL K H a xs ∧ xs.length = n ∧ t xs σ H Q
end
end L2
namespace L2
open PySem PySem.Spec PyProof.Rows
def CXE (P : Program) (w : World) : CXT := fun outer H s E e s' => ∃ (ea t : Addr) (C : Value) (vs : List Value) (B : Heap) (H' : Hp), e = .ref ea ∧ s'.os = s.os ∧ AllBare s'.gens ∧ Heap.FlyingW B outer ea C (.ref t) s'.heap ∧ s'.heap.TupAt t vs ∧ B.get? t = none ∧
  HOk P w H' B ∧ (∀ b o, s.heap.get? b = some o → H b = none → b ∉ frs outer → B.get? b = some o) ∧ (∀ b o, s.heap.get? b = some o → b ∉ frs outer → ∃ o', B.get? b = some o') ∧ Un (frs outer) [] H H' s.heap s'.heap ∧ E C none H'
section
variable {X : Cx} {pins : List (Addr × Obj)} {σ : St} {H H1 : Hp} {s s1 : Shared}
theorem frs_cons {env : Env} {L : Addr} {l : List Env} (h : env.frame = some L) {b : Addr} : b ∈ frs (env :: l) ↔ b = L ∨ b ∈ frs l := by
  unfold frs
  rw [List.filterMap_cons, h]
  exact List.mem_cons
theorem Inv.old (I : Inv X pins σ H s) {b : Addr} {o : Obj} (e : X.s₀.heap.get? b = some o) : b ≠ X.env.locals := fun z => by
  have h1 : @LT.lt Nat instLTNat b X.s₀.heap.objs.size := Heap.lt_size e
  have h2 : @LE.le Nat _ X.s₀.heap.objs.size X.env.locals := I.ok.above
  have z' : @Eq Nat b X.env.locals := z
  omega
theorem hid_ok {fs : List Addr} (I : Inv X pins σ H s) (hf : ∀ b ∈ fs, H b = none) : HOk X.prog X.w H (PySem.W.hideAll s.heap fs) := fun a o e => by
  have q : ObjOk X.prog X.w H s.heap a o := I.hok a o e
  refine q.stay (fun c u hc e' => PySem.W.hideAll_get _ e' fun z => ?_) (fun c e' => e') fun c zs e' => e'
  have h0 := hf c z
  rcases hc with hc | hc
  · rw [hc, e] at h0; cases h0
  · rw [hc] at h0; cases h0
theorem thr {M : Model} {h' : Heap} {ea : Addr} {C : Value} {vs : List Value} {E : XK} {EE : Value → Shared → Prop} (hst : X.stack = X.env :: X.outer) (hfr : X.env.frame = some X.env.locals) (hex : X.ex = []) (I : Inv X pins σ H s)
    (hx : Heap.MadeExcOf s.heap h' ea C vs) (hE : E C none H) :
    wpAny M X.A (leaving X.env (.ref ea)) (fun _ s'' => CXE X.prog X.w X.outer X.H₀ X.s₀ E (.ref ea) s'') EE { s with heap := h' } := by
  have hA : X.A.frames = some (X.env :: X.outer) := by rw [← hst]; exact I.ok.frames
  have fstk : ∀ b ∈ frs (X.env :: X.outer), H b = none := by rw [← hst]; exact I.stkFree
  have hfun : s.heap.FunFrames X.base (X.env :: X.outer) := by rw [← hst]; exact I.stack
  have hin : ∀ env ∈ (X.env :: X.outer), ∀ b, env.frame = some b → b ∈ frs (X.env :: X.outer) := fun env he b hb => List.mem_filterMap.mpr ⟨env, he, hb⟩
  refine wpAny_leaves_madeW (base := PySem.W.hideAll s.heap (frs (X.env :: X.outer))) hA hfr (fun b o q => PySem.W.of_hideAll _ q) (PySem.W.funFrames_hide hfun hin) hx fun h2 t fly tup tn up => ?_
  have u := I.base
  rw [hex] at u
  have keepB : ∀ b o, X.s₀.heap.get? b = some o → X.H₀ b = none → b ∉ frs X.outer → (PySem.W.hideAll s.heap (frs (X.env :: X.outer))).get? b = some o := fun b o e n nf => by
    refine PySem.W.hideAll_get _ (u.keep b o e n nf (by simp)) fun z => ?_
    rcases (frs_cons hfr).mp z with z | z
    · exact I.old e z
    · exact nf z
  have slots : ∀ b o, s.heap.get? b = some o → b ∈ frs (X.env :: X.outer) → ∃ sl, h2.get? b = some { o with slots := sl } := fun b o e hb => by
    obtain ⟨_, o', ho', hd⟩ := hfun.mem hb
    rw [e] at ho'
    cases ho'
    exact up b o (hx.keeps _ _ e) hd
  have thereB : ∀ b o, X.s₀.heap.get? b = some o → b ∉ frs X.outer → ∃ o', (PySem.W.hideAll s.heap (frs (X.env :: X.outer))).get? b = some o' := fun b o e nf => by
    obtain ⟨o', e1⟩ := u.there b o e (by simp)
    refine ⟨o', PySem.W.hideAll_get _ e1 fun z => ?_⟩
    rcases (frs_cons hfr).mp z with z | z
    · exact I.old e z
    · exact nf z
  refine ⟨ea, t, C, vs, _, H, rfl, I.os, I.bare, fly, tup, tn, hid_ok I fstk, keepB, thereB, ?_, hE⟩
  refine ⟨fun b o e n nf _ => fly.1 _ _ (keepB b o e n nf), fun b o e n hb _ => ?_, fun b o e n _ => u.free b o e n (by simp), fun b o e _ => ?_, u.tups, u.frzs, u.tbls⟩
  · obtain ⟨sl, e1⟩ := u.slot b o e n hb (by simp)
    obtain ⟨sl', e2⟩ := slots b _ e1 ((frs_cons hfr).mpr (.inr hb))
    exact ⟨sl', e2⟩
  · obtain ⟨o', e1⟩ := u.there b o e (by simp)
    by_cases hb : b ∈ frs (X.env :: X.outer)
    · obtain ⟨sl, e2⟩ := slots b _ e1 hb
      exact ⟨_, e2⟩
    · exact ⟨o', fly.1 _ _ (PySem.W.hideAll_get _ e1 hb)⟩
end
abbrev bmV : List Value := [.type "ValueError", .type "Exception", .type "BaseException", .type "object"]
abbrev ExcK (K : PySem.W.Frag) (C : Addr) : Prop := PySem.W.excIn K C bmV "ValueError.__new__" = true
theorem own_at {K : PySem.W.Frag} {h : Heap} {mg : Str → Option Value} {x : Str} {C : Addr} (X : K.In h) (e : mg x = some (.ref C)) (q : ExcK K C) : OwnCls x C bmV "ValueError.__new__" mg h := by
  refine ⟨e, ?_⟩
  unfold ExcK PySem.W.excIn at q
  split at q
  · rename_i dd cd sl ho
    split at q
    · rename_i C' bm k0 k1 k2 k3 n k5 hm hs
      simp only [Bool.and_eq_true, beq_iff_eq, Bool.not_eq_true'] at q
      obtain ⟨⟨⟨⟨⟨rfl, rfl⟩, hdel⟩, ht⟩, hok⟩, hni⟩ := q
      obtain ⟨nm, bs, mro, ns, qn, hd, sn, sub, ab, col, del⟩ := cd
      dsimp only at hm hdel hok hni
      subst hm hdel
      have hsl : sl = #[k0, k1, k2, k3, some (.builtin "ValueError.__new__"), k5] := by
        obtain ⟨l⟩ := sl
        simp only at hs
        rw [hs]
      subst hsl
      exact ⟨bm, ns, nm, qn, bs, hd, sn, sub, ab, col, dd, k0, k1, k2, k3, k5, _, X _ _ ho, .of_isNs (PySem.W.isNs_of_in X hok), PySem.W.nsMap_none_of_in X hok hni, PySem.W.tail_of_in X ht⟩
    · cases q
  · cases q
def Thr (X : Cx) (E : XK) : Prop := ∀ (pins : List (Addr × Obj)) (σ : St) (H : Hp) (s : Shared) (h' : Heap) (ea : Addr) (C : Value) (vs : List Value), Inv X pins σ H s → Heap.MadeExcOf s.heap h' ea C vs → E C none H → X.xe (.ref ea) { s with heap := h' }
def tRaise (C : Addr) (E : XK) (ta : TA) : TS := fun _ σ H => ta σ H fun vs H1 => vs.length ≤ sizeLine ∧ E (.ref C) none H1
section
variable {X : Cx} {x : Str} {C : Addr} {np cpos pos : Pos} {e : Expr} {es : List Expr} {ta : TA} {E : XK}
theorem ps_raise (hT : Thr X E) (hc : X.calm = true) (hg : Gl X x) (hm : X.mg x = some (.ref C)) (q : ExcK X.K C) (ha : PA X (e :: es) ta)
    (he : starEach (e :: es) X.env = (false, eval e X.env) :: starEach es X.env := by rfl) (hpl : (backTo cpos (starEach es X.env)).any (·.1) = false := by rfl) (hdb : (x == ("__debug__" : Str)) = false := by decide) :
    PS X (.Raise (some (.Call (.Name x np) (e :: es) [] cpos)) none pos) (tRaise C E ta) := by
  intro pins s σ H D I h
  have O := own_at I.ok.mod.kin hm q
  obtain ⟨tl, N, nm, qq, bs, hdct, sn, sub, ab, col, dd, k0, k1, k2, k3, k5, mN, hC, hN, hni, T⟩ := O.obj
  refine wpAny_Raise_call_subT (C := C) (nm := nm) (q := qq) (N := N) (bs := bs) (bm := tl) (hdct := hdct) (sn := sn) (sub := sub) (ab := ab) (col := col) (dd := dd) (k0 := k0) (k1 := k1) (k2 := k2) (k3 := k3) (k5 := k5)
    PySem.F.excBase_ValueError (mN := mN) (T.hasType PySem.F.excBase_ValueError.hasBase) (I.ok.hd hc) (by rw [he]; show (false || (backTo cpos (starEach es X.env)).any (·.1)) = false; rw [hpl]; rfl) hni (ld_glob I hg hm ⟨rfl, ?_⟩ hdb)
  have ha' := ha cpos pins s σ H _ I h
  rw [he] at ha' ⊢
  exact Calls.evalArgs_plain (thn ha' fun us s2 ⟨vs, H1, I1, r, z, hE⟩ => ⟨rfl, by rw [← r.length]; exact z, I1.bk _ _ hC, hN.keeps I1.bk, T.keeps I1.bk, fun h' ea hx => hT pins σ H1 s2 h' ea _ us I1 hx hE⟩)
end
section
variable {P : Program} {w : World} {K : PySem.W.Frag} {mg : Str → Option Value} {base : Heap}
theorem Fun.okE {x qual : Str} {st : Stmt} {f : Addr} {fd : FuncData} {N ps : List Str} {k : Nat} {sp : Sp} (F : Fun K x qual st f fd) (S : FnScope N ps (defScope st)) (len : ∀ vs H Q E, sp vs H Q E → vs.length = ps.length)
    (hbody : ∀ (cdv : Value) (A : Around) (outer : List Env) (s : Shared) (H : Hp) (vs : List V) (Q : VK) (E : XK), Room k (A.deeper (envOfC qual (defScope st) s.heap.objs.size f cdv)) → sp vs H Q E →
      ∃ t, PSs (cxOf (CXE P w) P w K mg base N qual (defScope st) f cdv A outer s H E) (defBody st) t ∧ t { nx := fun _ H' => Q .non H', rt := Q } (start N vs) H) : FnOk P w K mg base (CXE P w) (k + 1) f fd ps sp := by
  obtain ⟨oc, od, kV, doc, pm, an, cdv, ct, osl, rfl, lk, hcd⟩ := F.ex
  refine fn_of lk hcd S len fun A outer s H vs Q E hr hsp => ?_
  obtain ⟨t, h, q⟩ := hbody cdv A outer s H vs Q E hr hsp
  exact ⟨t, h, q⟩
variable {N : List Str} {qual : Str} {scope : Scope} {f : Addr} {cd : Value} {A : Around} {outer : List Env} {s : Shared} {H : Hp} {E : XK}
theorem thrE : Thr (cxOf (CXE P w) P w K mg base N qual scope f cd A outer s H E) E := fun _ _ _ _ _ _ _ _ I hx hE => thr rfl rfl rfl I hx hE
end
theorem pass00 {P : Program} {w : World} {X : Cx} : Passes (CXE P w) X E0 := fun _ _ _ _ _ _ _ hc => by
  obtain ⟨_, _, _, _, _, _, _, _, _, _, _, _, _, _, _, _, hE⟩ := hc
  exact hE.elim
structure DefE (P : Program) (w : World) (K : PySem.W.Frag) (mg : Str → Option Value) (base : Heap) (x : Str) (k : Nat) (ps : List Str) (sp : Sp) : Prop where
  ex : ∃ (f : Addr) (fd : FuncData), FnOk P w K mg base (CXE P w) k f fd ps sp ∧ Binds K fd ps [] ∧ PySem.W.keepIn K (.ref f) = true ∧ mg x = some (.ref f)
theorem defE_mk {P : Program} {w : World} {K : PySem.W.Frag} {mg : Str → Option Value} {base : Heap} {x qual : Str} {st : Stmt} {f : Addr} {fd : FuncData} {k : Nat} {ps : List Str} {sp : Sp} (F : Fun K x qual st f fd)
    (ok : FnOk P w K mg base (CXE P w) k f fd ps sp) (b : Binds K fd ps []) (m : mg x = some (.ref f)) : DefE P w K mg base x k ps sp := ⟨⟨f, fd, ok, b, F.kp, m⟩⟩
section
variable {X : Cx} {x : Str} {j k : Nat} {ps : List Str} {sp : Sp} {p pos : Pos} {e : Expr} {es : List Expr} {t : TA} {E : XK}
theorem pe_defE (hx : Passes (CXE X.prog X.w) X E) (D : DefE X.prog X.w X.K X.mg X.base x j ps sp) (hr : Room k X.A) (hg : Gl X x) (ha : PA X (e :: es) t) (hjk : j ≤ k := by decide) (hdb : (x == ("__debug__" : Str)) = false := by decide)
    (he : starEach (e :: es) X.env = (false, eval e X.env) :: starEach es X.env := by rfl) (hpl : (backTo pos (starEach es X.env)).any (·.1) = false := by rfl) :
    PE X (.Call (.Name x p) (e :: es) [] pos) (tCall sp [] E t) := by
  obtain ⟨f, fd, ok, b, kp, m⟩ := D.ex
  exact pe_call ok (hr.mono hjk) hg m kp b .nil hx ha hdb he hpl
theorem ps_nox {st : Stmt} {t : TS} (h : PS X.nox st t) : PS X st t := fun pins s σ H D I hw =>
  wpAny_mono (h pins s σ H D (I.wish _) hw) (fun _ _ q => SP.unwish q) fun _ _ z => z.elim
end
end L2
namespace L2
open PySem PySem.Spec PyProof.Rows
abbrev Cx.inTry (X : Cx) (E : Value → Shared → Prop) (pn : List (Addr × Obj)) : Cx := { X with xe := E, pn := pn }
abbrev Cx.inExc (X : Cx) (e : Value) : Cx := { X with A := X.A.mark (some e), calm := false, xe := fun _ _ => False }
section
variable {X : Cx} {pins pins' : List (Addr × Obj)} {σ : St} {H H1 H' : Hp} {s s1 s' : Shared} {E : Value → Shared → Prop}
def PassX (X : Cx) (EE : St → XK) : Prop := ∀ (pins : List (Addr × Obj)) (σ : St) (H : Hp) (s : Shared) (e : Value) (s' : Shared), Inv X pins σ H s → CXE X.prog X.w X.stack H s (EE σ) e s' → X.xe e s'
def tCallX (sp : Sp) (EE : St → XK) (t : TA) : TE := fun σ H Q => t σ H fun vs H1 => sp vs H1 Q (EE σ)
end
section
variable {X : Cx} {x : Str} {j k : Nat} {ps : List Str} {sp : Sp} {p pos : Pos} {e : Expr} {es : List Expr} {t : TA} {EE : St → XK}
end
section
variable {X : Cx} {body suite : List Stmt} {b₀ : Stmt} {D : Addr} {cx : Str} {np hpos pos : Pos} {tb : (St → XK) → TS} {ts : TS}
def tTry (K : PySem.W.Frag) (D : Addr) (tb : (St → XK) → TS) (ts : TS) : TS := fun En σ H => tb (fun σ1 C _ H1 => PySem.W.exmOne K C (.ref D) = some true ∧ ts En σ1 H1) En σ H
end
def clK (K : PySem.W.Frag) (x : Str) : Addr := match PySem.W.nsIn K mainGlobals x with
  | some (some (.ref C)) => C
  | _ => 0
theorem clK_of {K : PySem.W.Frag} {x : Str} {C : Addr} (h : PySem.W.nsIn K mainGlobals x = some (some (.ref C))) : clK K x = C := by
  unfold clK
  rw [h]
end L2
namespace Xc
open PySem PySem.W PySem.Spec PySem.Calls PyProof.Rows Builtin.ObjectAttr
structure ExcC (K : Frag) (C : Addr) : Prop where
  ga : findIn K (.ref C) "__getattribute__" = some (some (.builtin "BaseException.__getattribute__"))
  gh : findIn K (.ref C) "__getattr__" = some none
  ca : findIn K (.ref C) "__class__" = some (some (.builtin "object.__class__"))
  gg : specialIn K (.builtin "object.__class__") "__get__" = some (some (.builtin "getset_descriptor.__get__"))
  tk : takesIn K (.builtin "object.__class__") = some true
  mo : mroIn K C (.type "object") = some true
  mb : mroIn K C (.type "BaseException") = some true
  hd : hasDictIn K C = true
section
variable {prog : Program} {w : World} {A : Around} {E : Value → Shared → Prop} {s : Shared} {K : Frag} {x C : Addr} {ox : Obj} {odo : Option Obj}
theorem typ {M : Model} {h : Heap} (hx : h.get? x = some ox) (hc : ox.cls = .ref C) : Looks M h (typeOf (.ref x)) (.ref C) := hc ▸ (Looks.ld hx).andThen .now
open Builtin Builtin.Getset_descriptor in
theorem exc_get {tp : Value} {R : Result → Shared → Prop} (X : K.In s.heap) (hx : s.heap.get? x = some ox) (hc : ox.cls = .ref C) (hm : mroIn K C (.type "object") = some true)
    (h : R (.ok (.ret (.ref C))) s) : codeAny (model prog w) A (.call (.builtin "getset_descriptor.__get__") ⟨[.builtin "object.__class__", .ref x, tp], []⟩) R s := by
  obtain ⟨hh, g, dr, t, os⟩ := s
  have L0 := typ (M := model prog w) hx hc
  have L1 := looks_mroIn (M := model prog w) X hm
  refine codeAny_call_builtin KF.slot_gs.plain KF.entry_gs (KF.slot_gs.check _ _ _ _ _ _ _ _ KF.type_class (KF.args_gs _ _ _) ?_)
  unfold Builtin.«getset_descriptor.__get__» descrGet
  rw [dga_obj]
  refine wpAny_bind (wpAny_pure ?_)
  unfold descrGetter descrCheckInstance descrNameAndClass isInstance
  simp only [KF.owner_class]
  repeat lk
  refine ⟨Code.quiet_builtin _ (by decide +kernel), codeAny_builtin KF.entry_class ?_⟩
  unfold Builtin.«object.__class__» shownTypeOf
  repeat lk
  exact h
end
end Xc
namespace L2
open PySem PySem.Spec PyProof.Rows
def ExcO (a C : Addr) : HO := .ext fun h => ∃ ox : Obj, h.get? a = some ox ∧ ox.cls = .ref C
section
variable {X : Cx} {pins : List (Addr × Obj)} {σ : St} {H H1 H' : Hp} {s s1 s' : Shared}
end
section
variable {X : Cx} {body suite : List Stmt} {b₀ : Stmt} {D : Addr} {cx n : Str} {i : Nat} {np hpos pos : Pos} {tb : (St → XK) → TS} {ts : TS}
def Ends.gone (En : Ends) (i : Nat) : Ends := ⟨fun σ H => En.nx (σ.set i none) H, En.rt, fun σ H => En.bk (σ.set i none) H, fun σ H => En.ct (σ.set i none) H⟩
def tTryAs (K : PySem.W.Frag) (D : Addr) (i : Nat) (tb : (St → XK) → TS) (ts : TS) : TS := fun En σ H =>
  tb (fun σ1 C _ H1 => PySem.W.exmOne K C (.ref D) = some true ∧ ∃ Ca, C = .ref Ca ∧ ∀ ea, H1 ea = none → ts (En.gone i) (σ1.set i (some (.ref ea))) (upd H1 ea (ExcO ea Ca))) En σ H
end
end L2
namespace L2
open PySem PySem.Spec PyProof.Rows
inductive TN (H : Hp) : V → String → Prop where
  | non : TN H .non "NoneType"
  | bl (b : Bool) : TN H (.bl b) "bool"
  | int (i : Int) : TN H (.int i) "int"
  | str (x : Str) : TN H (.str x) "str"
  | lst {a : Addr} {xs : List V} (e : H a = some (.lst xs)) : TN H (.ref a) "list"
  | tup {a : Addr} {xs : List V} (e : H a = some (.tup xs)) : TN H (.ref a) "tuple"
  | dK {a : Addr} {kvs : List (Key × V)} (e : H a = some (.dK kvs)) : TN H (.ref a) "dict"
section
variable {X : Cx}
def rLtA : R2 := fun x y H Q => ∃ j, y = .int j ∧ ((∃ i, x = .int i ∧ Q (.bl (decide (i < j))) H) ∨ (∃ b : Bool, x = .bl b ∧ Q (.bl (decide ((if b = true then (1 : Int) else 0) < j))) H))
end
end L2
namespace L2
open PySem PySem.Spec PyProof.Rows
section
variable {X : Cx} {pins : List (Addr × Obj)} {σ : St} {H : Hp} {s : Shared} {h' : Heap}
theorem Inv.turned2 {t' : Nat} {a e it : Addr} {o : HO} (I : Inv X pins σ H s) (k : ∀ b u, b ≠ e → b ≠ it → s.heap.get? b = some u → h'.get? b = some u) (ha : a = s.heap.objs.size) (new : ObjOk X.prog X.w (upd H a o) h' a o) (fe : FpOk X pins H e) (fi : FpOk X pins H it) :
    Inv X pins σ (upd H a o) { s with heap := h', toks := t' } := by
  have hnone : H a = none := I.hok.fresh (by rw [ha]; exact Nat.le_refl _)
  have lts : ∀ b u, s.heap.get? b = some u → b ≠ a := fun b u q => by rw [ha]; exact Nat.ne_of_lt (Heap.lt_size q)
  have nin : ∀ b, b ∉ [e, it] → b ≠ e ∧ b ≠ it := fun b hb => ⟨fun z => hb (by simp [z]), fun z => hb (by simp [z])⟩
  have ntr : ∀ b u, H b = some u → b ≠ e ∧ b ≠ it := fun b u q => ⟨ne_of_none q fe.1, ne_of_none q fi.1⟩
  refine I.step (g' := s.gens) (d' := s.drawn) (ch := [e, it]) (fun b hb => ?_) (fun b u _ _ hc q _ => k b u (nin b hc).1 (nin b hc).2 q) (fun b u _ _ hc q _ => ⟨u.slots, k b u (nin b hc).1 (nin b hc).2 q⟩) (fun b u _ q n => by rw [upd_ne (lts b u q)]; exact n)
    (fun b u hc q => ⟨u, k b u (nin b hc).1 (nin b hc).2 q⟩) (fun b zs q => by rw [upd_ne (ne_of_none q hnone)]; exact q) (fun b u v q => by rw [upd_ne (ne_of_none q hnone)]; exact q) (fun b ps q => ⟨#[], by rw [upd_ne (ne_of_none q hnone), q]; simp⟩) (fun m hm => ?_) (fun b u q => ?_) I.bare
  · have fb : FpOk X pins H b := by
      rcases List.mem_cons.mp hb with z | z
      · rw [z]; exact fe
      · rw [List.mem_singleton.mp z]; exact fi
    obtain ⟨f0, f1, f2, f3, f4, f5⟩ := fb
    exact ⟨f3, f1, f4, f5⟩
  · obtain ⟨u, es, ep, ho, r⟩ := hm
    exact ⟨u, es, ep, k _ u (Ne.symm fe.2.1) (Ne.symm fi.2.1) ho, r⟩
  · by_cases hb : b = a
    · subst hb
      rw [upd_same] at q
      cases q
      exact new
    · rw [upd_ne hb] at q
      have w : ObjOk X.prog X.w H s.heap b u := I.hok b u q
      have ntr' : ∀ c, (c = b ∨ ∃ u, H c = some u) → c ≠ e ∧ c ≠ it := fun c hc => by
        rcases hc with z | ⟨_, z⟩
        · rw [z]; exact ntr b u q
        · exact ntr c _ z
      refine w.stay (fun c v hc q' => k c v (ntr' c ?_).1 (ntr' c ?_).2 q') (fun c q' => ?_) fun c zs q' => ?_
      · rcases hc with z | z
        · exact .inl z
        · exact .inr ⟨_, z⟩
      · rcases hc with z | z
        · exact .inl z
        · exact .inr ⟨_, z⟩
      · rw [upd_ne (ne_of_none q' hnone)]; exact q'
      · rw [upd_ne (ne_of_none q' hnone)]; exact q'
end
def Ite (K : PySem.W.Frag) (a : Addr) : It :=
  ⟨fun i H => ∃ xs x, SqL K H a xs ∧ xs[i]? = some x, fun i H x H' => ∃ y t, (∀ xs, SqL K H a xs → xs[i]? = some y) ∧ H t = none ∧ x = .ref t ∧ H' = upd H t (.tup [.int (i : Int), y]), fun i H => ∃ xs, SqL K H a xs ∧ xs.length ≤ i⟩
theorem turn_enum {P : Program} {w : World} {K : PySem.W.Frag} {elts : List Expr} {x1} {tp : Pos} (a e it : Addr) (hne : e ≠ it) : Turn P w K (.Tuple elts x1 tp) (Ite K a) [e, it] e (fun i h => (∃ old, IsEnum h e it ((i : Nat) : Int) old) ∧ h.IsListIter it a i) where
  mem := by simp
  obj := fun i h st b hb => by
    obtain ⟨⟨old, he⟩, o, ho, c, d⟩ := st
    rcases List.mem_cons.mp hb with z | z
    · subst z
      exact ⟨_, he, fun v z => by
        have z' : Data.fields _ = Data.cell v := z
        cases z'⟩
    · rw [List.mem_singleton.mp z]
      exact ⟨o, ho, fun v z => by rw [d] at z; cases z⟩
  keep := fun i h h' st k => by
    obtain ⟨⟨old, he⟩, hi⟩ := st
    exact ⟨⟨old, k e (by simp) _ he⟩, hi.at fun o q => k it (by simp) o q⟩
  item := by
    intro X hP hw hK hc i pins s σ H E I hf st hg
    subst hP hw hK
    obtain ⟨xs, x, hq, hx⟩ := hg
    obtain ⟨its, rv, p, hz⟩ := I.list hq
    obtain ⟨u, hu, ru⟩ := rv.get hx
    obtain ⟨⟨old, he⟩, hit⟩ := st
    have fe := hf e (by simp)
    have fi := hf it (by simp)
    have hel : e < s.heap.objs.size := Heap.lt_size he
    refine wpAny_pyNext_enum_item he hit p.isList (x := u) (by simpa using hu) hne fun h1 he1 hit1 ht1 hz1 hk1 => ⟨_, rfl, ?_⟩
    refine wpAny_letOwnedTupleGo_enum he1 fun h2 he2 hs2 => ?_
    have hs2' : Heap.SameBut e h1 h2 := hs2
    have hnone : H s.heap.objs.size = none := I.hok.fresh (Nat.le_refl _)
    refine ⟨.ref s.heap.objs.size, upd H s.heap.objs.size (.tup [.int (i : Int), x]), I.turned2 (t' := s.toks + 1) (e := e) (it := it) (fun b o hb1 hb2 q => (hs2'.2 b hb1).trans (hk1 b o hb1 hb2 q)) rfl ?_ fe fi, rfl, ⟨x, _, fun ys hy => by rw [I.list_inj hy hq]; exact hx, hnone, rfl, rfl⟩, ⟨⟨_, by rw [Int.natCast_add]; exact he2⟩, hit1.extBut hs2'.extBut (Ne.symm hne)⟩, fun b hb => ?_⟩
    · exact ⟨by show 2 ≤ sizeLine; decide, [.int i s.toks, u], .cons ⟨_, rfl⟩ (.cons ru .nil), ⟨_, (hs2'.2 _ (Nat.ne_of_gt hel)).trans ht1, rfl, _, rfl⟩⟩
    · have hb0 : H b = none := (hf b hb).1
      have hbl : b < s.heap.objs.size := by
        rcases List.mem_cons.mp hb with z | z
        · rw [z]; exact hel
        · rw [List.mem_singleton.mp z]
          obtain ⟨o, ho, _⟩ := id hit
          exact Heap.lt_size ho
      rw [upd_ne (Nat.ne_of_lt hbl)]
      exact hb0
  done := by
    intro X hP hw hK hc i pins s σ H E I hf st hg
    subst hP hw hK
    obtain ⟨xs, hq, hx⟩ := hg
    obtain ⟨its, rv, p, hz⟩ := I.list hq
    obtain ⟨⟨old, he⟩, hit⟩ := st
    obtain ⟨f0, f1, f2, f3, f4, f5⟩ := hf it (by simp)
    have hl := rv.length
    exact wpAny_pyNext_enum_end (I.ok.hd hc) he hit p.isList (by simp; omega) fun h' eb => ⟨rfl, I.turned (t' := s.toks) (fun b o hb q => eb b o hb q) f0 f1 f3 f4 f5⟩
  self := fun _ _ _ _ _ ⟨⟨_, he⟩, _⟩ h => wpAny_pyIter_enum he h
section
variable {X : Cx} {e : Expr} {te : TE} {p p2 pos pos2 : Pos}
def iEnum (K : PySem.W.Frag) (tl : TE) : TI := fun σ H R => tl σ H fun x H1 => ∃ a, x = .ref a ∧ (∃ xs, SqL K H1 a xs) ∧ R (Ite K a) H1
theorem pi_enum {elts : List Expr} {x1} {tp : Pos} (hg : Gl X "enumerate") (hm : X.mg "enumerate" = none) (he : PE X e te) (hs : starEach [e] X.env = (false, eval e X.env) :: starEach [] X.env := by rfl) : PI X (.Tuple elts x1 tp) (.Call (.Name "enumerate" p) [e] [] pos) (iEnum X.K te) := by
  intro pins s σ H R I h
  refine wpAny_Call_Name_kw (ld_blt I hg hm PyProof.Rows.boot_enumerate ?_ (by decide) (by decide))
  refine PyProof.Rows.callWith_type1 (thn (pa_cons he pa_nil hs pos pins s σ H (fun vs H1 => ∃ a, vs = [.ref a] ∧ (∃ xs, SqL X.K H1 a xs) ∧ R (Ite X.K a) H1) I ?_) fun us s1 ⟨vs, H1, I1, r1, q1⟩ => ?_) hs rfl
  · show te σ H _
    have e2 : (fun x H1 => tNil σ H1 fun xs H2 => (fun vs H1 => ∃ a, vs = [V.ref a] ∧ (∃ xs, SqL X.K H1 a xs) ∧ R (Ite X.K a) H1) (x :: xs) H2) = fun x H1 => ∃ a, x = V.ref a ∧ (∃ xs, SqL X.K H1 a xs) ∧ R (Ite X.K a) H1 := by
      funext x H1
      simp only [tNil, List.cons.injEq, and_true]
    have := h
    unfold iEnum at this
    rw [← e2] at this
    exact this
  · obtain ⟨a, rfl, ⟨xs, hq⟩, hR⟩ := q1
    obtain ⟨u, rfl, ru⟩ := vals1 r1
    cases ru
    obtain ⟨its, rv, pl, hz⟩ := I1.list hq
    refine call_enumerate_list pl.isList fun h' he' hit hz' hk => ?_
    refine wpAny_pyIter_enum he' ?_
    refine ⟨s1.heap.objs.size + 1, [s1.heap.objs.size + 1, s1.heap.objs.size], _, _, H1, rfl, I1.kept (t' := s1.toks) hk, turn_enum a _ _ (Nat.succ_ne_self _), ⟨⟨_, he'⟩, hit⟩, fun b hb => ?_, hR⟩
    rcases List.mem_cons.mp hb with z | z
    · rw [z]; exact I1.fpOk (Nat.le_succ _) (I1.hok.fresh (Nat.le_succ _))
    · rw [List.mem_singleton.mp z]; exact I1.fpOk (Nat.le_refl _) (I1.hok.fresh (Nat.le_refl _))
end
section
variable {X : Cx} {e lo hi st : Expr} {te : TE} {tl th tk : TO} {pos p2 : Pos}
def tSlK (K : PySem.W.Frag) (te : TE) (tl th tk : TO) : TE := fun σ H Q => te σ H fun x H1 => tl σ H1 fun l H2 => th σ H2 fun u H3 => tk σ H3 fun k H4 =>
  ∃ (a : Addr) (ns : List Int), x = .ref a ∧ k ≠ some 0 ∧ SqL K H4 a (ns.map V.int) ∧ ∀ ms : List Int, ms.length ≤ ns.length → (∀ m, m ∈ ms → m ∈ ns) → ∀ p, H4 p = none → Q (.ref p) (upd H4 p (.lst (ms.map V.int)))
end
section
variable {X : Cx}
def rGetL (K : PySem.W.Frag) : R2 := fun x y H Q => ∃ p xs i v, x = .ref p ∧ y = .int i ∧ 0 ≤ i ∧ SqL K H p xs ∧ xs[i.toNat]? = some v ∧ Q v H
theorem ix_tupK {K : PySem.W.Frag} (hK : X.K = K) : IxR X (rIxT K) := by subst hK; exact ix_tup
theorem bt_sum : bootBuiltins "sum" = some (.builtin "sum") := by decide +kernel
end
section
variable {X : Cx} {a b : Expr} {ta : TA} {p p2 pos pos2 : Pos}
def nums (i : Int) (n : Nat) : List Int := (List.range n).map fun k : Nat => i + (k : Int)
def tListRng (ta : TA) : TE := fun σ H Q => ta σ H fun vs H1 => ∃ i j : Int, vs = [.int i, .int j] ∧ (-1000000 ≤ i ∧ i < 1000000 ∧ -1000000 ≤ j ∧ j < 1000000) ∧ ∀ l, H1 l = none → Q (.ref l) (upd H1 l (.lst ((nums i (j - i).toNat).map V.int)))
end
end L2
namespace L2
open PySem PySem.Spec PyProof.Rows
namespace So
open PySem.W
section
variable {n : Nat} {key : Nat → Int} {cmp : Nat → Nat → (Bool → Shared → Prop) → Shared → Prop} {s : Shared}
def Own (n : Nat) (p : Array Nat) : Prop := p.toList.Perm (List.range n)
def Kp (key : Nat → Int) (p : Array Nat) (i : Nat) : Int := key (p.getD i 0)
def Inc (key : Nat → Int) (p : Array Nat) (k : Nat) : Prop := ∀ i j, i < j → j < k → Kp key p i < Kp key p j
def Dec (key : Nat → Int) (p : Array Nat) (k : Nat) : Prop := ∀ i j, i < j → j < k → Kp key p j < Kp key p i
end
end So
end L2
namespace L2
open PySem PySem.Spec PyProof.Rows
def prevSp (sp : Nat → Sp) : Nat → Sp
  | 0 => fun _ _ _ _ => False
  | n + 1 => sp n
section
variable {P : Program} {w : World} {K : PySem.W.Frag} {mg : Str → Option Value} {base : Heap} {x qual : Str} {st : Stmt} {f : Addr} {fd : FuncData} {ps : List Str} {sp : Nat → Sp}
end
theorem compL {K : PySem.W.Frag} {a : Addr} {caps : List Nat} {tt : TT} {te : TE} {σ : St} {H : Hp} {Q : VK} (xs : List V) (Pv : Nat → List V → Hp → Prop) (hn : xs.length ≤ sizeLine) (h0 : Pv 0 [] H) (hl : ∀ i ys H, Pv i ys H → SqL K H a xs)
    (hs : ∀ i (x : V) ys H, xs[i]? = some x → Pv i ys H → tt (some x :: capV caps σ) H fun b H4 => if b = true then te (some x :: capV caps σ) H4 fun v H5 => Pv (i + 1) (ys ++ [v]) H5 else Pv (i + 1) ys H4)
    (hd : ∀ ys H, Pv xs.length ys H → ∀ p, H p = none → Q (.ref p) (upd H p (.lst ys))) : CompIt (Itl K a) caps tt te σ H Q := by
  refine ⟨xs.length, fun i ys H => i ≤ xs.length ∧ Pv i ys H, hn, ⟨Nat.zero_le _, h0⟩, ?_⟩
  rintro i ys H2 ⟨hi, p⟩
  have hS := hl i ys H2 p
  by_cases hlt : i < xs.length
  · have hv : xs[i]? = some xs[i] := List.getElem?_eq_getElem hlt
    refine .inr ⟨⟨_, _, hS, hv⟩, hlt, ?_⟩
    rintro y H3 ⟨rfl, hy⟩
    have hxy : y = xs[i] := (Option.some.inj (hv.symm.trans (hy _ hS))).symm
    subst hxy
    have key := hs i _ ys H3 hv p
    have e2 : (fun (b : Bool) (H4 : Hp) => if b = true then te (some xs[i] :: capV caps σ) H4 fun v H5 => Pv (i + 1) (ys ++ [v]) H5 else Pv (i + 1) ys H4) = fun b H4 => if b = true then te (some xs[i] :: capV caps σ) H4 fun v H5 => i + 1 ≤ xs.length ∧ Pv (i + 1) (ys ++ [v]) H5 else i + 1 ≤ xs.length ∧ Pv (i + 1) ys H4 := by
      funext b H4
      have z : i + 1 ≤ xs.length := hlt
      simp only [z, true_and]
    rw [e2] at key
    exact key
  · have e : i = xs.length := by omega
    subst e
    exact .inl ⟨⟨_, hS, Nat.le_refl _⟩, hd ys H2 p⟩
section
variable {X : Cx}
theorem call_sumL (hc : X.calm = true) : CallR X (.builtin "sum") (fun xs H Q => ∃ (p : Addr) (ns : List Int), xs = [.ref p] ∧ SqL X.K H p (ns.map V.int) ∧ Q (.int ns.sum) H) := by
  intro pins s σ H xs us Q I r h
  obtain ⟨p, ns, rfl, hq, q⟩ := h
  obtain ⟨u, rfl, rx⟩ := vals1 r
  cases rx
  obtain ⟨its, rv, pl, hz⟩ := I.list hq
  have hi := intsAre_of rv
  obtain ⟨zs, hzs⟩ := hi.allInts.items
  have hn : zs.toList.map (·.1) = ns := by
    rw [← nums_intItems, ← hzs]
    exact hi.numsOf
  refine sum_intListG (I.ok.hd hc) (by rw [← hzs]; exact pl.isList) fun h' tk t' hk => ?_
  refine ⟨.int _, H, I.kept hk, ⟨t', rfl⟩, ?_⟩
  rw [preSum_eq, List.take_of_length_le (by simp), hn]
  exact q
end
namespace So
open PySem.W
section
variable {pr : Program} {wo : World} {Ar : Around} {Er : Value → Shared → Prop} {st : Shared}
end
end So
section
variable {X : Cx}
def PairsAt (H : Hp) (as : List Addr) (bs : List (Int × Nat)) : Prop := as.length = bs.length ∧ ∀ (i : Nat) (a : Addr) (b : Int × Nat), as[i]? = some a → bs[i]? = some b → H a = some (.tup [.int b.1, .int (b.2 : Int)])
def pairOb (h : Heap) (a : Addr) (b : Int × Nat) : Prop := ∃ (o : Obj) (k : Nat) (t1 t2 : Tok), h.get? a = some o ∧ o.cls = .type "tuple" ∧ o.data = .seq #[.int b.1 t1, .int (b.2 : Int) t2] k
end
end L2
namespace L2
open PySem PySem.Spec PyProof.Rows
def tComp2 (caps : List Nat) (wi : TI) (g : TG) (tt : TT) (te : TE) : TE := fun σ H Q => wi σ H fun J H1 => ∃ (n : Nat) (W : Nat → List V → Hp → Prop), n ≤ sizeLine ∧ W 0 [] H1 ∧ ∀ i ys H2, W i ys H2 →
  (J.stop i H2 ∧ ∀ p, H2 p = none → Q (.ref p) (upd H2 p (.lst ys))) ∨
  (J.go i H2 ∧ i < n ∧ ∀ x H3, J.yld i H2 x H3 → ∀ o1 o2 : Option V, g x (o1 :: o2 :: capV caps σ) H3 fun σ4 H4 => (∃ v1 v2 : V, σ4 = some v1 :: some v2 :: capV caps σ) ∧ tt σ4 H4 fun b H5 => if b = true then te σ4 H5 fun v H6 => W (i + 1) (ys ++ [v]) H6 else W (i + 1) ys H5)
section
variable {X : Cx} {scope : Scope} {cl : List (Str × Addr)} {caps : List Nat} {xs : List Str} {C : Addr} {s : Shared} {H : Hp} {fp : List Addr} {pins : List (Addr × Obj)} {σ : St}
theorem comp_start2 (I : Inv X pins σ H s) (hcl : ClOk X.env.cells cl) (hk : scope.kind = .function) (hfp : ∀ b ∈ fp, FpOk X pins H b) (hlt : ∀ b ∈ fp, b < s.heap.objs.size)
    (hhas : ((relabel scope X.env).names.all fun y => !(y.2 == .cell || y.2 == .free) || (cl.lookup y.1).isSome) = true) (hC : s.heap.objs.size ≤ C)
    (hcap : CapsOk X (relabel scope X.env) cl caps xs) (hlen : caps.length = xs.length) {x y : Str} {h₁ : Heap} {t : Nat} {m : Str → Option Value} (hn : h₁.Ns C m) (kp : ∀ b o, s.heap.get? b = some o → h₁.get? b = some o) :
    Inv (compCx X (x :: y :: xs) scope cl C s H fp) [] (none :: none :: capV caps σ) H { s with heap := h₁, toks := t } where
  ok := comp_ok I hcl hk hfp hlt hhas hC
  os := rfl
  bare := I.bare
  base := Un.kept kp
  loc := by
    refine ⟨m, hn, fun i z v h1 h2 _ => ?_⟩
    cases i with
    | zero => simp at h2
    | succ i =>
    cases i with
    | zero => simp at h2
    | succ i =>
      obtain ⟨j, e1, e2, e3, e4, c, e5⟩ := cap_get (X := X) (scope := scope) hcap (i := i) (by simpa [compCx] using h1) (by simpa using h2)
      obtain ⟨m₀, _, hl⟩ := I.loc
      obtain ⟨u, r, lk⟩ := hl j z v e1 e2 (.inr (.inl e3))
      refine ⟨u, r, .inr ⟨.inl e4, c, e5, ?_⟩⟩
      rcases lk with ⟨z1, _⟩ | ⟨_, c', q1, q2⟩
      · have z' : X.env.scope.names.lookup z = some .local := z1
        rw [e3] at z'
        cases z'
      · rw [hcl.get e5] at q1
        cases q1
        obtain ⟨o, ho, hd⟩ := q2
        exact ⟨o, kp _ _ ho, hd⟩
  cell := fun z c e => by
    obtain ⟨v, o, ho, hd⟩ := I.cell z c (hcl.get e)
    exact ⟨v, o, kp _ _ ho, hd⟩
  free := I.hok.fresh hC
  freeC := fun z c e => I.freeC z c (hcl.get e)
  pin := fun p hp => by
    have hp' : p ∈ ([] : List (Addr × Obj)) := hp
    cases hp'
  hok := I.hok.kept kp
  len := by simp [compCx, capV, hlen]
end
section
variable {X : Cx}
theorem comp_block2 {elt iter tgt : Expr} {x y : Str} {pos : Pos} {g : TG} {ifs : List Expr} {scope : Scope} {cl : List (Str × Addr)} {caps : List Nat} {xs : List Str} {tt : TT} {te : TE}
    (hc : X.calm = true) (hcl : ClOk X.env.cells cl) (hcap : CapsOk X (relabel scope X.env) cl caps xs) (hlen : caps.length = xs.length)
    (hkind : scope.kind = .function) (hcell : ∀ y ∈ scope.names, y.2 ≠ .cell)
    (hhas : ((relabel scope X.env).names.all fun y => !(y.2 == .cell || y.2 == .free) || (cl.lookup y.1).isSome) = true)
    (hg : ∀ C s H fp, PG (compCx X (x :: y :: xs) scope cl C s H fp) tgt g)
    (ht : ∀ C s H fp, PTs (compCx X (x :: y :: xs) scope cl C s H fp) ifs tt) (he : ∀ C s H fp, PE (compCx X (x :: y :: xs) scope cl C s H fp) elt te)
    {pins : List (Addr × Obj)} {σ : St} {H1 : Hp} {s2 : Shared} {it : Addr} {fp : List Addr} {tn : Nat → Heap → Prop} {J : It} {Q : VK}
    (I2 : Inv X pins σ H1 s2) (T : Turn X.prog X.w X.K tgt J fp it tn) (st0 : tn 0 s2.heap) (hfp : ∀ b ∈ fp, FpOk X pins H1 b)
    (hq : ∃ (n : Nat) (W : Nat → List V → Hp → Prop), n ≤ sizeLine ∧ W 0 [] H1 ∧ ∀ i ys H2, W i ys H2 →
      (J.stop i H2 ∧ ∀ p, H2 p = none → Q (.ref p) (upd H2 p (.lst ys))) ∨
      (J.go i H2 ∧ i < n ∧ ∀ x H3, J.yld i H2 x H3 → ∀ o1 o2 : Option V, g x (o1 :: o2 :: capV caps σ) H3 fun σ4 H4 => (∃ v1 v2 : V, σ4 = some v1 :: some v2 :: capV caps σ) ∧ tt σ4 H4 fun b H5 => if b = true then te σ4 H5 fun v H6 => W (i + 1) (ys ++ [v]) H6 else W (i + 1) ys H5))
    {RR : Value → Addr → Result → Shared → Prop}
    (hRR : ∀ s1 D C m H', Inv X pins σ H' s1 → s1.heap.Ns C m → Loose X pins H' C → Q (.ref D) H' → RR (.ref D) C (.ok .next) s1) :
    wpAny (model X.prog X.w) X.A (newList []) (fun acc s₃ => wpAny (model X.prog X.w) X.A (newFunctionEnv scope X.env.globals cl [] X.env.qual none .none (some X.env)) (fun cenv s₄ =>
      codeAny (model X.prog X.w) X.A (.compStart (.ListComp elt [⟨tgt, iter, ifs, 0⟩] scope pos) 0 (.ref it) acc { cenv with scope := relabel scope X.env }) (RR acc cenv.locals) s₄) X.xe s₃) X.xe s2 := by
  obtain ⟨n, W, hn, w0, hW⟩ := hq
  have hlt : ∀ b ∈ fp, b < s2.heap.objs.size := fun b hb => by
    obtain ⟨o, ho, _⟩ := T.obj 0 s2.heap st0 b hb
    exact Heap.lt_size ho
  refine wpAny_newObj_type (wpAny_newFunctionEnv hcell (by intro y hy; simp at hy) (fun h₁ hns₁ hsb₁ => ?_) hkind)
  dsimp only at hns₁ hsb₁ ⊢
  generalize hH2 : s2.heap.push { cls := .type "list", dict := none, data := .seq ([] : List Value).toArray } = G at hns₁ hsb₁ ⊢
  have hC : G.objs.size = s2.heap.objs.size + 1 := by rw [← hH2, Heap.size_push]
  have hDC : s2.heap.objs.size ≠ G.objs.size := by omega
  have old : ∀ b o, s2.heap.get? b = some o → h₁.get? b = some o := fun b o e => hsb₁.extBut b o (adr (by have h1 : @LT.lt Nat _ b s2.heap.objs.size := Heap.lt_size e; omega)) (Heap.get?_push_of_some _ (hH2 ▸ Heap.get?_push_of_some _ e))
  have hacc : h₁.get? s2.heap.objs.size = some { cls := .type "list", dict := none, data := .seq ([] : List Value).toArray } :=
    hsb₁.extBut _ _ hDC (Heap.get?_push_of_some _ (hH2 ▸ Heap.get?_push_size _ rfl))
  have I3 : Inv (compCx X (x :: y :: xs) scope cl G.objs.size s2 H1 fp) [] (none :: none :: capV caps σ) H1 { s2 with heap := h₁, toks := s2.toks + ([] : List (Str × Value)).length } :=
    comp_start2 I2 hcl hkind hfp hlt hhas (by omega) hcap hlen hns₁ old
  have st1 : tn 0 h₁ := T.keep 0 _ _ st0 fun b hb o e => old b o e
  have fpX : ∀ {pins' : List (Addr × Obj)} {H' : Hp} (b : Addr), b ∈ fp → H' b = none → (∀ p ∈ pins', p.1 ≠ b) → FpOk (compCx X (x :: y :: xs) scope cl G.objs.size s2 H1 fp) pins' H' b := fun b hb hh hp =>
    ⟨hh, fun z => by have h1 : @LT.lt Nat _ b s2.heap.objs.size := hlt b hb; have z' : @Eq Nat b G.objs.size := z; omega, fun z => by
      rcases List.mem_cons.mp (I2.stkSub b z) with q | q
      · exact (hfp b hb).2.1 q
      · exact (hfp b hb).2.2.1 q, .inl hb, fun y c e => (hfp b hb).2.2.2.2.1 y c (hcl.get e), fun p hp' => hp p hp'⟩
  let XC := compCx X (x :: y :: xs) scope cl G.objs.size s2 H1 fp
  have loop : ∀ s3 : Shared, s3 = { s2 with heap := h₁, toks := s2.toks + ([] : List (Str × Value)).length } →
      codeAny (model X.prog X.w) X.A (.compLoop (.ListComp elt [⟨tgt, iter, ifs, 0⟩] scope pos) 0 (.ref it) (.ref s2.heap.objs.size) (compEnvC scope cl G.objs.size X.env))
        (RR (.ref s2.heap.objs.size) G.objs.size) s3 := by
    rintro s3 rfl
    refine comp_loop (fun m s' => ∃ (i : Nat) (ys : List V) (Hn : Hp) (its : List Value) (k : Nat) (v0 v1 : Option V), m = n + 1 - i ∧ i ≤ n ∧ ys.length ≤ i ∧ W i ys Hn ∧ Vals ys its ∧ tn i s'.heap ∧ (∀ b ∈ fp, Hn b = none) ∧
      Inv XC [(s2.heap.objs.size, { cls := .type "list", data := .seq its.toArray k })] (v0 :: v1 :: capV caps σ) Hn s') ?_ (n + 1) ?_
    · rintro m s' ⟨i, ys, Hn, its, k, v0, v1, rfl, hin, hyl, w, rv, st, hfn, J'⟩
      have pD := J'.pin _ (List.mem_append_right _ (List.mem_singleton.mpr rfl))
      have neD : ∀ b ∈ fp, ∀ p ∈ [((s2.heap.objs.size, ({ cls := .type "list", data := .seq its.toArray k } : Obj)))], p.1 ≠ b := fun b hb p hp z => by
        have h1 : @LT.lt Nat instLTNat b s2.heap.objs.size := hlt b hb
        rw [List.mem_singleton.mp hp] at z
        have z' : @Eq Nat s2.heap.objs.size b := z
        omega
      rcases hW i ys Hn w with ⟨hstop, fin⟩ | ⟨hgo, hi', hgo'⟩
      · -- it stops
        refine wpAny_mono (T.done XC rfl rfl rfl hc i _ s' _ Hn (fun _ _ => False) J' (fun b hb => fpX b hb (hfn b hb) (neD b hb)) st hstop) (fun r s1 hr => ?_) fun _ _ z => z
        obtain ⟨rfl, J1⟩ := hr
        obtain ⟨mC, hnC, _⟩ := J1.loc
        have pD1 := J1.pin _ (List.mem_append_right _ (List.mem_singleton.mpr rfl))
        have hD' : s1.heap.get? s2.heap.objs.size = some { cls := .type "list", data := .seq its.toArray k } := pD1.1
        have hHD : Hn s2.heap.objs.size = none := pD1.2.1
        have hHC : Hn G.objs.size = none := J1.free
        have un : Un (frs X.stack) fp H1 (upd Hn s2.heap.objs.size (.lst ys)) s2.heap s1.heap := by
          have u := J1.base
          have lt2 : ∀ b o, s2.heap.get? b = some o → b ≠ G.objs.size ∧ b ≠ s2.heap.objs.size := fun b o e => by
            have h1 := ltN e
            exact ⟨adr (by omega), adr (by omega)⟩
          refine ⟨u.keep, u.slot, fun b o e n1 n2 => ?_, u.there, fun b zs e => ?_, fun b o u' e => ?_, fun b ps e => ?_⟩
          · rw [upd_ne (lt2 b o e).2]
            exact u.free b o e n1 n2
          · have q := u.tups b zs e
            rw [upd_ne (fun z => by rw [z, hHD] at q; cases q)]
            exact q
          · have q := u.frzs b o u' e
            rw [upd_ne (fun z => by rw [z, hHD] at q; cases q)]
            exact q
          · obtain ⟨more, q⟩ := u.tbls b ps e
            refine ⟨more, ?_⟩
            rw [upd_ne (fun z => by rw [z, hHD] at q; cases q)]
            exact q
        have hok : HOk X.prog X.w (upd Hn s2.heap.objs.size (.lst ys)) s1.heap := fun a o e => by
          by_cases ha : a = s2.heap.objs.size
          · subst ha
            rw [upd_same] at e
            cases e
            exact ⟨by omega, its, k, rv, hD'⟩
          · rw [upd_ne ha] at e
            have q : ObjOk X.prog X.w Hn s1.heap a o := J1.hok a o e
            refine q.stay (fun b u' hb e' => e') (fun b e' => ?_) fun b zs e' => ?_
            · rw [upd_ne (fun z => by rw [z, hHD] at e'; cases e')]; exact e'
            · rw [upd_ne (fun z => by rw [z, hHD] at e'; cases e')]; exact e'
        have I4 : Inv X pins σ (upd Hn s2.heap.objs.size (.lst ys)) s1 :=
          I2.call' (ch := fp) J1.os un hok J1.bare fun b hb => ⟨(hfp b hb).2.2.2.1, (hfp b hb).2.1, (hfp b hb).2.2.2.2.1, (hfp b hb).2.2.2.2.2⟩
        refine hRR s1 _ _ mC _ I4 hnC ⟨by rw [upd_ne (Ne.symm hDC)]; exact hHC, fun z => ?_, by have := I2.sz; omega, fun y c e z => ?_, fun p hp z => ?_⟩ (fin _ hHD)
        · have h1 : @LT.lt Nat instLTNat X.env.locals s2.heap.objs.size := I2.lt
          have z' : @Eq Nat G.objs.size X.env.locals := z
          omega
        · obtain ⟨v', o', ho', _⟩ := I2.cell y c e
          have h1 := ltN ho'
          have z' : @Eq Nat c G.objs.size := z
          omega
        · have h1 := ltN (I2.pin p hp).1
          have z' : @Eq Nat p.1 G.objs.size := z
          omega
      · -- a turn
        refine wpAny_mono (T.item XC rfl rfl rfl hc i _ s' _ Hn (fun _ _ => False) J' (fun b hb => fpX b hb (hfn b hb) (neD b hb)) st hgo) (fun r s1 hr => ?_) fun _ _ z => z
        obtain ⟨u, rfl, hr⟩ := hr
        refine wpAny_mono hr (fun _ s2' h2 => ?_) fun _ _ z => z
        obtain ⟨v, H3, J1, ru, hy, st1', hf3⟩ := h2
        have ob4 : ∀ b ∈ fp, ∃ o, s2'.heap.get? b = some o ∧ ∀ v, o.data ≠ .cell v := fun b hb => T.obj _ _ st1' b hb
        have J3 := J1.pinned (fun b hb => fpX b hb (hf3 b hb) (neD b hb)) ob4
        have tnAt : ∀ {σ' : St} {H' : Hp} {s'' : Shared}, Inv XC ([(s2.heap.objs.size, ({ cls := .type "list", data := .seq its.toArray k } : Obj))] ++ pinsAt fp s2'.heap) σ' H' s'' → tn (i + 1) s''.heap ∧ ∀ b ∈ fp, H' b = none := fun J4 =>
          ⟨T.keep _ _ _ st1' fun b hb o e => (J4.pin (b, o) (List.mem_append_right _ (List.mem_append_right _ (mem_pinsAt hb e)))).1, fun b hb => by
            obtain ⟨o, e, _⟩ := ob4 b hb
            exact (J4.pin (b, o) (List.mem_append_right _ (List.mem_append_right _ (mem_pinsAt hb e)))).2.1⟩
        refine wpAny_mono (hg _ _ _ _ _ s2' _ H3 v u _ J3 ru (hgo' v H3 hy v0 v1)) (fun _ s4 h4 => ?_) fun _ _ z => z
        obtain ⟨σ4, H3', J3', ⟨w1, w2, rfl⟩, q3⟩ := h4
        refine thn (ht _ _ _ _ _ s4 _ H3' _ J3' q3) fun ok s5 ⟨H4, J4, q4⟩ => ?_
        cases ok with
        | false =>
          rw [if_neg (by simp)]
          have q4' : W (i + 1) ys H4 := q4
          obtain ⟨a1, a2⟩ := tnAt J4
          exact ⟨n + 1 - (i + 1), by omega, i + 1, ys, H4, its, k, some w1, some w2, rfl, by omega, by omega, q4', rv, a1, a2, J4.unpinned⟩
        | true =>
          rw [if_pos rfl]
          have q4' : te (some w1 :: some w2 :: capV caps σ) H4 fun v H5 => W (i + 1) (ys ++ [v]) H5 := q4
          refine thn (he _ _ _ _ _ s5 _ H4 _ J4 q4') fun uv s6 ⟨y, H5, J5, ry, q5⟩ => ?_
          obtain ⟨a1, a2⟩ := tnAt J5
          have pD6 := J5.pin _ (List.mem_append_right _ (List.mem_append_left _ (List.mem_singleton.mpr rfl)))
          have hl6 := rv.length
          refine call_meets F.slot_list_append ⟨_, pD6.1, rfl⟩ F.entry_list_append (F.args_list_append_2 _ _) (PySem.list_append s2.heap.objs.size its.toArray k uv (by rw [List.size_toArray]; omega)) ⟨pD6.1, ?_⟩
          have J6 : Inv XC [] (some w1 :: some w2 :: capV caps σ) H5 s6 := J5.pins_of fun p hp => by cases hp
          have ne6 : s2.heap.objs.size ∉ fp := fun z => by have h1 : @LT.lt Nat instLTNat s2.heap.objs.size s2.heap.objs.size := hlt _ z; omega
          have J7 : Inv XC [] (some w1 :: some w2 :: capV caps σ) H5 { s6 with heap := s6.heap.update s2.heap.objs.size (Obj.mapSeq fun xs => xs.push uv), toks := s6.toks } :=
            J6.turned (it := s2.heap.objs.size) (fun b o hb e => by rw [Heap.get?_update_other _ _ (Ne.symm hb)]; exact e) pD6.2.1 (fun z => hDC z) (.inr (Nat.le_refl _)) (fun y c e z => by
              have e1 := I2.cell y c (hcl.get e)
              obtain ⟨v', o', ho', _⟩ := e1
              have h1 := ltN ho'
              have z' : @Eq Nat c s2.heap.objs.size := z
              omega) (fun p hp => by cases hp)
          refine ⟨n + 1 - (i + 1), by omega, i + 1, ys ++ [y], H5, its ++ [uv], k + 1, some w1, some w2, rfl, by omega, by rw [List.length_append, List.length_singleton]; omega, q5, rv.append (.cons ry .nil), ?_, a2, ?_⟩
          · refine T.keep _ _ _ a1 fun b hb o e => ?_
            show (s6.heap.update s2.heap.objs.size _).get? b = some o
            rw [Heap.get?_update_other _ _ (fun z => ne6 (by rw [z]; exact hb))]
            exact e
          · refine J7.pins_of fun p hp => ?_
            rw [List.mem_singleton.mp hp]
            refine ⟨?_, pD6.2.1, fun z => hDC z, pD6.2.2.2.1, fun v' z => ?_⟩
            · show (s6.heap.update s2.heap.objs.size _).get? s2.heap.objs.size = _
              rw [Heap.get?_update_self _ pD6.1 rfl]
              simp only [Obj.mapSeq, List.push_toArray]
              rw [if_neg (by simp)]
            · have z' : Data.seq _ _ = Data.cell v' := z
              cases z'
    · exact ⟨0, [], H1, [], 0, none, none, by omega, by omega, by simp, w0, .nil, st1, fun b hb => (hfp b hb).1, I3.pins_of fun p hp => by
        rw [List.mem_singleton.mp hp]
        refine ⟨hacc, I2.hok.fresh (Nat.le_refl _), fun z => hDC z, fun z => ?_, fun v' z => ?_⟩
        · have := I2.stkFree _ z
          rcases List.mem_cons.mp (I2.stkSub _ z) with q | q
          · have h1 : @LT.lt Nat instLTNat X.env.locals s2.heap.objs.size := I2.lt
            have z' : @Eq Nat s2.heap.objs.size X.env.locals := q
            omega
          · exact I2.nofs (Nat.le_refl _) q
        · have z' : Data.seq _ _ = Data.cell v' := z
          cases z'⟩
  exact codeAny_compStart_list (loop _ rfl) (T.self X.A 0 _ _ _ st1 (loop _ rfl))
theorem ps_comp2 {elt iter : Expr} {x y z : Str} {px py pz pt pos spos : Pos} {k1 : Nat} {ifs : List Expr} {scope : Scope} {cl : List (Str × Addr)} {k : Nat} (caps : List Nat) (xs : List Str) {wi : TI} {tt : TT} {te : TE}
    (hsw : swapsWith (.ListComp elt [⟨.Tuple [.Name x px, .Name y py] k1 pt, iter, ifs, 0⟩] scope pos) (some (.Name z pz)) spos.line X.env = pure true)
    (hNX : X.N.Nodup) (hk : X.N[k]? = some z) (hz : X.env.scope.names.lookup z = some .local)
    (hc : X.calm = true) (hclos : closureFor scope X.env = pure cl) (hcl : ClOk X.env.cells cl) (hcap : CapsOk X (relabel scope X.env) cl caps xs) (hlen : caps.length = xs.length)
    (hkind : scope.kind = .function) (hcell : ∀ y ∈ scope.names, y.2 ≠ .cell) (hnames : ∀ y ∈ scope.names, y.2 = .local → scope.names.lookup y.1 = some .local)
    (hhas : ((relabel scope X.env).names.all fun y => !(y.2 == .cell || y.2 == .free) || (cl.lookup y.1).isSome) = true)
    (hx : (relabel scope X.env).names.lookup x = some .local) (hy : (relabel scope X.env).names.lookup y = some .local) (hN : (x :: y :: xs).Nodup) (hi : PI X (.Tuple [.Name x px, .Name y py] k1 pt) iter wi) (ht : ∀ C s H fp, PTs (compCx X (x :: y :: xs) scope cl C s H fp) ifs tt) (he : ∀ C s H fp, PE (compCx X (x :: y :: xs) scope cl C s H fp) elt te)
    (hs : ∀ v, foldedSetIterable iter X.env v = pure v := by intro _; rfl) : PS X (.Assign [.Name z pz] (.ListComp elt [⟨.Tuple [.Name x px, .Name y py] k1 pt, iter, ifs, 0⟩] scope pos) spos) (tAsg (tComp2 caps wi (gTup X.K 2 (gCons (gName 0) (gCons (gName 1) gNil))) tt te) (gName k)) := by
  intro pins s σ H D I h
  rw [exec_Assign_Name_used _ _ _ _ hsw]
  refine wpAny_bind (wpAny_standAt (wpAny_bind ?_))
  show wpAny _ X.A (do let _ ← comprehension (.ListComp elt [⟨.Tuple [.Name x px, .Name y py] k1 pt, iter, ifs, 0⟩] scope pos) scope X.env _ (newList []) false (eval iter X.env) (some (assign (.Name z pz) X.env))) _ _ s
  refine wpAny_bind (wpAny_mono (wpAny_comprehension_free (use := some (assign (.Name z pz) X.env)) (Q := fun _ s' => SP X pins D .next s') rfl hs hclos hkind hnames
    (wpAny_mono (hi pins s σ H _ I h) (fun xv s₁ h₁ => wpAny_mono h₁ (fun itv s2 h2 => ?_) fun _ _ e => e) fun _ _ e => e)) (fun _ s' hq => wpAny_pure (wpAny_pure hq)) fun _ _ e => e)
  obtain ⟨it, fp, tn, J, H1, rfl, I2, T, st0, hfp, hq⟩ := h2
  refine comp_block2 (Q := fun v H1 => gName k v σ H1 D.nx) (RR := fun acc C => compPost (model X.prog X.w) X.A X.xe (some (assign (.Name z pz) X.env)) (fun _ s' => SP X pins D .next s') acc C) hc hcl hcap hlen hkind hcell hhas (fun C s H fp => pg_tup (X := compCx X (x :: y :: xs) scope cl C s H fp) hc (pgs_cons (pg_name (i := 0) hN rfl (.inl hx) (.inr hx)) (pgs_cons (pg_name (i := 1) hN rfl (.inl hy) (.inr hy)) pgs_nil))) ht he I2 T st0 hfp hq ?_
  intro s1 Da C m H' I4 hn l q
  show wpAny _ X.A (assign (.Name z pz) X.env (.ref Da)) _ _ s1
  refine wpAny_assign_Name (store_ok2 (v := .ref Da) I4 hNX hk (.inl hz) rfl (fun s4 I5 hsb => ?_) (.inr hz))
  obtain ⟨a, hsa, ha⟩ := hsb
  have hCa : C ≠ a := by
    rcases ha with ha | ha
    · rw [ha]; exact l.2.1
    · exact Ne.symm (l.2.2.2.1 z a ha)
  refine ⟨m, hn.sameBut hsa hCa, fun h' hsb => ⟨_, H', I5.letGo l hsb, q⟩⟩
end
end L2
namespace L2
open PySem PySem.Spec PyProof.Rows
def PairsI (H : Hp) (as : List Addr) (fs : List (Int × Int)) : Prop := as.length = fs.length ∧ ∀ (i : Nat) (a : Addr) (b : Int × Int), as[i]? = some a → fs[i]? = some b → H a = some (.tup [.int b.1, .int b.2])
def natP (b : Int × Nat) : Int × Int := (b.1, (b.2 : Int))
theorem PairsI.same {H H' : Hp} {as : List Addr} {fs : List (Int × Int)} (h : PairsI H as fs) (g : Same H H') : PairsI H' as fs := ⟨h.1, fun i a b e1 e2 => g _ _ (h.2 i a b e1 e2)⟩
theorem PairsI.nil (H : Hp) : PairsI H [] [] := ⟨rfl, fun i a b e => by simp at e⟩
theorem PairsI.app {H : Hp} {as cs : List Addr} {bs ds : List (Int × Int)} (h : PairsI H as bs) (h' : PairsI H cs ds) : PairsI H (as ++ cs) (bs ++ ds) := by
  obtain ⟨h1, h2⟩ := h
  obtain ⟨h3, h4⟩ := h'
  refine ⟨by simp [h1, h3], fun i a b e1 e2 => ?_⟩
  by_cases hl : i < as.length
  · rw [List.getElem?_append_left hl] at e1
    rw [List.getElem?_append_left (by omega)] at e2
    exact h2 i a b e1 e2
  · rw [List.getElem?_append_right (by omega)] at e1 e2
    rw [← h1] at e2
    exact h4 _ a b e1 e2
theorem PairsI.one {H : Hp} {a : Addr} {b : Int × Int} (h : H a = some (.tup [.int b.1, .int b.2])) : PairsI H [a] [b] := ⟨rfl, fun i x y e1 e2 => by
  cases i with
  | zero => cases e1; cases e2; exact h
  | succ i => simp at e1⟩
theorem PairsI.get {H : Hp} {as : List Addr} {fs : List (Int × Int)} (h : PairsI H as fs) {i : Nat} {a : Addr} (e : as[i]? = some a) : ∃ b, fs[i]? = some b ∧ H a = some (.tup [.int b.1, .int b.2]) := by
  have hl := (List.getElem?_eq_some_iff.mp e).1
  have e2 : fs[i]? = some (fs[i]'(by have := h.1; omega)) := List.getElem?_eq_getElem _
  exact ⟨_, e2, h.2 i a _ e e2⟩
theorem PairsI.at {H : Hp} {as : List Addr} {fs : List (Int × Int)} (h : PairsI H as fs) {i : Nat} {b : Int × Int} (e : fs[i]? = some b) : ∃ a, as[i]? = some a ∧ H a = some (.tup [.int b.1, .int b.2]) := by
  have hl := (List.getElem?_eq_some_iff.mp e).1
  have e2 : as[i]? = some (as[i]'(by have := h.1; omega)) := List.getElem?_eq_getElem _
  exact ⟨_, e2, h.2 i _ b e2 e⟩
def pairD (b : Int × Int) : PyData := .tuple [.int b.1, .int b.2]
theorem datI {K : PySem.W.Frag} {H : Hp} : ∀ {as : List Addr} {fs : List (Int × Int)}, PairsI H as fs → DatVs K H (as.map V.ref) (fs.map pairD)
  | [], [], _ => .nil
  | a :: as, tb :: fs, h => .cons (.tup (SqT.of (h.2 0 a tb rfl rfl)) (.cons (.int _) (.cons (.int _) .nil))) (datI ⟨by have := h.1; simpa using this, fun i a tb e1 e2 => h.2 (i + 1) a tb (by simpa using e1) (by simpa using e2)⟩)
  | [], _ :: _, h => by have := h.1; simp at this
  | _ :: _, [], h => by have := h.1; simp at this
theorem canLay_pairs : ∀ fs : List (Int × Int), PyData.canLayAll0 (fs.map pairD) = true
  | [] => by simp [PyData.canLayAll0]
  | n :: r => by simp [PyData.canLayAll0, PyData.canLay0, pairD, canLay_pairs r]
theorem depth_pairs : ∀ fs : List (Int × Int), PyData.depthAll (fs.map pairD) ≤ 1
  | [] => by simp [PyData.depthAll]
  | n :: r => by
    have := depth_pairs r
    simp [PyData.depthAll, PyData.depth, pairD]
    omega
theorem shaped_p (fs : List (Int × Int)) : SeqAt.shaped (.list (fs.map pairD)) = true := by
  have := depth_pairs fs
  unfold SeqAt.shaped
  simp [PyData.canLay0, PyData.depth, canLay_pairs]
  omega
theorem eqvAll_pairs : ∀ fs gs : List (Int × Int), PyData.eqvAll (fs.map pairD) (gs.map pairD) = decide (fs = gs)
  | [], [] => by simp [PyData.eqvAll]
  | [], _ :: _ => by simp [PyData.eqvAll]
  | _ :: _, [] => by simp [PyData.eqvAll]
  | a :: fs, b :: gs => by
    have ih := eqvAll_pairs fs gs
    have e : PyData.eqv (pairD a) (pairD b) = decide (a = b) := by
      simp only [pairD, PyData.eqv, PyData.eqvAll]
      rw [Bool.and_true]
      by_cases z : a = b
      · subst z; simp
      · rw [decide_eq_false z]
        simp only [Bool.and_eq_false_iff, beq_eq_false_iff_ne, ne_eq, decide_eq_false_iff_not]
        by_cases w : a.1 = b.1
        · exact .inr fun v => z (Prod.ext w v)
        · exact .inl w
    simp only [List.map_cons, PyData.eqvAll, ih, e]
    by_cases z : a = b
    · by_cases y : fs = gs
      · simp [z, y]
      · simp [z, y]
    · simp [z]
section
variable {K : PySem.W.Frag} {H : Hp} {l m : Addr} {as cs : List Addr} {fs gs : List (Int × Int)} {Q : VK}
theorem neP (h : SqL K H l (as.map V.ref)) (hp : PairsI H as fs) (h' : SqL K H m (cs.map V.ref)) (hp' : PairsI H cs gs) (q : Q (.bl (!decide (fs = gs))) H) : rEqD K true (.ref l) (.ref m) H Q := by
  refine ⟨_, _, .lst h (datI hp), .lst h' (datI hp'), shaped_p fs, shaped_p gs, ?_⟩
  rw [if_pos rfl]
  simp only [PyData.eqv, eqvAll_pairs]
  exact q
theorem neP1 (h : SqL K H l (as.map V.ref)) (hp : PairsI H as fs) (h' : SqL K H m (cs.map V.ref)) (hp' : PairsI H cs fs) (q : Q (.bl false) H) : rEqD K true (.ref l) (.ref m) H Q := neP h hp h' hp' (by rw [decide_eq_true rfl]; exact q)
end
def CompIt2 (J : It) (caps : List Nat) (g : TG) (tt : TT) (te : TE) (σ : St) (H : Hp) (Q : VK) : Prop := ∃ (n : Nat) (W : Nat → List V → Hp → Prop), n ≤ sizeLine ∧ W 0 [] H ∧ ∀ i ys H2, W i ys H2 →
  (J.stop i H2 ∧ ∀ p, H2 p = none → Q (.ref p) (upd H2 p (.lst ys))) ∨
  (J.go i H2 ∧ i < n ∧ ∀ x H3, J.yld i H2 x H3 → ∀ o1 o2 : Option V, g x (o1 :: o2 :: capV caps σ) H3 fun σ4 H4 => (∃ v1 v2 : V, σ4 = some v1 :: some v2 :: capV caps σ) ∧ tt σ4 H4 fun b H5 => if b = true then te σ4 H5 fun v H6 => W (i + 1) (ys ++ [v]) H6 else W (i + 1) ys H5)
theorem w_comp2 {caps : List Nat} {wi : TI} {g : TG} {tt : TT} {te : TE} {σ : St} {H : Hp} {Q : VK} : tComp2 caps wi g tt te σ H Q = wi σ H fun J H1 => CompIt2 J caps g tt te σ H1 Q := rfl
theorem comp2E {K : PySem.W.Frag} {a : Addr} {caps : List Nat} {tt : TT} {te : TE} {σ : St} {H : Hp} {Q : VK} (ns : List Int) (Pv : Nat → List V → Hp → Prop) (hn : ns.length ≤ sizeLine) (h0 : Pv 0 [] H) (hl : ∀ i ys H, Pv i ys H → SqL K H a (ns.map V.int))
    (hs : ∀ i (x : Int) ys H H', ns[i]? = some x → Pv i ys H → Same H H' → tt (some (.int (i : Int)) :: some (.int x) :: capV caps σ) H' fun t H4 => if t = true then te (some (.int (i : Int)) :: some (.int x) :: capV caps σ) H4 fun v H5 => Pv (i + 1) (ys ++ [v]) H5 else Pv (i + 1) ys H4)
    (hd : ∀ ys H, Pv ns.length ys H → ∀ p, H p = none → Q (.ref p) (upd H p (.lst ys))) : CompIt2 (Ite K a) caps (gTup K 2 (gCons (gName 0) (gCons (gName 1) gNil))) tt te σ H Q := by
  refine ⟨ns.length, fun i ys H => i ≤ ns.length ∧ Pv i ys H, hn, ⟨Nat.zero_le _, h0⟩, ?_⟩
  rintro i ys H2 ⟨hi, p⟩
  have hS := hl i ys H2 p
  by_cases hlt : i < ns.length
  · have hb : ns[i]? = some ns[i] := List.getElem?_eq_getElem hlt
    have hv : (ns.map V.int)[i]? = some (.int ns[i]) := by rw [List.getElem?_map, hb]; rfl
    refine .inr ⟨⟨_, _, hS, hv⟩, hlt, ?_⟩
    rintro y H3 ⟨y, t, hy, ht, rfl, rfl⟩ o1 o2
    have hy := hy _ hS
    rw [hv] at hy
    cases hy
    refine ⟨t, _, rfl, SqT.of upd_same, rfl, _, _, rfl, _, _, rfl, rfl, ⟨_, _, rfl⟩, ?_⟩
    have key := hs i _ ys H2 _ hb p (same_new ht (.tup [.int (i : Int), .int ns[i]]))
    have e2 : (fun (t : Bool) (H4 : Hp) => if t = true then te (some (.int (i : Int)) :: some (.int ns[i]) :: capV caps σ) H4 fun v H5 => Pv (i + 1) (ys ++ [v]) H5 else Pv (i + 1) ys H4) = fun t H4 => if t = true then te (some (.int (i : Int)) :: some (.int ns[i]) :: capV caps σ) H4 fun v H5 => i + 1 ≤ ns.length ∧ Pv (i + 1) (ys ++ [v]) H5 else i + 1 ≤ ns.length ∧ Pv (i + 1) ys H4 := by
      funext t H4
      have z : i + 1 ≤ ns.length := hlt
      simp only [z, true_and]
    rw [e2] at key
    exact key
  · have e : i = ns.length := by omega
    subst e
    exact .inl ⟨⟨_, hS, by rw [List.length_map]; omega⟩, hd ys H2 p⟩
end L2
namespace L2
open PySem PySem.Spec PyProof.Rows
def rInD (K : PySem.W.Frag) : R2 := fun x y H Q => ∃ d xs, DatV K H x d ∧ DatV K H y (.list xs) ∧ SeqAt.shaped d = true ∧ SeqAt.shaped (.list xs) = true ∧ Q (.bl (xs.any fun z => PyData.eqv z d)) H
section
variable {X : Cx}
end
end L2
namespace L2
open PySem PySem.Spec PyProof.Rows
namespace Dx
section
variable {pr : Program} {wo : World} {Ar : Around} {Er : Value → Shared → Prop} {st : Shared} {d it : Addr} {od : Obj} {es : Array DictEntry} {ep i : Nat}
end
end Dx
def Itd (o : Obj) (a : Addr) (kvs : List (List Key × V)) : It :=
  ⟨fun i H => H a = some (.frz o (.dT kvs)) ∧ i < kvs.length, fun i H x H' => H' = H ∧ ∃ b k v, x = .ref b ∧ kvs[i]? = some (k, v) ∧ H b = some (.tup (k.map kV)), fun i H => H a = some (.frz o (.dT kvs)) ∧ kvs.length ≤ i⟩
def iDict (td : TE) : TI := fun σ H R => td σ H fun x H1 => ∃ a kvs, x = .ref a ∧ H1 a = some (.dT kvs) ∧ ∀ o, R (Itd o a kvs) (upd H1 a (.frz o (.dT kvs)))
section
variable {X : Cx} {tg : Expr}
end
namespace Dx
end Dx
def rLtP (K : PySem.W.Frag) : R2 := fun x y H Q => ∃ (a b : Addr) (u v : Int × Int), x = .ref a ∧ y = .ref b ∧ SqT K H a [.int u.1, .int u.2] ∧ SqT K H b [.int v.1, .int v.2] ∧ Q (.bl (decide (u.1 < v.1 ∨ (u.1 = v.1 ∧ u.2 < v.2)))) H
section
variable {X : Cx}
end
end L2
namespace K63
open PySem L2
set_option maxHeartbeats 1000000
section
def top (i : Nat) : Stmt := PySem.Challenge.pw_deeprests_k63_whole_border_of_a_product.main.body.getD i (.Pass ⟨0, 0, 0, 0⟩)
abbrev s_depth_of : Stmt := top 4
theorem S_depth_of : FnScope ["p", "x", "depth", "left"] ["p", "x"] (defScope s_depth_of) := ⟨rfl, rfl, rfl, by decide +kernel, rfl, by decide +kernel, by decide +kernel⟩
abbrev s_rises_more : Stmt := top 6
theorem S_rises_more : FnScope ["side", "ahead"] ["side", "ahead"] (defScope s_rises_more) := ⟨rfl, rfl, rfl, by decide +kernel, rfl, by decide +kernel, by decide +kernel⟩
abbrev s_add_side : Stmt := top 7
theorem S_add_side : FnScope ["sides", "side", "whole", "ahead"] ["sides", "side"] (defScope s_add_side) := ⟨rfl, rfl, rfl, by decide +kernel, rfl, by decide +kernel, by decide +kernel⟩
abbrev s_border_of : Stmt := top 8
theorem S_border_of : FnScope ["p", "f", "marks", "sides", "last", "mark"] ["p", "f"] (defScope s_border_of) := ⟨rfl, rfl, rfl, by decide +kernel, rfl, by decide +kernel, by decide +kernel⟩
abbrev s_borders_joined : Stmt := top 9
theorem S_borders_joined : FnScope ["one", "other", "joined", "place", "side"] ["one", "other"] (defScope s_borders_joined) := ⟨rfl, rfl, rfl, by decide +kernel, rfl, by decide +kernel, by decide +kernel⟩
abbrev s__law_cell : Stmt := top 11
theorem S__law_cell : FnScope ["script", "k"] ["script", "k"] (defScope s__law_cell) := ⟨rfl, rfl, rfl, by decide +kernel, rfl, by decide +kernel, by decide +kernel⟩
abbrev s__law_prime : Stmt := top 12
theorem S__law_prime : FnScope ["cell", "some"] ["cell"] (defScope s__law_prime) := ⟨rfl, rfl, rfl, by decide +kernel, rfl, by decide +kernel, by decide +kernel⟩
abbrev s__law_whole : Stmt := top 13
theorem S__law_whole : FnScope ["thing"] ["thing"] (defScope s__law_whole) := ⟨rfl, rfl, rfl, by decide +kernel, rfl, by decide +kernel, by decide +kernel⟩
abbrev s__law_number : Stmt := top 14
theorem S__law_number : FnScope ["p", "cell", "number", "high", "k"] ["p", "cell"] (defScope s__law_number) := ⟨rfl, rfl, rfl, by decide +kernel, rfl, by decide +kernel, by decide +kernel⟩
abbrev s__law_poly : Stmt := top 15
theorem S__law_poly : FnScope ["p", "cells", "f"] ["p", "cells"] (defScope s__law_poly) := ⟨rfl, rfl, rfl, by decide +kernel, rfl, by decide +kernel, by decide +kernel⟩
abbrev s__law_times : Stmt := top 16
theorem S__law_times : FnScope ["f", "g", "found", "i", "j"] ["f", "g"] (defScope s__law_times) := ⟨rfl, rfl, rfl, by decide +kernel, rfl, by decide +kernel, by decide +kernel⟩
abbrev s__law_due : Stmt := top 17
theorem S__law_due : FnScope ["sides", "left", "found", "run", "rise", "side", "alike"] ["sides"] (defScope s__law_due) := ⟨rfl, rfl, rfl, by decide +kernel, rfl, by decide +kernel, by decide +kernel⟩
abbrev s_law : Stmt := top 18
theorem S_law : FnScope ["script", "start", "size", "p", "f", "g", "one", "other", "due"] ["script"] (defScope s_law) := ⟨rfl, rfl, rfl, by decide +kernel, rfl, by decide +kernel, by decide +kernel⟩
structure Bi (mg : Str → Option Value) (K : PySem.W.Frag) : Prop where
  b_bool : mg "bool" = none
  b_enumerate : mg "enumerate" = none
  b_int : mg "int" = none
  b_isinstance : mg "isinstance" = none
  b_len : mg "len" = none
  b_list : mg "list" = none
  b_max : mg "max" = none
  b_min : mg "min" = none
  b_range : mg "range" = none
  b_sum : mg "sum" = none
  c_NoDepth : mg "NoDepth" = some (.ref (clK K "NoDepth"))
  x_NoDepth : ExcK K (clK K "NoDepth")
variable {P : Program} {w : World} {K : PySem.W.Frag} {mg : Str → Option Value} {base : Heap} {f : Addr} {fd : FuncData}
theorem log_small {p : Int} (h : 2 ≤ p ∧ p < 1000) : CDivW 0 p := ⟨by omega, by
  have h1 : p.natAbs < 1000 := by omega
  have h2 : p.natAbs.log2 < 10 := (Nat.log2_lt (by omega)).mpr (Nat.lt_trans h1 (by decide))
  omega⟩
theorem atI_ints {ns : List Int} {i : Int} (h0 : 0 ≤ i) (h1 : i < (ns.length : Int)) : atI (ns.map V.int) i = some (.int (ns.getD i.toNat 0)) := by
  have hk : i.toNat < ns.length := by omega
  have ek : i = ((i.toNat : Nat) : Int) := by omega
  have g : atI (ns.map V.int) ((i.toNat : Nat) : Int) = some (.int (ns.getD i.toNat 0)) := atI_nat (by rw [List.getElem?_map, List.getElem?_eq_getElem hk, List.getD_eq_getElem?_getD, List.getElem?_eq_getElem hk]; rfl)
  rw [← ek] at g
  exact g
theorem getD_in {ns : List Int} {i : Int} (h0 : 0 ≤ i) (h1 : i < (ns.length : Int)) : ns.getD i.toNat 0 ∈ ns := by
  rw [List.getD_eq_getElem?_getD, List.getElem?_eq_getElem (by omega)]
  exact List.getElem_mem _
theorem mod_in (x : Int) {m : Int} (h : 0 < m) : 0 ≤ x % m ∧ x % m < m := ⟨Int.emod_nonneg x (by omega), Int.emod_lt_of_pos x h⟩
def Sh (n : Int) : Prop := Builtin.Int.intBits n ≤ 2 ^ 20 + 64
theorem sh_div {n m : Int} (h : Sh n) (hm : 0 < m) : Sh (n / m) := by
  unfold Sh at *
  have : n / m = n.fdiv m := (Int.fdiv_eq_ediv_of_nonneg n (by omega)).symm
  rw [this]
  exact PyProof.Rows.bits_fdiv h
theorem pow_bits {p : Int} (hp : 2 ≤ p ∧ p < 1000) (n : Nat) : (p ^ n).natAbs < 2 ^ (10 * n + 1) := by
  have h1 : p ^ n ≤ 1024 ^ n := int_pow_le (by omega) (by omega) _
  have h2 : (1024 : Int) ^ n = ((2 ^ (10 * n) : Nat) : Int) := by
    rw [Nat.pow_mul]
    simp
  have h3 := Dr.pow_pos hp.1 n
  rw [Nat.pow_succ]
  omega
theorem add_bits {p r : Int} (hp : 2 ≤ p ∧ p < 1000) (n : Nat) (h0 : 0 ≤ r) (h1 : r < p ^ n) : Builtin.Int.intBits (r + p ^ n) ≤ 10 * n + 2 := PyProof.Rows.intBits_le (by
  have := pow_bits hp n
  rw [show 10 * n + 2 = (10 * n + 1) + 1 from rfl, Nat.pow_succ]
  omega)
theorem eqv_ball (r e : Int) : (if false = true then !PyData.eqv (.tuple [.int r, .int e]) (.tuple [.int r, .int e]) else PyData.eqv (.tuple [.int r, .int e]) (.tuple [.int r, .int e])) = true := by
  simp [PyData.eqv, PyData.eqvAll]
theorem atI_last (x : Int) (ms : List Int) : ∃ y, y ∈ x :: ms ∧ atI ((x :: ms).map V.int) (-1) = some (.int y) := by
  have h : ms.length < (x :: ms).length := by simp
  refine ⟨(x :: ms)[ms.length], List.getElem_mem h, ?_⟩
  unfold atI ixN
  have e1 : ¬ (0 : Int) ≤ -1 := by decide
  have e2 : -(((x :: ms).map V.int).length : Int) ≤ -1 := by
    simp only [List.length_map, List.length_cons]
    omega
  have e3 : (-1 + (((x :: ms).map V.int).length : Int)).toNat = ms.length := by
    simp only [List.length_map, List.length_cons]
    omega
  rw [if_neg e1, if_pos e2, e3]
  show ((x :: ms).map V.int)[ms.length]? = _
  rw [List.getElem?_map, List.getElem?_eq_getElem h]
  rfl
theorem mulSm {a b : Int} {m n : Nat} (ha : Dr.Sm a m) (hb : Dr.Sm b n) (h : m + n ≤ 134217728) : IntMulOk a b := PyProof.Rows.mulOk_of_bits (PyProof.Rows.intBits_le ha) (PyProof.Rows.intBits_le hb) h
theorem smSh {a : Int} (h : Sh a) : Dr.Sm a (2 ^ 20 + 64) := PySem.intBits_le_iff.mp h
theorem sm_of {a : Int} {k : Nat} (B : Int) (h : -B ≤ a ∧ a ≤ B) (hB : B.natAbs < 2 ^ k) : Dr.Sm a k := by
  unfold Dr.Sm
  omega
theorem rep_zero (n : Nat) : (List.replicate n [V.int 0]).flatten = (List.replicate n (0 : Int)).map V.int := by
  induction n with
  | zero => rfl
  | succ n ih => simp [List.replicate_succ, ih]
theorem ixN_nn {n : Nat} {k : Int} (h0 : 0 ≤ k) (h1 : k < (n : Int)) : ixN n k = some k.toNat := by
  unfold ixN
  simp only [h0, if_true, if_pos]
  rw [if_pos (by omega)]
theorem get_int {fs : List Int} {k : Int} (h0 : 0 ≤ k) (h1 : k < (fs.length : Int)) : ∃ v, fs[k.toNat]? = some v ∧ atI (fs.map V.int) k = some (.int v) ∧ ixN (fs.map V.int).length k = some k.toNat ∧ (fs.map V.int)[k.toNat]? = some (.int v) := by
  have hk : k.toNat < fs.length := by omega
  have e : fs[k.toNat]? = some fs[k.toNat] := List.getElem?_eq_getElem hk
  refine ⟨fs[k.toNat], e, ?_, ixN_nn h0 (by rw [List.length_map]; exact h1), by rw [List.getElem?_map, e]; rfl⟩
  rw [atI_ints h0 h1, List.getD_eq_getElem?_getD, e]
  rfl
theorem set_int (fs : List Int) (k : Nat) (v : Int) : (fs.map V.int).set k (.int v) = (fs.set k v).map V.int := by rw [List.map_set]
theorem mem_set {fs : List Int} {k : Nat} {v c : Int} (h : c ∈ fs.set k v) : c ∈ fs ∨ c = v := List.mem_or_eq_of_mem_set h
theorem nabs {n : Int} (h : -(10 ^ 60) ≤ n ∧ n ≤ 10 ^ 60) : n.natAbs ≤ 10 ^ 60 := by
  have e : ((10 ^ 60 : Nat) : Int) = 10 ^ 60 := by decide +kernel
  rw [← e] at h
  generalize (10 ^ 60 : Nat) = T at *
  omega
theorem steps {i T : Nat} {v n : Int} (h : v.natAbs ≤ i * T) (h' : n.natAbs ≤ T) : (v + n).natAbs ≤ (i + 1) * T := by
  rw [Nat.succ_mul]
  omega
theorem atI_back {xs : List Int} {d : Int} (h : xs.getLast? = some d) : atI (xs.map V.int) (-1) = some (.int d) := by
  cases xs with
  | nil => simp at h
  | cons x ms =>
    have hh : ms.length < (x :: ms).length := by simp
    have e : (x :: ms)[ms.length]? = some d := by
      rw [List.getLast?_eq_getElem?] at h
      simpa using h
    unfold atI ixN
    have e1 : ¬ (0 : Int) ≤ -1 := by decide
    have e2 : -(((x :: ms).map V.int).length : Int) ≤ -1 := by
      simp only [List.length_map, List.length_cons]
      omega
    have e3 : (-1 + (((x :: ms).map V.int).length : Int)).toNat = ms.length := by
      simp only [List.length_map, List.length_cons]
      omega
    rw [if_neg e1, if_pos e2, e3]
    show ((x :: ms).map V.int)[ms.length]? = _
    rw [List.getElem?_map, e]
    rfl
theorem last_snoc (x : Int) (ms : List Int) (v : Int) : (x :: (ms ++ [v])).getLast? = some v := by
  rw [← List.cons_append, List.getLast?_append]
  simp
def sp_depth_of (_ : PySem.W.Frag) : Sp := fun vs H Q _ => ∃ (p x : Int), vs = [.int p, .int x] ∧ (2 ≤ p ∧ p < 1000) ∧ x ≠ 0 ∧ ∀ (d : Nat) (u : Int), Dr.Fac p x d u → Q (.int (d : Int)) H
def W_depth_of (p x : Int) (H : Hp) (m : Nat) (σ : St) (H' : Hp) : Prop := H' = H ∧ ∃ (l : Int) (d : Nat), σ = [some (.int p), some (.int x), some (.int (d : Int)), some (.int l)] ∧ x = l * p ^ d ∧ l ≠ 0 ∧ m = l.natAbs
theorem turn_depth {p x l : Int} {d : Nat} (hp : 2 ≤ p) (e : x = l * p ^ d) (l0 : l ≠ 0) (c : l % p = 0) : x = l / p * p ^ (d + 1) ∧ l / p ≠ 0 ∧ (l / p).natAbs < l.natAbs := by
  have e1 : l = p * (l / p) := by have := Int.mul_ediv_add_emod l p; omega
  have n0 : l / p ≠ 0 := fun z => by rw [z] at e1; simp at e1; exact l0 e1
  refine ⟨?_, n0, ?_⟩
  · rw [Int.pow_succ, e]
    calc l * p ^ d = p * (l / p) * p ^ d := by rw [← e1]
      _ = l / p * (p ^ d * p) := by rw [Int.mul_comm p, Int.mul_assoc, Int.mul_comm p]
  · have e2 : l.natAbs = p.natAbs * (l / p).natAbs := by rw [← Int.natAbs_mul, ← e1]
    have l1 : 2 * (l / p).natAbs ≤ p.natAbs * (l / p).natAbs := Nat.mul_le_mul_right _ (by omega)
    omega
theorem ok_depth_of (B : Bi mg K) (F : Fun K "depth_of" "depth_of" s_depth_of f fd) : FnOk P w K mg base CX0 1 f fd ["p", "x"] (sp_depth_of K) := by
  refine F.ok S_depth_of (fun vs H Q E h => ?_) (fun cdv A outer s H vs Q E hr h => ?_)
  · obtain ⟨p, x, rfl, _⟩ := h
    rfl
  obtain ⟨p, x, rfl, hp, hx, q⟩ := h
  have S := S_depth_of
  refine ⟨_, ((pss_cons (ps_if (pt_cmpR op_eq (pv 1) pe_int (nomark _)) (pss_one ps_never) pss_nil)
    (pss_cons (ps_set (i := 2) S.nd rfl (Or.inl rfl) pe_int)
    (pss_cons (ps_set (i := 3) S.nd rfl (Or.inl rfl) (pv 1))
    (pss_cons (ps_while PassesOwn.never (pt_cmpR op_eq (pe_op op_mod (pv 3) (pv 0)) pe_int (nomark _)) (pss_cons (ps_set (i := 3) S.nd rfl (Or.inl rfl) (pe_op op_fdivW (pv 3) (pv 0)))
    (pss_one (ps_aug (i := 2) S.nd rfl (Or.inl rfl) pe_int ip_add))))
    (pss_one (ps_ret (pv 2)))))))), ?_⟩
  refine ⟨_, rfl, rfl, _, rfl, ?_⟩
  refine ite2 (fun c => absurd (V.int.inj (of_decide_eq_true c)) hx) (fun _ => ?_)
  refine ⟨_, rfl, ?_⟩
  refine ⟨W_depth_of p x H, ⟨_, rfl, x, 0, rfl, by simp, hx, rfl⟩, ?_⟩
  rintro m σ H' ⟨rfl, l, d, rfl, e, l0, rfl⟩
  refine ⟨_, rfl, _, rfl, _, _, rfl, rfl, (show (0 : Int) < p by omega), rfl, _, rfl, ?_⟩
  refine ite2 (fun c => ?_) (fun c => ?_)
  · have c' : l % p = 0 := V.int.inj (of_decide_eq_true c)
    obtain ⟨t1, t2, t3⟩ := turn_depth hp.1 e l0 c'
    refine ⟨fun σ' H2 => ∃ m', m' < l.natAbs ∧ W_depth_of p x H' m' σ' H2, fun _ _ h => h, ?_⟩
    refine ⟨_, rfl, _, rfl, _, _, rfl, rfl, log_small hp, ?_⟩
    exact ⟨_, rfl, _, _, rfl, rfl, _, t3, rfl, l / p, d + 1, rfl, t1, t2, rfl⟩
  · have c' : l % p ≠ 0 := fun z => c (decide_eq_true (congrArg V.int z))
    exact ⟨_, rfl, q d l ⟨e, c'⟩⟩
def sp_rises_more (_ : PySem.W.Frag) : Sp := fun vs H Q _ => ∃ (x y : Addr) (s t : Int × Int) (m : Nat), vs = [.ref x, .ref y] ∧ H x = some (.tup [.int s.1, .int s.2]) ∧ H y = some (.tup [.int t.1, .int t.2]) ∧ (Dr.Sm s.1 m ∧ Dr.Sm s.2 m ∧ Dr.Sm t.1 m ∧ Dr.Sm t.2 m ∧ m ≤ 10000) ∧ Q (.bl (decide (Dr.Stp t s))) H
local macro_rules | `(tactic| walk_at "dr1") => `(tactic| simp only [tSeq, tNext, tRet, tRetN, tDrop, tIfS, tIf, tTest, tB, tAnd, tOr, tNot, tAndV, tOrV, tNotV, tAsg, gName, gTup, gLst, gCons, gNil, tPar, tAug, tVar, tC, tOp, tUn, rI, rI0, rU, rEq, rNe, rAdd, rSub, ipI, tCons, tNil, tTup, tLst, tCall, tCB, tSl, tNoPart, tPart, gSub, tAugS, rGetL, iEnum, tSlK, tListRng, rExtend, rClear, rSlL, rSlT, rIxL, rIxT, rSetL, rIn, tBM, tBM0, rAppend, rCat, rRep, tNever, tRaise, tTry, tTryAs, Ends.gone, tCallX, cx_K, cc_K, w_tyl, Int.reduceLT, Int.reduceLE, Nat.reduceLT, Nat.reduceLeDiff, tChain, w_for, w_comp, w_comp2, capV, Option.getD_some, iRng1, iRng2, iRng3, iList, iTup, iRev, tListRev, L2.start, sc_ii, sc_bb, sc_in, sc_ni, sc_ss, sc_nn, sc_bn, sc_is, isv_int_int, isv_int_bool, isv_int_str, isv_int_list, isv_int_tuple, isv_int_dict, isv_bool_int, isv_bool_bool, isv_bool_str, isv_bool_list, isv_bool_tuple, isv_bool_dict, isv_NoneType_int, isv_NoneType_bool, isv_NoneType_str, isv_NoneType_list, isv_NoneType_tuple, isv_NoneType_dict, isv_str_int, isv_str_bool, isv_str_str, isv_str_list, isv_str_tuple, isv_str_dict, iso_list_int, iso_list_bool, iso_list_str, iso_list_list, iso_list_tuple, iso_list_dict, iso_tuple_int, iso_tuple_bool, iso_tuple_str, iso_tuple_list, iso_tuple_tuple, iso_tuple_dict, iso_dict_int, iso_dict_bool, iso_dict_str, iso_dict_list, iso_dict_tuple, iso_dict_dict, isCls, clsV, List.getElem?_cons_zero, List.getElem?_cons_succ, List.set_cons_zero, List.set_cons_succ, List.map_cons, List.map_nil, List.cons_append, List.nil_append, List.append_nil, List.replicate_succ, List.replicate_zero, List.length_cons, List.length_nil, Option.some.injEq, exists_eq, exists_eq', exists_eq_left, exists_eq_left', exists_and_left, exists_and_right, List.cons.injEq, V.int.injEq, V.bl.injEq, V.ref.injEq, V.str.injEq, V.ty.injEq, reduceCtorEq, and_true, true_and, and_assoc, false_and, and_false, or_false, false_or, exists_false, decide_eq_true_eq, Bool.not_eq_true', decide_eq_false_iff_not, Bool.not_eq_false', Bool.not_eq_true, Bool.false_eq_true, Bool.true_eq_false, ite_true, ite_false, if_true, if_false, Bool.not_true, Bool.not_false, Bool.true_eq, Bool.or_true, Bool.or_false, Bool.true_or, Bool.false_or, Bool.and_true, Bool.and_false, beq_self_eq_true, decide_true, decide_false, eq_self_iff_true, not_true_eq_false, not_false_eq_true])
theorem ok_rises_more (B : Bi mg K) (F : Fun K "rises_more" "rises_more" s_rises_more f fd) : FnOk P w K mg base CX0 1 f fd ["side", "ahead"] (sp_rises_more K) := by
  refine F.ok S_rises_more (fun vs H Q E h => ?_) (fun cdv A outer s H vs Q E hr h => ?_)
  · obtain ⟨x, y, s, t, m, rfl, _⟩ := h
    rfl
  obtain ⟨x, y, sd, t, m, rfl, hx, hy, ⟨h1, h2, h3, h4, h5⟩, q⟩ := h
  have S := S_rises_more
  refine ⟨_, ((pss_one (ps_ret (pe_cmpR op_gt (pe_op op_mulW (pe_ix ix_tup (pv 0) pe_int (fun _ _ => rfl)) (pe_ix ix_tup (pv 1) pe_int (fun _ _ => rfl))) (pe_op op_mulW (pe_ix ix_tup (pv 1) pe_int (fun _ _ => rfl)) (pe_ix ix_tup (pv 0) pe_int (fun _ _ => rfl))) (nomark _))))), ?_⟩
  try walk_at "dr1"
  exact ⟨_, SqT.of hx, _, rfl, _, SqT.of hy, _, rfl, _, rfl, _, rfl, mulSm h2 h3 (by omega), _, SqT.of hy, _, rfl, _, SqT.of hx, _, rfl, _, rfl, _, rfl, mulSm h4 h1 (by omega), q⟩
def sp_add_side (_ : PySem.W.Frag) : Sp := fun vs H Q _ => ∃ (c b : Addr) (as : List Addr) (J : List (Int × Int)) (w : Int × Int), vs = [.ref c, .ref b] ∧ H c = some (.lst (as.map V.ref)) ∧ PairsI H as J ∧ H b = some (.tup [.int w.1, .int w.2]) ∧ J.length ≤ 100 ∧ Dr.tot J + Dr.tot [w] < 2 ^ 2000 ∧
  ∀ (as' : List Addr) (H' : Hp), (∀ x u, x ≠ c → H x = some u → H' x = some u) → H' c = some (.lst (as'.map V.ref)) → PairsI H' as' (Dr.addR J.reverse w).reverse → Q .non H'
local macro_rules | `(tactic| walk_at "dr2") => `(tactic| simp only [tNext, tRet, tRetN, tDrop, tIfS, tIf, tTest, tB, tAnd, tOr, tNot, tAndV, tOrV, tNotV, tAsg, gName, gTup, gLst, gCons, gNil, tPar, tAug, tVar, tC, tOp, tUn, rI, rI0, rU, rEq, rNe, rAdd, rSub, ipI, tCons, tNil, tTup, tLst, tCall, tCB, tSl, tNoPart, tPart, gSub, tAugS, rGetL, iEnum, tSlK, tListRng, rExtend, rClear, rSlL, rSlT, rIxL, rIxT, rSetL, rIn, tBM, tBM0, rAppend, rCat, rRep, tNever, tRaise, tTry, tTryAs, Ends.gone, tCallX, cx_K, cc_K, w_tyl, Int.reduceLT, Int.reduceLE, Nat.reduceLT, Nat.reduceLeDiff, tChain, w_for, w_comp, w_comp2, capV, Option.getD_some, iRng1, iRng2, iRng3, iList, iTup, iRev, tListRev, L2.start, sc_ii, sc_bb, sc_in, sc_ni, sc_ss, sc_nn, sc_bn, sc_is, isv_int_int, isv_int_bool, isv_int_str, isv_int_list, isv_int_tuple, isv_int_dict, isv_bool_int, isv_bool_bool, isv_bool_str, isv_bool_list, isv_bool_tuple, isv_bool_dict, isv_NoneType_int, isv_NoneType_bool, isv_NoneType_str, isv_NoneType_list, isv_NoneType_tuple, isv_NoneType_dict, isv_str_int, isv_str_bool, isv_str_str, isv_str_list, isv_str_tuple, isv_str_dict, iso_list_int, iso_list_bool, iso_list_str, iso_list_list, iso_list_tuple, iso_list_dict, iso_tuple_int, iso_tuple_bool, iso_tuple_str, iso_tuple_list, iso_tuple_tuple, iso_tuple_dict, iso_dict_int, iso_dict_bool, iso_dict_str, iso_dict_list, iso_dict_tuple, iso_dict_dict, isCls, clsV, List.getElem?_cons_zero, List.getElem?_cons_succ, List.set_cons_zero, List.set_cons_succ, List.map_cons, List.map_nil, List.cons_append, List.nil_append, List.append_nil, List.replicate_succ, List.replicate_zero, List.length_cons, List.length_nil, Option.some.injEq, exists_eq, exists_eq', exists_eq_left, exists_eq_left', exists_and_left, exists_and_right, List.cons.injEq, V.int.injEq, V.bl.injEq, V.ref.injEq, V.str.injEq, V.ty.injEq, reduceCtorEq, and_true, true_and, and_assoc, false_and, and_false, or_false, false_or, exists_false, decide_eq_true_eq, Bool.not_eq_true', decide_eq_false_iff_not, Bool.not_eq_false', Bool.not_eq_true, Bool.false_eq_true, Bool.true_eq_false, ite_true, ite_false, if_true, if_false, Bool.not_true, Bool.not_false, Bool.true_eq, Bool.or_true, Bool.or_false, Bool.true_or, Bool.false_or, Bool.and_true, Bool.and_false, beq_self_eq_true, decide_true, decide_false, eq_self_iff_true, not_true_eq_false, not_false_eq_true])
theorem ok_add_side (B : Bi mg K) (d_rises_more : Def P w K mg base "rises_more" 1 ["side", "ahead"] (sp_rises_more K)) (F : Fun K "add_side" "add_side" s_add_side f fd) : FnOk P w K mg base CX0 2 f fd ["sides", "side"] (sp_add_side K) := by
  refine F.ok S_add_side (fun vs H Q E h => ?_) (fun cdv A outer s H vs Q E hr h => ?_)
  · obtain ⟨c, b, as, J, w, rfl, _⟩ := h
    rfl
  obtain ⟨c, b, as, J, wv, rfl, hc, hP, hb, hl, ht, q⟩ := h
  have S := S_add_side
  refine ⟨_, ((pss_cons (ps_set (i := 2) S.nd rfl (Or.inl rfl) (pv 1))
    (pss_cons (ps_while PassesOwn.never (PW.pt (pw_and (pt_cmpR op_gt (pe_callB call_len_seq rfl B.b_len PySem.boot_len (pa_cons (pv 0) pa_nil)) pe_int (nomark _)) (pw_and1 (pt_not (pt_val (pe_def d_rises_more hr rfl (pa_cons (pv 2) (pa_cons (pe_ix ix_list (pv 0) (pe_un un_neg pe_int) (fun _ _ => rfl)) pa_nil)))))))) (pss_cons (ps_set (i := 3) S.nd rfl (Or.inl rfl) (pe_bm0 PySem.F.plainAttrs_list PySem.F.slot_list_pop PySem.F.type_list_pop mt_pop (pv 0)))
    (pss_one (ps_set (i := 2) S.nd rfl (Or.inl rfl) (pe_tup (pa_cons (pe_op op_add (pe_ix ix_tup (pv 3) pe_int (fun _ _ => rfl)) (pe_ix ix_tup (pv 2) pe_int (fun _ _ => rfl))) (pa_cons (pe_op op_add (pe_ix ix_tup (pv 3) pe_int (fun _ _ => rfl)) (pe_ix ix_tup (pv 2) pe_int (fun _ _ => rfl))) pa_nil)))))))
    (pss_one (ps_expr (pe_bm PySem.F.plainAttrs_list PySem.F.slot_list_append PySem.F.type_list_append mt_append (pv 0) (pa_cons (pv 2) pa_nil))))))), ?_⟩
  (try dsimp only); (first | refine seqI ?_ | skip); try walk_at "dr2"; (try simp only [sp_rises_more]); try walk_at "dr2"
  refine seqI ?_
  obtain ⟨W, hW⟩ : ∃ W : Nat → St → Hp → Prop, ∀ m σ H2, W m σ H2 ↔ (∃ (k : Nat) (u : Int × Int) (bu : Addr) (t3 : Option V), m = k ∧ k ≤ J.length ∧ (∀ x o, x ≠ c → H x = some o → H2 x = some o) ∧ H2 c = some (.lst ((as.take k).map V.ref)) ∧ H2 bu = some (.tup [.int u.1, .int u.2]) ∧ Dr.addR J.reverse wv = Dr.addR (J.take k).reverse u ∧ Dr.tot (J.take k) + Dr.tot [u] ≤ Dr.tot J + Dr.tot [wv] ∧ σ = [some (V.ref c), some (V.ref b), some (V.ref bu), t3]) := ⟨_, fun _ _ _ => Iff.rfl⟩
  have hal := hP.1
  refine whB W J.length ((hW _ _ _).mpr ⟨J.length, wv, b, none, rfl, Nat.le_refl _, fun x o _ h => h, by rw [← hal, List.take_length]; exact hc, hb, by rw [List.take_length], by rw [List.take_length]; exact Nat.le_refl _, rfl⟩) ?_
  intro m σ H2 z
  obtain ⟨k, u, bu, t3, rfl, hk, k2, kc, ku, hadd, htot, rfl⟩ := (hW _ _ _).mp z
  have hP2 : PairsI H2 as J := ⟨hP.1, fun i x p e1 e2 => by
    have h := hP.2 i x p e1 e2
    exact k2 _ _ (fun z => by rw [z, hc] at h; cases h) h⟩
  have out : (Dr.addR (J.take m).reverse u).reverse = J.take m ++ [u] → (SqL K H2 c ((as.take m).map V.ref)) → ∀ H3, H3 = upd H2 c (.lst ((as.take m).map V.ref ++ [.ref bu])) → Q .non H3 := fun hr _ H3 e3 => by
    subst e3
    refine q (as.take m ++ [bu]) _ (fun x o hx h => by rw [upd_ne hx]; exact k2 x o hx h) (by rw [upd_same, List.map_append]; rfl) ?_
    rw [hadd, hr]
    have hT : PairsI H2 (as.take m) (J.take m) := ⟨by rw [List.length_take, List.length_take, hal], fun i x p e1 e2 => by
      rw [List.getElem?_take] at e1 e2
      split at e1
      · rename_i hi
        rw [if_pos hi] at e2
        exact hP2.2 i x p e1 e2
      · cases e1⟩
    have hA := hT.app (PairsI.one (b := u) ku)
    exact ⟨hA.1, fun i x p e1 e2 => by
      have h := hA.2 i x p e1 e2
      rw [upd_ne fun z => by rw [z, kc] at h; cases h]
      exact h⟩
  try walk_at "dr1"; (try simp only [sp_rises_more, rPop]); try walk_at "dr1"
  have lt : ((as.take m).map V.ref).length = m := by rw [List.length_map, List.length_take]; omega
  refine ⟨_, .inl (SqL.of kc), ite2 (fun c0 => ?_) (fun c0 => ?_)⟩
  · rw [lt] at c0
    obtain ⟨k', rfl⟩ : ∃ k', m = k' + 1 := ⟨m - 1, by omega⟩
    obtain ⟨jl, hjl⟩ : ∃ jl, J[k']? = some jl := ⟨_, List.getElem?_eq_getElem (by omega)⟩
    obtain ⟨la, hla, hkl⟩ := hP2.at hjl
    have eas : as.take (k' + 1) = as.take k' ++ [la] := by rw [List.take_add_one, hla]; rfl
    have eJ : J.take (k' + 1) = J.take k' ++ [jl] := by rw [List.take_add_one, hjl]; rfl
    have nla : la ≠ c := fun z => by rw [z, kc] at hkl; cases hkl
    have nbu : bu ≠ c := fun z => by rw [z, kc] at ku; cases ku
    have bt : Dr.tot (J.take (k' + 1)) + Dr.tot [u] < 2 ^ 2000 := Nat.lt_of_le_of_lt htot ht
    have bu2 := Dr.tot_sm (L := [u]) (m := 2000) (List.mem_singleton.mpr rfl) (by omega)
    have bj := Dr.tot_sm (L := J.take (k' + 1)) (x := jl) (m := 2000) (by rw [eJ]; simp) (by omega)
    have last : ((as.take (k' + 1)).map V.ref)[((as.take (k' + 1)).map V.ref).length - 1]? = some (.ref la) := by
      rw [lt, eas, List.map_append, Nat.add_sub_cancel, List.getElem?_append_right (by rw [List.length_map, List.length_take]; omega), List.length_map, List.length_take, show k' - min k' as.length = 0 by omega]
      rfl
    have at1 : atI ((as.take (k' + 1)).map V.ref) (-1) = some (.ref la) := by
      unfold atI ixN
      rw [if_neg (by decide), if_pos (by rw [lt]; omega)]
      rw [show (-1 + (((as.take (k' + 1)).map V.ref).length : Int)).toNat = ((as.take (k' + 1)).map V.ref).length - 1 by omega]
      exact last
    refine ⟨_, SqL.of kc, _, at1, la, rfl, u, ku, jl, hkl, 2000, bu2.1, bu2.2, bj.1, bj.2, by decide, ite2 (fun cn => ?_) (fun cn => ?_)⟩
    · refine ⟨_, fun _ _ h => h, ⟨_, SqL.of kc⟩, _, kc, .ref la, last, la, rfl, ?_⟩
      generalize e3 : upd H2 c _ = H3
      have kc3 : H3 c = some (.lst ((as.take k').map V.ref)) := by rw [← e3, upd_same, eas, List.map_append]; simp
      have kp3 : ∀ x o, x ≠ c → H2 x = some o → H3 x = some o := fun x o hx h => by rw [← e3, upd_ne hx]; exact h
      clear e3
      have kl3 := kp3 _ _ nla hkl
      have ku3 := kp3 _ _ nbu ku
      refine ⟨_, SqT.of kl3, _, rfl, _, SqT.of ku3, _, rfl, _, rfl, _, rfl, _, rfl, _, SqT.of kl3, _, rfl, _, SqT.of ku3, _, rfl, _, rfl, _, rfl, by decide, ?_⟩
      intro l4 n_l4; generalize e_l4 : upd _ l4 _ = H4; obtain ⟨g4, k4⟩ := newH e_l4 n_l4; clear e_l4
      refine ⟨k', by omega, (hW _ _ _).mpr ⟨k', Dr.pls jl u, l4, some (.ref la), rfl, by omega, fun x o hx h => g4 _ _ (kp3 _ _ hx (k2 x o hx h)), g4 _ _ kc3, k4, ?_, ?_, rfl⟩⟩
      · rw [hadd, eJ, List.reverse_append]
        show Dr.addR (jl :: (J.take k').reverse) u = _
        rw [Dr.addR, if_neg cn]
      · rw [eJ, Dr.tot_append] at htot
        simp only [Dr.tot, Dr.pls] at htot ⊢
        omega
    · refine ⟨⟨_, SqL.of kc⟩, _, kc, by rw [lt]; unfold sizeLine; omega, out ?_ (SqL.of kc) _ rfl⟩
      have cn : Dr.Stp jl u := Decidable.byContradiction cn
      rw [eJ, List.reverse_append]
      show (Dr.addR (jl :: (J.take k').reverse) u).reverse = _
      rw [Dr.addR, if_pos cn]
      simp
  · rw [lt] at c0
    obtain rfl : m = 0 := by omega
    refine ⟨⟨_, SqL.of kc⟩, _, kc, by rw [lt]; unfold sizeLine; omega, out ?_ (SqL.of kc) _ rfl⟩
    simp [Dr.addR]
structure Marks (p : Int) (f : List Int) (ms : List (Int × Int)) : Prop where
  mem : ∀ m : Int × Int, m ∈ ms ↔ ∃ (i : Nat) (x : Int) (d : Nat) (u : Int), f[i]? = some x ∧ Dr.Fac p x d u ∧ m = ((i : Int), (d : Int))
  inc : ms.Pairwise fun a b => a.1 < b.1
  len : ms.length ≤ f.length
theorem Marks.nil (p : Int) : Marks p [] [] := ⟨fun m => ⟨fun h => (nomatch h), fun ⟨i, x, d, u, e, _⟩ => by simp at e⟩, .nil, Nat.le_refl _⟩
theorem getE_snoc {f : List Int} {x y : Int} {i : Nat} : (f ++ [x])[i]? = some y ↔ f[i]? = some y ∨ (i = f.length ∧ y = x) := by
  rw [List.getElem?_append]
  split
  · rename_i h
    refine ⟨.inl, fun z => z.elim id fun w => ?_⟩
    omega
  · rename_i h
    rw [List.getElem?_eq_none (l := f) (by omega)]
    by_cases e : i = f.length
    · subst e; simp [eq_comm]
    · rw [List.getElem?_eq_none (by simp; omega)]
      simp [e]
theorem Marks.nought {p : Int} {f : List Int} {ms : List (Int × Int)} (hp : 2 ≤ p) (h : Marks p f ms) : Marks p (f ++ [0]) ms := by
  refine ⟨fun m => (h.mem m).trans ⟨fun ⟨i, x, d, u, e, fc, em⟩ => ⟨i, x, d, u, getE_snoc.mpr (.inl e), fc, em⟩, fun ⟨i, x, d, u, e, fc, em⟩ => ?_⟩, h.inc, by rw [List.length_append]; have := h.len; omega⟩
  rcases getE_snoc.mp e with w | ⟨_, w⟩
  · exact ⟨i, x, d, u, w, fc, em⟩
  · exact absurd w (fc.ne hp)
theorem Marks.place {p : Int} {f : List Int} {ms : List (Int × Int)} (h : Marks p f ms) {m : Int × Int} (hm : m ∈ ms) : 0 ≤ m.1 ∧ m.1 < f.length := by
  obtain ⟨i, x, d, u, e, _, rfl⟩ := (h.mem m).mp hm
  have := (List.getElem?_eq_some_iff.mp e).1
  exact ⟨by simp, by simp; omega⟩
theorem Marks.snoc {p x u : Int} {d : Nat} {f : List Int} {ms : List (Int × Int)} (hp : 2 ≤ p) (h : Marks p f ms) (fc : Dr.Fac p x d u) : Marks p (f ++ [x]) (ms ++ [((f.length : Int), (d : Int))]) := by
  refine ⟨fun m => ⟨fun hm => ?_, fun ⟨i, y, e, v, hy, fy, em⟩ => ?_⟩, ?_, by rw [List.length_append, List.length_append]; have := h.len; simp only [List.length_cons, List.length_nil]; omega⟩
  · rcases List.mem_append.mp hm with w | w
    · obtain ⟨i, y, e, v, hy, fy, em⟩ := (h.mem m).mp w
      exact ⟨i, y, e, v, getE_snoc.mpr (.inl hy), fy, em⟩
    · exact ⟨f.length, x, d, u, getE_snoc.mpr (.inr ⟨rfl, rfl⟩), fc, List.mem_singleton.mp w⟩
  · rcases getE_snoc.mp hy with w | ⟨w1, w2⟩
    · exact List.mem_append.mpr (.inl ((h.mem m).mpr ⟨i, y, e, v, w, fy, em⟩))
    · subst w1 w2
      rw [em, (fy.uniq hp fc).1]
      simp
  · refine List.pairwise_append.mpr ⟨h.inc, List.pairwise_singleton .., fun a ha b hb => ?_⟩
    rw [List.mem_singleton.mp hb]
    exact (h.place ha).2
theorem hull_next {ms : List (Int × Int)} {A E M : Int × Int} {L : List (Int × Int)} (hinc : ∀ m, m ∈ ms → m.1 ≤ E.1 ∧ (m.1 = E.1 → m = E)) (hEM : E.1 < M.1) (h : Dr.HullR ms A E L) : Dr.HullR (ms ++ [M]) A M (Dr.addR L (Dr.mns M E)) := by
  have w0 : 0 < (Dr.mns M E).1 := by unfold Dr.mns; simp only; omega
  refine h.add (fun m hm => by have := (hinc m hm).1; omega) (by unfold Dr.pls Dr.mns; ext <;> simp <;> omega) w0 fun m hm a b => ?_
  rcases List.mem_append.mp hm with w | w
  · have h1 := hinc m w
    have e := h1.2 (by omega)
    subst e
    simp
  · rw [List.mem_singleton.mp w]
    unfold Dr.mns
    exact Int.le_refl _
theorem inc_take {ms : List (Int × Int)} (h : ms.Pairwise fun a b => a.1 < b.1) {i : Nat} {l : Int × Int} (hl : ms[i]? = some l) : ∀ m, m ∈ ms.take (i + 1) → m.1 ≤ l.1 ∧ (m.1 = l.1 → m = l) := fun m hm => by
  have e : ms.take (i + 1) = ms.take i ++ [l] := by rw [List.take_add_one, hl]; rfl
  have hp : (ms.take (i + 1)).Pairwise fun a b => a.1 < b.1 := h.sublist (List.take_sublist ..)
  rw [e] at hm hp
  rcases List.mem_append.mp hm with w | w
  · have := (List.pairwise_append.mp hp).2.2 m w l (by simp)
    exact ⟨by omega, fun z => by omega⟩
  · rw [List.mem_singleton.mp w]
    exact ⟨Int.le_refl _, fun _ => rfl⟩
theorem inc_next {ms : List (Int × Int)} (h : ms.Pairwise fun a b => a.1 < b.1) {i : Nat} {l m : Int × Int} (hl : ms[i]? = some l) (hm : ms[i + 1]? = some m) : l.1 < m.1 := by
  obtain ⟨h1, e1⟩ := List.getElem?_eq_some_iff.mp hl
  obtain ⟨h2, e2⟩ := List.getElem?_eq_some_iff.mp hm
  have := List.pairwise_iff_getElem.mp h i (i + 1) h1 h2 (by omega)
  rw [e1, e2] at this
  exact this
theorem Marks.high {p : Int} {f : List Int} {ms : List (Int × Int)} (hp : 2 ≤ p) (hsm : ∀ x, x ∈ f → Dr.Sm x 10000) (h : Marks p f ms) {m : Int × Int} (hm : m ∈ ms) : 0 ≤ m.2 ∧ m.2 < 10000 := by
  obtain ⟨i, x, d, u, e, fc, rfl⟩ := (h.mem m).mp hm
  have := fc.depth_lt hp (hsm x (List.mem_of_getElem? e))
  exact ⟨by simp, by simp; omega⟩
def sp_border_of (K : PySem.W.Frag) : Sp := fun vs H Q E => ∃ (p : Int) (a : Addr) (f : List Int), vs = [.int p, .ref a] ∧ SqL K H a (f.map V.int) ∧ (2 ≤ p ∧ p < 1000) ∧ f.length ≤ 90 ∧ (∀ x, x ∈ f → Dr.Sm x 10000) ∧
  ((∀ x, x ∈ f → x = 0) → ∀ H', Same H H' → E (.ref (clK K "NoDepth")) none H') ∧
  ∀ (c : Addr) (as : List Addr) (J ms : List (Int × Int)) (A M : Int × Int) (H' : Hp), H c = none → Same H H' → H' c = some (.lst (as.map V.ref)) → PairsI H' as J → Dr.Border J → J.length ≤ 90 → Marks p f ms → Dr.HullR ms A M J.reverse → ms.head? = some A → ms.getLast? = some M → Q (.ref c) H'
theorem ok_border_of (B : Bi mg K) (d_depth_of : Def P w K mg base "depth_of" 1 ["p", "x"] (sp_depth_of K)) (d_add_side : Def P w K mg base "add_side" 2 ["sides", "side"] (sp_add_side K)) (F : Fun K "border_of" "border_of" s_border_of f fd) : FnOk P w K mg base (CXE P w) 3 f fd ["p", "f"] (sp_border_of K) := by
  refine F.okE S_border_of (fun vs H Q E h => ?_) (fun cdv A outer s H vs Q E hr h => ?_)
  · obtain ⟨p, a, f, rfl, _⟩ := h
    rfl
  obtain ⟨p, a, f, rfl, hS, hp, hl, hsm, qx, q⟩ := h
  have S := S_border_of
  refine ⟨_, ((pss_cons (ps_comp2 [0] ["p"] rfl S.nd (k := 2) rfl rfl rfl rfl ⟨rfl, trivial⟩ ⟨rfl, rfl, rfl, rfl, trivial⟩ rfl rfl (by decide) (by decide) rfl rfl rfl (by decide) (pi_enum rfl B.b_enumerate (pv 1)) (fun _ _ _ _ => (pts_one (pt_cmpR op_ne (pv 1) pe_int (nomark _)))) (fun _ _ _ _ => (pe_tup (pa_cons (pv 0) (pa_cons (pe_def d_depth_of hr rfl (pa_cons (pv 2) (pa_cons (pv 1) pa_nil))) pa_nil)))))
    (pss_cons (ps_if (pt_cmpR op_eq (pe_callB call_len_seq rfl B.b_len PySem.boot_len (pa_cons (pv 2) pa_nil)) pe_int (nomark _)) (pss_one (ps_raise thrE rfl rfl B.c_NoDepth B.x_NoDepth (pa_cons pe_str pa_nil))) pss_nil)
    (pss_cons (ps_set (i := 3) S.nd rfl (Or.inl rfl) (pe_lst pa_nil))
    (pss_cons (ps_set (i := 4) S.nd rfl (Or.inl rfl) (pe_ix ix_list (pv 2) pe_int (fun _ _ => rfl)))
    (pss_cons (ps_nox (ps_for PassesOwn.never rfl (pi_list (pe_slice sl_list (pv 2) (po_some pe_int) po_none)) (pg_name (i := 5) S.nd rfl (Or.inl rfl)) (pss_cons (ps_expr (pe_def d_add_side hr rfl (pa_cons (pv 3) (pa_cons (pe_tup (pa_cons (pe_op op_sub (pe_ix ix_tup (pv 5) pe_int (fun _ _ => rfl)) (pe_ix ix_tup (pv 4) pe_int (fun _ _ => rfl))) (pa_cons (pe_op op_sub (pe_ix ix_tup (pv 5) pe_int (fun _ _ => rfl)) (pe_ix ix_tup (pv 4) pe_int (fun _ _ => rfl))) pa_nil))) pa_nil))))
    (pss_one (ps_set (i := 4) S.nd rfl (Or.inl rfl) (pv 5))))))
    (pss_one (ps_ret (pv 3))))))))), ?_⟩
  (try dsimp only); (first | refine seqI ?_ | skip); try walk_at "dr2"; (try simp only [sp_depth_of, sp_add_side]); try walk_at "dr2"
  refine ⟨⟨_, hS⟩, ?_⟩
  obtain ⟨Pc, hPc⟩ : ∃ Pc : Nat → List V → Hp → Prop, ∀ i ys H1, Pc i ys H1 ↔ (Same H H1 ∧ ∃ (as : List Addr) (ms : List (Int × Int)), ys = as.map V.ref ∧ PairsI H1 as ms ∧ Marks p (f.take i) ms) := ⟨_, fun _ _ _ => Iff.rfl⟩
  refine comp2E f Pc (by unfold sizeLine; omega) ((hPc _ _ _).mpr ⟨fun _ _ h => h, [], [], rfl, PairsI.nil _, Marks.nil p⟩) (fun i ys H1 z => by obtain ⟨g, _⟩ := (hPc _ _ _).mp z; exact g.seq hS) ?_ ?_
  · intro i x ys H1 H2 hx z g12
    obtain ⟨g1, as, ms, rfl, hP, hM⟩ := (hPc _ _ _).mp z
    have tk : f.take (i + 1) = f.take i ++ [x] := by rw [List.take_add_one, hx]; rfl
    have hi := (List.getElem?_eq_some_iff.mp hx).1
    have il : (f.take i).length = i := by rw [List.length_take]; omega
    try walk_at "dr1"; (try simp only [sp_depth_of, sp_add_side]); try walk_at "dr1"
    by_cases c0 : x = 0
    · subst c0
      rw [if_neg (by simp)]
      exact (hPc _ _ _).mpr ⟨g1.trans g12, as, ms, rfl, hP.same g12, by rw [tk]; exact hM.nought hp.1⟩
    · rw [if_pos (by simp [c0])]
      refine ⟨hp.1, hp.2, c0, fun d u fc => ⟨by decide, ?_⟩⟩
      intro t n_t; generalize e_t : upd _ t _ = H3; obtain ⟨g3, k3⟩ := newH e_t n_t; clear e_t
      refine (hPc _ _ _).mpr ⟨(g1.trans g12).trans g3, as ++ [t], ms ++ [((i : Int), (d : Int))], by rw [List.map_append]; rfl, ((hP.same g12).same g3).app (PairsI.one (b := ((i : Int), (d : Int))) k3), ?_⟩
      have := hM.snoc hp.1 fc
      rw [il] at this
      rw [tk]
      exact this
  intro ys H1 z
  obtain ⟨g1, as, ms, rfl, hP, hM⟩ := (hPc _ _ _).mp z
  rw [List.take_length] at hM
  clear hPc z
  intro lm n_lm; generalize e_lm : upd _ lm _ = H2; obtain ⟨g2, k2⟩ := newH e_lm n_lm; clear e_lm
  have hP2 := hP.same g2
  have G2 := g1.trans g2
  (try dsimp only); (first | refine seqI ?_ | skip); try walk_at "dr2"; (try simp only [sp_depth_of, sp_add_side]); try walk_at "dr2"
  refine ⟨_, .inl (SqL.of k2), ?_⟩
  rw [List.length_map]
  have hal := hP.1
  by_cases hms : ms = []
  · subst hms
    rw [if_pos (by rw [hal]; rfl)]
    refine ⟨by decide, qx (fun x hx => Decidable.byContradiction fun n0 => ?_) H2 G2⟩
    obtain ⟨d, u, fc⟩ := Dr.fac hp.1 n0
    obtain ⟨i, hi, e⟩ := List.getElem_of_mem hx
    exact nomatch (hM.mem ((i : Int), (d : Int))).mpr ⟨i, x, d, u, by rw [List.getElem?_eq_getElem hi, e], fc, rfl⟩
  have hpos : 0 < ms.length := List.length_pos_iff.mpr hms
  rw [if_neg (by omega)]
  obtain ⟨m0, hm0⟩ : ∃ m0, ms[0]? = some m0 := ⟨_, List.getElem?_eq_getElem hpos⟩
  obtain ⟨a0, ha0, k0⟩ := hP2.at hm0
  (try dsimp only); (first | refine seqI ?_ | skip); try walk_at "dr2"; (try simp only [sp_depth_of, sp_add_side]); try walk_at "dr2"
  refine ⟨by decide, ?_⟩
  intro c n_c; generalize e_c : upd _ c _ = H3; obtain ⟨g3, k3⟩ := newH e_c n_c; clear e_c
  have nc : H c = none := by
    cases e : H c with
    | none => rfl
    | some o => rw [G2 _ _ e] at n_c; cases n_c
  have at0 : atI (as.map V.ref) 0 = some (.ref a0) := atI_nat (j := 0) (by rw [List.getElem?_map, ha0]; rfl)
  (try dsimp only); (first | refine seqI ?_ | skip); try walk_at "dr2"; (try simp only [sp_depth_of, sp_add_side]); try walk_at "dr2"
  refine ⟨_, SqL.of (g3 _ _ k2), _, at0, ?_⟩
  (try dsimp only); (first | refine seqI ?_ | skip); try walk_at "dr2"; (try simp only [sp_depth_of, sp_add_side]); try walk_at "dr2"
  refine ⟨_, SqL.of (g3 _ _ k2), ?_⟩
  intro ls n_ls; generalize e_ls : upd _ ls _ = H4; obtain ⟨g4, k4⟩ := newH e_ls n_ls; clear e_ls
  rw [cut_from V.ref _ (by omega)] at k4
  have k4 : H4 ls = some (.lst ((as.drop 1).map V.ref)) := k4
  have kc4 := g4 _ _ k3
  have hP4 := (hP2.same g3).same g4
  have G4 := (G2.trans g3).trans g4
  have nlc : ls ≠ c := fun z => by rw [z, k3] at n_ls; cases n_ls
  have npc : ∀ i x b, as[i]? = some x → ms[i]? = some b → x ≠ c := fun i x b e1 e2 z => by have h := hP4.2 i x b e1 e2; rw [z, kc4] at h; cases h
  have hlen : ms.length ≤ 90 := Nat.le_trans hM.len hl
  refine ⟨⟨_, SqL.of k4⟩, ?_⟩
  obtain ⟨Pv, hPv⟩ : ∃ Pv : Nat → St → Hp → Prop, ∀ i σ H5, Pv i σ H5 ↔ (∃ (aJ : List Addr) (J : List (Int × Int)) (la : Addr) (lm0 : Int × Int) (t5 : Option V), (∀ z o, z ≠ c → H4 z = some o → H5 z = some o) ∧ H5 c = some (.lst (aJ.map V.ref)) ∧ PairsI H5 aJ J ∧ Dr.Border J ∧ J.length ≤ i ∧ Dr.tot J ≤ i * 2 ^ 1000 ∧ ms[i]? = some lm0 ∧ as[i]? = some la ∧ Dr.HullR (ms.take (i + 1)) m0 lm0 J.reverse ∧ σ = [some (V.int p), some (V.ref a), some (V.ref lm), some (V.ref c), some (V.ref la), t5]) := ⟨_, fun _ _ _ => Iff.rfl⟩
  refine forL ((as.drop 1).map V.ref) Pv ((hPv _ _ _).mpr ⟨[], [], a0, m0, none, fun _ _ _ h => h, kc4, PairsI.nil _, ⟨.nil, fun _ h => nomatch h⟩, Nat.le_refl _, by simp [Dr.tot], hm0, ha0, ?_, rfl⟩) (fun i σ H5 _ z => by obtain ⟨aJ, J, la, lm0, t5, kk, _⟩ := (hPv _ _ _).mp z; exact SqL.of (kk _ _ nlc k4)) ?_ ?_
  · rw [List.take_add_one, hm0]
    exact ⟨rfl, by simp⟩
  · intro i v σ H5 hv z
    obtain ⟨aJ, J, la, lm0, t5, kk, kc, hPJ, hB, hJl, hJt, hlm, hla, hH, rfl⟩ := (hPv _ _ _).mp z
    rw [List.getElem?_map, List.getElem?_drop, Nat.add_comm] at hv
    obtain ⟨sa, hsa, rfl⟩ : ∃ sa, as[i + 1]? = some sa ∧ V.ref sa = v := by
      cases w : as[i + 1]? with
      | none => rw [w] at hv; cases hv
      | some sa => rw [w] at hv; exact ⟨sa, rfl, Option.some.inj hv⟩
    obtain ⟨sd, hsd, hks⟩ := hP4.get hsa
    have ks5 := kk _ _ (npc _ _ _ hsa hsd) hks
    have kl5 := kk _ _ (npc _ _ _ hla hlm) (hP4.2 _ _ _ hla hlm)
    have hi := (List.getElem?_eq_some_iff.mp hsd).1
    have b1 := hM.place (List.mem_of_getElem? hsd)
    have b2 := hM.place (List.mem_of_getElem? hlm)
    have b3 := hM.high hp.1 hsm (List.mem_of_getElem? hsd)
    have b4 := hM.high hp.1 hsm (List.mem_of_getElem? hlm)
    have inx := inc_next hM.inc hlm hsd
    have w0 : 0 < (Dr.mns sd lm0).1 := by unfold Dr.mns; simp only; omega
    have wt : Dr.tot [Dr.mns sd lm0] ≤ 2 ^ 1000 := by
      have : 20000 ≤ 2 ^ 1000 := Nat.le_trans (show 20000 ≤ 2 ^ 15 by decide) (Nat.pow_le_pow_right (by decide) (by decide))
      simp only [Dr.tot, Dr.mns]
      omega
    have p2 : (i + 1) * 2 ^ 1000 < 2 ^ 2000 := by
      refine Nat.lt_of_le_of_lt (Nat.mul_le_mul_right _ (show i + 1 ≤ 2 ^ 7 by omega)) ?_
      rw [← Nat.pow_add]
      exact Nat.pow_lt_pow_right (by decide) (by decide)
    rw [Nat.add_mul, Nat.one_mul] at p2
    have hn := hull_next (inc_take hM.inc hlm) inx hH
    have tk : ms.take (i + 1 + 1) = ms.take (i + 1) ++ [sd] := by rw [List.take_add_one, hsd]; rfl
    try walk_at "dr1"; (try simp only [sp_depth_of, sp_add_side]); try walk_at "dr1"
    refine ⟨_, SqT.of ks5, _, rfl, _, SqT.of kl5, _, rfl, _, rfl, _, rfl, _, SqT.of ks5, _, rfl, _, SqT.of kl5, _, rfl, _, rfl, _, rfl, by decide, ?_⟩
    intro w n_w; generalize e_w : upd _ w _ = H6; obtain ⟨g6, k6⟩ := newH e_w n_w; clear e_w
    refine ⟨aJ, g6 _ _ kc, J, hPJ.same g6, Dr.mns sd lm0, k6, by omega, by omega, fun aJ' H7 k7 kc7 hP7 => ?_⟩
    have hl7 := Dr.addR_len J.reverse (Dr.mns sd lm0)
    have ht7 := Dr.tot_addR J.reverse (Dr.mns sd lm0)
    rw [List.length_reverse] at hl7
    rw [Dr.tot_rev] at ht7
    refine (hPv _ _ _).mpr ⟨aJ', (Dr.addR J.reverse (Dr.mns sd lm0)).reverse, sa, sd, _, fun z o hz h => k7 z o hz (g6 _ _ (kk z o hz h)), kc7, hP7, Dr.addR_border w0 (by rw [List.reverse_reverse]; exact hB), by rw [List.length_reverse]; omega, by rw [Dr.tot_rev, Nat.add_mul, Nat.one_mul]; omega, hsd, hsa, by rw [List.reverse_reverse, tk]; exact hn, rfl⟩
  · intro σ H5 z
    obtain ⟨aJ, J, la, lm0, t5, kk, kc, hPJ, hB, hJl, hJt, hlm, hla, hH, rfl⟩ := (hPv _ _ _).mp z
    have el : ((as.drop 1).map V.ref).length + 1 = ms.length := by rw [List.length_map, List.length_drop]; omega
    rw [el, List.take_length] at hH
    try walk_at "dr1"; (try simp only [sp_depth_of, sp_add_side]); try walk_at "dr1"
    refine q c aJ J ms m0 lm0 H5 nc (fun z o h => kk z o (fun e => by rw [e, nc] at h; cases h) (G4 _ _ h)) kc hPJ hB (by omega) hM hH (by rw [List.head?_eq_getElem?]; exact hm0) ?_
    rw [List.getLast?_eq_getElem?, ← el, Nat.add_sub_cancel]
    exact hlm
theorem hull_one {p x : Int} {k : Nat} {f : List Int} {ms J : List (Int × Int)} {A M : Int × Int} (hM : Marks p f ms) (h1 : ∀ i y, f[i]? = some y → i ≠ k → y = 0) (hp : 2 ≤ p) (h : Dr.HullR ms A M J.reverse) : J = [] := by
  have pl : ∀ m, m ∈ ms → m.1 = (k : Int) := fun m hm => by
    obtain ⟨i, y, d, u, e, fc, rfl⟩ := (hM.mem m).mp hm
    by_cases w : i = k
    · rw [w]
    · exact absurd (h1 i y e w) (fc.ne hp)
  have : J.reverse = [] := by
    cases e : J.reverse with
    | nil => rfl
    | cons s L =>
      rw [e] at h
      obtain ⟨m1, m2, _, m4⟩ := h
      have e1 := pl _ m1
      have e2 := pl _ m4.mem
      unfold Dr.mns at e2
      simp only at e2
      omega
  exact List.reverse_eq_nil_iff.mp this
def sp_borders_joined (K : PySem.W.Frag) : Sp := fun vs H Q _ => ∃ (x y : Addr) (ax ay : List Addr) (one other : List (Int × Int)), vs = [.ref x, .ref y] ∧ H x = some (.lst (ax.map V.ref)) ∧ PairsI H ax one ∧ H y = some (.lst (ay.map V.ref)) ∧ PairsI H ay other ∧ Dr.Border one ∧ Dr.Border other ∧ (one.length ≤ 35 ∧ other.length ≤ 35) ∧ Dr.tot one + Dr.tot other < 2 ^ 1900 ∧
  ∀ (c : Addr) (as : List Addr) (R : List (Int × Int)) (H' : Hp), H c = none → Same H H' → H' c = some (.lst (as.map V.ref)) → PairsI H' as R → Dr.Border R → (∀ v : Int × Int, 0 < v.1 → Dr.csum v R = Dr.pls (Dr.csum v one) (Dr.csum v other)) → R.length ≤ 70 → Q (.ref c) H'
structure JI (c : Addr) (H1 : Hp) (d1 d2 : List (Int × Int)) (R : Int × Int → Prop) (H2 : Hp) (as : List Addr) (J : List (Int × Int)) : Prop where
  keep : ∀ z o, z ≠ c → H1 z = some o → H2 z = some o
  at_ : H2 c = some (.lst (as.map V.ref))
  prs : PairsI H2 as J
  bor : Dr.Border J
  sum : ∀ v : Int × Int, 0 < v.1 → Dr.csum v J = Dr.pls (Dr.csum v d1) (Dr.csum v d2)
  rem : ∀ w, R w → 0 < w.1 ∧ ∀ u, u ∈ J → ¬ Dr.Stp w u
  tot : Dr.tot J ≤ Dr.tot d1 + Dr.tot d2
  len : J.length ≤ d1.length + d2.length
theorem pls_assoc (a b c : Int × Int) : Dr.pls (Dr.pls a b) c = Dr.pls a (Dr.pls b c) := by
  unfold Dr.pls
  ext <;> simp <;> omega
theorem pls_swap (a b c : Int × Int) : Dr.pls (Dr.pls a b) c = Dr.pls (Dr.pls a c) b := by
  unfold Dr.pls
  ext <;> simp <;> omega
theorem JI.add {c : Addr} {H1 H2 H3 : Hp} {d1 d2 : List (Int × Int)} {R R' : Int × Int → Prop} {as as' : List Addr} {J : List (Int × Int)} (h : JI c H1 d1 d2 R H2 as J) {w : Int × Int} (hw : R w) (hR : ∀ y, R' y → R y ∧ ¬ Dr.Stp y w)
    (k : ∀ x u, x ≠ c → H2 x = some u → H3 x = some u) (kc : H3 c = some (.lst (as'.map V.ref))) (hP : PairsI H3 as' (Dr.addR J.reverse w).reverse) : JI c H1 d1 (d2 ++ [w]) R' H3 as' (Dr.addR J.reverse w).reverse ∧ JI c H1 (d1 ++ [w]) d2 R' H3 as' (Dr.addR J.reverse w).reverse := by
  obtain ⟨w0, w1⟩ := h.rem w hw
  obtain ⟨b1, b2, b3⟩ := Dr.addR_ok (L := J.reverse) w0 (by rw [List.reverse_reverse]; exact h.bor) fun u hu => w1 u (List.mem_reverse.mp hu)
  have ht := Dr.tot_addR J.reverse w
  rw [Dr.tot_rev] at ht
  have hl := Dr.addR_len J.reverse w
  rw [List.length_reverse] at hl
  have t0 := h.tot
  have l0 := h.len
  have rm : ∀ y, R' y → 0 < y.1 ∧ ∀ u, u ∈ (Dr.addR J.reverse w).reverse → ¬ Dr.Stp y u := fun y hy => by
    obtain ⟨y1, y2⟩ := hR y hy
    have y0 := (h.rem y y1).1
    exact ⟨y0, fun u hu => b3 y y0 y2 u (List.mem_reverse.mp hu)⟩
  refine ⟨⟨fun z o hz e => k z o hz (h.keep z o hz e), kc, hP, b1, fun v hv => ?_, rm, ?_, ?_⟩, ⟨fun z o hz e => k z o hz (h.keep z o hz e), kc, hP, b1, fun v hv => ?_, rm, ?_, ?_⟩⟩
  · rw [b2 v hv, List.reverse_reverse, h.sum v hv, Dr.csum_append, pls_assoc]
  · rw [Dr.tot_rev, Dr.tot_append]; omega
  · rw [List.length_reverse, List.length_append]; simp only [List.length_cons, List.length_nil]; omega
  · rw [b2 v hv, List.reverse_reverse, h.sum v hv, Dr.csum_append, pls_swap]
  · rw [Dr.tot_rev, Dr.tot_append]; omega
  · rw [List.length_reverse, List.length_append]; simp only [List.length_cons, List.length_nil]; omega
theorem drop_pw {L : List (Int × Int)} (h : Dr.Border L) {i : Nat} {s : Int × Int} (hs : L[i]? = some s) : (∀ y, y ∈ L.drop (i + 1) → Dr.Stp s y) ∧ (∀ y, y ∈ L.drop i → y = s ∨ y ∈ L.drop (i + 1)) := by
  have hi := (List.getElem?_eq_some_iff.mp hs).1
  have e : L.drop i = s :: L.drop (i + 1) := by
    rw [List.drop_eq_getElem_cons hi]
    congr 1
    rw [List.getElem?_eq_getElem hi] at hs
    exact Option.some.inj hs
  have hp : (L.drop i).Pairwise Dr.Stp := h.inc.sublist (List.drop_sublist ..)
  rw [e] at hp
  refine ⟨(List.pairwise_cons.mp hp).1, fun y hy => ?_⟩
  rw [e] at hy
  exact List.mem_cons.mp hy
theorem ok_borders_joined (B : Bi mg K) (d_rises_more : Def P w K mg base "rises_more" 1 ["side", "ahead"] (sp_rises_more K)) (d_add_side : Def P w K mg base "add_side" 2 ["sides", "side"] (sp_add_side K)) (F : Fun K "borders_joined" "borders_joined" s_borders_joined f fd) : FnOk P w K mg base CX0 3 f fd ["one", "other"] (sp_borders_joined K) := by
  refine F.ok S_borders_joined (fun vs H Q E h => ?_) (fun cdv A outer s H vs Q E hr h => ?_)
  · obtain ⟨x, y, ax, ay, one, other, rfl, _⟩ := h
    rfl
  obtain ⟨x, y, ax, ay, one, other, rfl, hx, hPx, hy, hPy, hB1, hB2, hl, ht, q⟩ := h
  have S := S_borders_joined
  refine ⟨_, ((pss_cons (ps_set (i := 2) S.nd rfl (Or.inl rfl) (pe_lst pa_nil))
    (pss_cons (ps_set (i := 3) S.nd rfl (Or.inl rfl) pe_int)
    (pss_cons (ps_for PassesOwn.never rfl (pi_list (pv 0)) (pg_name (i := 4) S.nd rfl (Or.inl rfl)) (pss_cons (ps_while PassesOwn.never (PW.pt (pw_and (pt_cmpR op_lt (pv 3) (pe_callB call_len_seq rfl B.b_len PySem.boot_len (pa_cons (pv 1) pa_nil)) (nomark _)) (pw_and1 (pt_val (pe_def d_rises_more hr rfl (pa_cons (pv 4) (pa_cons (pe_ix ix_list (pv 1) (pv 3) (fun _ _ => rfl)) pa_nil))))))) (pss_cons (ps_expr (pe_def d_add_side hr rfl (pa_cons (pv 2) (pa_cons (pe_ix ix_list (pv 1) (pv 3) (fun _ _ => rfl)) pa_nil))))
    (pss_one (ps_aug (i := 3) S.nd rfl (Or.inl rfl) pe_int ip_add))))
    (pss_one (ps_expr (pe_def d_add_side hr rfl (pa_cons (pv 2) (pa_cons (pv 4) pa_nil)))))))
    (pss_cons (ps_for PassesOwn.never rfl (pi_list (pe_slice sl_list (pv 1) (po_some (pv 3)) po_none)) (pg_name (i := 4) S.nd rfl (Or.inl rfl)) (pss_one (ps_expr (pe_def d_add_side hr rfl (pa_cons (pv 2) (pa_cons (pv 4) pa_nil))))))
    (pss_one (ps_ret (pv 2)))))))), ?_⟩
  (try dsimp only); (first | refine seqI ?_ | skip); try walk_at "dr2"; (try simp only [sp_rises_more, sp_add_side]); try walk_at "dr2"
  refine ⟨by decide, ?_⟩
  intro c n_c; generalize e_c : upd _ c _ = H1; obtain ⟨g1, k1⟩ := newH e_c n_c; clear e_c
  (try dsimp only); (first | refine seqI ?_ | skip); try walk_at "dr2"; (try simp only [sp_rises_more, sp_add_side]); try walk_at "dr2"
  (try dsimp only); (first | refine seqI ?_ | skip); try walk_at "dr2"; (try simp only [sp_rises_more, sp_add_side]); try walk_at "dr2"
  refine ⟨⟨_, SqL.of (g1 _ _ hx)⟩, ?_⟩
  have nc : H c = none := n_c
  have ncx : x ≠ c := fun z => by rw [z, nc] at hx; cases hx
  have ncy : y ≠ c := fun z => by rw [z, nc] at hy; cases hy
  have alx := hPx.1
  have aly := hPy.1
  have kx1 := g1 _ _ hx
  have ky1 := g1 _ _ hy
  have hPx1 := hPx.same g1
  have hPy1 := hPy.same g1
  have npx : ∀ i a b, ax[i]? = some a → one[i]? = some b → a ≠ c := fun i a b e1 e2 z => by have h := hPx1.2 i a b e1 e2; rw [z, k1] at h; cases h
  have npy : ∀ i a b, ay[i]? = some a → other[i]? = some b → a ≠ c := fun i a b e1 e2 z => by have h := hPy1.2 i a b e1 e2; rw [z, k1] at h; cases h
  have pos1 : ∀ i y, y ∈ one.drop i → 0 < y.1 := fun i y hy => hB1.pos y (List.mem_of_mem_drop hy)
  have pos2 : ∀ i y, y ∈ other.drop i → 0 < y.1 := fun i y hy => hB2.pos y (List.mem_of_mem_drop hy)
  obtain ⟨Pv, hPv⟩ : ∃ Pv : Nat → St → Hp → Prop, ∀ i σ H2, Pv i σ H2 ↔ (∃ (j : Nat) (as : List Addr) (J : List (Int × Int)) (t4 : Option V), j ≤ other.length ∧ JI c H1 (one.take i) (other.take j) (fun w => w ∈ one.drop i ∨ w ∈ other.drop j) H2 as J ∧ σ = [some (V.ref x), some (V.ref y), some (V.ref c), some (V.int (j : Int)), t4]) := ⟨_, fun _ _ _ => Iff.rfl⟩
  refine forL (ax.map V.ref) Pv ((hPv _ _ _).mpr ⟨0, [], [], none, Nat.zero_le _, ⟨fun _ _ _ e => e, k1, PairsI.nil _, ⟨.nil, fun _ h => nomatch h⟩, fun v _ => by simp [Dr.csum, Dr.pls], fun w hw => ⟨?_, fun _ h => nomatch h⟩, by simp [Dr.tot], by simp⟩, rfl⟩) (fun i σ H2 _ z => by obtain ⟨j, as, J, t4, _, hJ, _⟩ := (hPv _ _ _).mp z; exact SqL.of (hJ.keep _ _ ncx kx1)) ?_ ?_
  · rcases hw with w1 | w1
    · exact pos1 0 w w1
    · exact pos2 0 w w1
  · intro i v σ H2 hv z
    obtain ⟨j, as, J, t4, hj, hJ, rfl⟩ := (hPv _ _ _).mp z
    rw [List.getElem?_map] at hv
    obtain ⟨sa, hsa, rfl⟩ : ∃ sa, ax[i]? = some sa ∧ V.ref sa = v := by
      cases w : ax[i]? with
      | none => rw [w] at hv; cases hv
      | some sa => rw [w] at hv; exact ⟨sa, rfl, Option.some.inj hv⟩
    obtain ⟨sd, hsd, hks⟩ := hPx1.get hsa
    have nsa := npx i sa sd hsa hsd
    have hi := (List.getElem?_eq_some_iff.mp hsd).1
    obtain ⟨d1, d2⟩ := drop_pw hB1 hsd
    have sd0 := hB1.pos sd (List.mem_of_getElem? hsd)
    refine seqI ?_
    obtain ⟨W, hW⟩ : ∃ W : Nat → St → Hp → Prop, ∀ m σ H3, W m σ H3 ↔ (∃ (j : Nat) (as : List Addr) (J : List (Int × Int)), m = other.length - j ∧ j ≤ other.length ∧ JI c H1 (one.take i) (other.take j) (fun w => w ∈ one.drop i ∨ w ∈ other.drop j) H3 as J ∧ σ = [some (V.ref x), some (V.ref y), some (V.ref c), some (V.int (j : Int)), some (V.ref sa)]) := ⟨_, fun _ _ _ => Iff.rfl⟩
    have bt : ∀ (d1 d2 : Nat), Dr.tot (one.take d1) + Dr.tot (other.take d2) ≤ Dr.tot one + Dr.tot other := fun d1 d2 => by
      have h1 := Dr.tot_append (one.take d1) (one.drop d1)
      have h2 := Dr.tot_append (other.take d2) (other.drop d2)
      rw [List.take_append_drop] at h1 h2
      omega
    have p1900 : (2 : Nat) ^ 1900 + 2 ^ 1900 ≤ 2 ^ 2000 := by
      rw [← Nat.two_mul, ← Nat.pow_succ']
      exact Nat.pow_le_pow_right (by decide) (by decide)
    have bsd : Dr.tot [sd] ≤ Dr.tot one := by
      have := Dr.tot_mem (List.mem_of_getElem? hsd)
      simp only [Dr.tot]
      omega
    refine whB W (other.length - j) ((hW _ _ _).mpr ⟨j, as, J, rfl, hj, hJ, rfl⟩) ?_
    clear hJ hj
    intro m σ H3 z
    obtain ⟨j, as, J, rfl, hj, hJ, rfl⟩ := (hW _ _ _).mp z
    have hJt := hJ.tot
    have hJl := hJ.len
    rw [List.length_take, List.length_take] at hJl
    have bj := bt i j
    have ks3 := hJ.keep _ _ nsa hks
    have fin : ∀ H3' : Hp, H3' = H3 → (∀ y, y ∈ other.drop j → ¬ Dr.Stp y sd) → ∀ (as' : List Addr) (H' : Hp), (∀ z u, z ≠ c → H3' z = some u → H' z = some u) → H' c = some (.lst (as'.map V.ref)) → PairsI H' as' (Dr.addR J.reverse sd).reverse → Pv (i + 1) [some (V.ref x), some (V.ref y), some (V.ref c), some (V.int (j : Int)), some (V.ref sa)] H' := fun H3' e hm as' H' k kc hP' => by
      subst e
      have tk : one.take (i + 1) = one.take i ++ [sd] := by rw [List.take_add_one, hsd]; rfl
      refine (hPv _ _ _).mpr ⟨j, as', (Dr.addR J.reverse sd).reverse, _, hj, ?_, rfl⟩
      rw [tk]
      refine (hJ.add (w := sd) (.inl ?_) (fun y hy => ?_) k kc hP').2
      · exact List.mem_of_getElem? (i := 0) (by rw [List.getElem?_drop]; exact hsd)
      · rcases hy with h1 | h1
        · exact ⟨.inl (by have := List.mem_of_mem_drop (i := 1) (l := one.drop i) (by rw [List.drop_drop]; exact h1); exact this), Dr.stp_asym (d1 y h1)⟩
        · exact ⟨.inr h1, hm y h1⟩
    try walk_at "dr1"; (try simp only [sp_rises_more, sp_add_side]); try walk_at "dr1"
    refine ⟨_, .inl (SqL.of (hJ.keep _ _ ncy ky1)), ite2 (fun c0 => ?_) (fun c0 => ?_)⟩
    · rw [List.length_map] at c0
      obtain ⟨od, hod⟩ : ∃ od, other[j]? = some od := ⟨_, List.getElem?_eq_getElem (by omega)⟩
      obtain ⟨oa, hoa, hko⟩ := hPy1.at hod
      have ko3 := hJ.keep _ _ (npy j oa od hoa hod) hko
      have ky3 := hJ.keep _ _ ncy ky1
      have aj : atI (ay.map V.ref) (j : Int) = some (.ref oa) := atI_nat (by rw [List.getElem?_map, hoa]; rfl)
      have bs1 := Dr.tot_sm (m := 1900) (List.mem_of_getElem? hsd) (by omega)
      have bs2 := Dr.tot_sm (m := 1900) (List.mem_of_getElem? hod) (by omega)
      have bod : Dr.tot [od] ≤ Dr.tot other := by
        have := Dr.tot_mem (List.mem_of_getElem? hod)
        simp only [Dr.tot]
        omega
      have od0 := hB2.pos od (List.mem_of_getElem? hod)
      obtain ⟨e1, e2⟩ := drop_pw hB2 hod
      refine ⟨_, SqL.of ky3, _, aj, oa, rfl, sd, ks3, od, ko3, 1900, bs1.1, bs1.2, bs2.1, bs2.2, by decide, ite2 (fun cs => ?_) (fun cs => ?_)⟩
      · refine ⟨_, fun _ _ h => h, _, SqL.of ky3, _, aj, oa, rfl, as, hJ.at_, J, hJ.prs, od, ko3, by omega, by omega, fun as' H' k kc hP' => ?_⟩
        have tk : other.take (j + 1) = other.take j ++ [od] := by rw [List.take_add_one, hod]; rfl
        refine ⟨other.length - (j + 1), by omega, (hW _ _ _).mpr ⟨j + 1, as', (Dr.addR J.reverse od).reverse, rfl, by omega, ?_, rfl⟩⟩
        rw [tk]
        refine (hJ.add (w := od) (.inr ?_) (fun y hy => ?_) k kc hP').1
        · exact List.mem_of_getElem? (i := 0) (by rw [List.getElem?_drop]; exact hod)
        · rcases hy with h1 | h1
          · refine ⟨.inl h1, ?_⟩
            rcases d2 y h1 with h2 | h2
            · rw [h2]; exact Dr.stp_asym cs
            · exact Dr.stp_asym (cs.trans od0 sd0 (pos1 _ y h2) (d1 y h2))
          · exact ⟨.inr (List.mem_of_mem_drop (i := 1) (l := other.drop j) (by rw [List.drop_drop]; exact h1)), Dr.stp_asym (e1 y h1)⟩
      · refine ⟨as, hJ.at_, J, hJ.prs, sd, ks3, by omega, by omega, fin H3 rfl fun y hy => ?_⟩
        rcases e2 y hy with h2 | h2
        · rw [h2]; exact cs
        · exact fun st => cs ((e1 y h2).trans od0 (pos2 _ y h2) sd0 st)
    · rw [List.length_map] at c0
      refine ⟨as, hJ.at_, J, hJ.prs, sd, ks3, by omega, by omega, fin H3 rfl fun y hy => ?_⟩
      rw [List.drop_eq_nil_of_le (by omega)] at hy
      cases hy
  · intro σ H2 z
    obtain ⟨j, as, J, t4, hj, hJ, rfl⟩ := (hPv _ _ _).mp z
    rw [List.length_map, alx, List.take_length, List.drop_length] at hJ
    clear hPv z
    have ky2 := hJ.keep _ _ ncy ky1
    (try dsimp only); (first | refine seqI ?_ | skip); try walk_at "dr2"; (try simp only [sp_rises_more, sp_add_side]); try walk_at "dr2"
    refine ⟨_, SqL.of ky2, ?_⟩
    intro ls n_ls; generalize e_ls : upd _ ls _ = H3; obtain ⟨g3, k3⟩ := newH e_ls n_ls; clear e_ls
    rw [cut_from V.ref _ (by omega), Int.toNat_natCast] at k3
    refine ⟨⟨_, SqL.of k3⟩, ?_⟩
    have ncs : ls ≠ c := fun z => by rw [z, hJ.at_] at n_ls; cases n_ls
    have hJ3 : JI c H3 one (other.take j) (fun w => w ∈ other.drop j) H3 as J := ⟨fun _ _ _ e => e, g3 _ _ hJ.at_, hJ.prs.same g3, hJ.bor, hJ.sum, fun w hw => hJ.rem w (.inr hw), hJ.tot, hJ.len⟩
    obtain ⟨Pv, hPv⟩ : ∃ Pv : Nat → St → Hp → Prop, ∀ i σ H4, Pv i σ H4 ↔ (∃ (as : List Addr) (J : List (Int × Int)) (t4 : Option V), JI c H3 one (other.take (j + i)) (fun w => w ∈ other.drop (j + i)) H4 as J ∧ σ = [some (V.ref x), some (V.ref y), some (V.ref c), some (V.int (j : Int)), t4]) := ⟨_, fun _ _ _ => Iff.rfl⟩
    refine forL ((ay.drop j).map V.ref) Pv ((hPv _ _ _).mpr ⟨as, J, t4, by rw [Nat.add_zero]; exact hJ3, rfl⟩) (fun i σ H4 _ z => by obtain ⟨as, J, t4, hJ4, _⟩ := (hPv _ _ _).mp z; exact SqL.of (hJ4.keep _ _ ncs k3)) ?_ ?_
    · intro i v σ H4 hv z
      obtain ⟨as4, J4, t5, hJ4, rfl⟩ := (hPv _ _ _).mp z
      rw [List.getElem?_map, List.getElem?_drop] at hv
      obtain ⟨oa, hoa, rfl⟩ : ∃ oa, ay[j + i]? = some oa ∧ V.ref oa = v := by
        cases w : ay[j + i]? with
        | none => rw [w] at hv; cases hv
        | some oa => rw [w] at hv; exact ⟨oa, rfl, Option.some.inj hv⟩
      obtain ⟨od, hod, hko⟩ := hPy1.get hoa
      have nod := npy _ oa od hoa hod
      have ko4 := hJ4.keep _ _ nod (g3 _ _ (hJ.keep _ _ nod hko))
      obtain ⟨e1, e2⟩ := drop_pw hB2 hod
      have hjl := (List.getElem?_eq_some_iff.mp hod).1
      have hJt := hJ4.tot
      have hJl := hJ4.len
      rw [List.length_take] at hJl
      have h2 := Dr.tot_append (other.take (j + i)) (other.drop (j + i))
      rw [List.take_append_drop] at h2
      have bod : Dr.tot [od] ≤ Dr.tot other := by
        have := Dr.tot_mem (List.mem_of_getElem? hod)
        simp only [Dr.tot]
        omega
      have p1900 : (2 : Nat) ^ 1900 + 2 ^ 1900 ≤ 2 ^ 2000 := by
        rw [← Nat.two_mul, ← Nat.pow_succ']
        exact Nat.pow_le_pow_right (by decide) (by decide)
      try walk_at "dr1"; (try simp only [sp_rises_more, sp_add_side]); try walk_at "dr1"
      refine ⟨as4, hJ4.at_, J4, hJ4.prs, od, ko4, by omega, by omega, fun as' H' k kc hP' => (hPv _ _ _).mpr ⟨as', (Dr.addR J4.reverse od).reverse, _, ?_, rfl⟩⟩
      have tk : other.take (j + (i + 1)) = other.take (j + i) ++ [od] := by rw [← Nat.add_assoc, List.take_add_one, hod]; rfl
      rw [tk]
      refine (hJ4.add (w := od) ?_ (fun y hy => ?_) k kc hP').1
      · exact List.mem_of_getElem? (i := 0) (by rw [List.getElem?_drop]; exact hod)
      · rw [← Nat.add_assoc] at hy
        exact ⟨List.mem_of_mem_drop (i := 1) (l := other.drop (j + i)) (by rw [List.drop_drop]; exact hy), Dr.stp_asym (e1 y hy)⟩
    · intro σ H4 z
      obtain ⟨as4, J4, t5, hJ4, rfl⟩ := (hPv _ _ _).mp z
      rw [List.length_map, List.length_drop, aly, show j + (other.length - j) = other.length by omega, List.take_length] at hJ4
      have hJl := hJ4.len
      try walk_at "dr1"; (try simp only [sp_rises_more, sp_add_side]); try walk_at "dr1"
      exact q c as4 J4 H4 nc (fun z o h => hJ4.keep z o (fun e => by rw [e, nc] at h; cases h) (g3 _ _ (hJ.keep z o (fun e => by rw [e, nc] at h; cases h) (g1 _ _ h)))) hJ4.at_ hJ4.prs hJ4.bor hJ4.sum (by omega)
def cellv (ns : List Int) (k : Int) : Int := if k < ns.length then ns.getD k.toNat 0 else 3 * k * k + 17 * k + 4
def sp__law_cell (K : PySem.W.Frag) : Sp := fun vs H Q _ => ∃ (a : Addr) (ns : List Int) (k : Int), vs = [.ref a, .int k] ∧ SqL K H a (ns.map V.int) ∧ ns.length ≤ 63 ∧ (0 ≤ k ∧ k < 1000) ∧ Q (.int (cellv ns k)) H
theorem ok__law_cell (B : Bi mg K) (F : Fun K "_law_cell" "_law_cell" s__law_cell f fd) : FnOk P w K mg base CX0 1 f fd ["script", "k"] (sp__law_cell K) := by
  refine F.ok S__law_cell (fun vs H Q E h => ?_) (fun cdv A outer s H vs Q E hr h => ?_)
  · obtain ⟨a, ns, k, rfl, _⟩ := h
    rfl
  obtain ⟨a, ns, k, rfl, hS, hl, hk, q⟩ := h
  have S := S__law_cell
  refine ⟨_, ((pss_cons (ps_if (pt_cmpR op_lt (pv 1) (pe_callB call_len_seq rfl B.b_len PySem.boot_len (pa_cons (pv 0) pa_nil)) (nomark _)) (pss_one (ps_ret (pe_ix ix_list (pv 0) (pv 1) (fun _ _ => rfl)))) pss_nil)
    (pss_one (ps_ret (pe_op op_add (pe_op op_add (pe_op op_mulW (pe_op op_mulW pe_int (pv 1)) (pv 1)) (pe_op op_mulW pe_int (pv 1))) pe_int))))), ?_⟩
  refine ⟨_, rfl, _, rfl, a, _, rfl, .inl hS, _, _, rfl, rfl, _, rfl, ?_⟩
  have hm : (((ns.map V.int).length : Nat) : Int) = (ns.length : Int) := by rw [List.length_map]
  refine ite2 (fun c => ?_) (fun c => ?_)
  · have c' : k < (ns.length : Int) := by rw [← hm]; exact of_decide_eq_true c
    have hk' : k.toNat < ns.length := by omega
    have ek : k = ((k.toNat : Nat) : Int) := by omega
    have g : atI (ns.map V.int) ((k.toNat : Nat) : Int) = some (.int (ns.getD k.toNat 0)) := atI_nat (by rw [List.getElem?_map, List.getElem?_eq_getElem hk', List.getD_eq_getElem?_getD, List.getElem?_eq_getElem hk']; rfl)
    rw [← ek] at g
    refine ⟨_, rfl, _, rfl, a, _, _, _, rfl, rfl, hS, g, ?_⟩
    unfold cellv at q
    rw [if_pos c'] at q
    exact q
  · have c' : ¬ k < (ns.length : Int) := fun z => c (decide_eq_true (by rw [hm]; exact z))
    unfold cellv at q
    rw [if_neg c'] at q
    have b1 : IntMulOk 3 k := IntMulOk.of_left (by decide)
    have b2 : IntMulOk (3 * k) k := IntMulOk.of_right (intBits_le_64 (by omega) (by omega))
    have b3 : IntMulOk 17 k := IntMulOk.of_left (by decide)
    exact ⟨_, rfl, _, _, rfl, rfl, b1, _, rfl, _, _, rfl, rfl, b2, _, rfl, _, _, rfl, rfl, b3, _, _, rfl, rfl, _, _, rfl, rfl, q⟩
theorem cell_bits {ns : List Int} (h : ∀ n, n ∈ ns → Builtin.Int.intBits n ≤ 2 ^ 20) {k : Int} (hk : 0 ≤ k ∧ k < 1000) : Builtin.Int.intBits (cellv ns k) ≤ 2 ^ 20 := by
  unfold cellv
  split
  · have h1 : ns.getD k.toNat 0 ∈ ns := by
      rw [List.getD_eq_getElem?_getD, List.getElem?_eq_getElem (by omega)]
      exact List.getElem_mem _
    exact h _ h1
  · have h1 : 0 ≤ k * k := Int.mul_nonneg hk.1 hk.1
    have h2 : k * k ≤ 1000 * 1000 := Int.mul_le_mul (by omega) (by omega) hk.1 (by omega)
    have h3 : Builtin.Int.intBits (3 * k * k + 17 * k + 4) ≤ 64 := intBits_le_64 (by rw [Int.mul_assoc]; omega) (by rw [Int.mul_assoc]; omega)
    omega
theorem cell_sh {ns : List Int} (h : ∀ n, n ∈ ns → Builtin.Int.intBits n ≤ 2 ^ 20) {k : Int} (hk : 0 ≤ k ∧ k < 1000) : Sh (cellv ns k) := Nat.le_trans (cell_bits h hk) (by decide)
theorem sh_plus {x k : Int} {m : Int} (h : Builtin.Int.intBits x ≤ 2 ^ 20) (hm : 0 < m) (hk : 0 ≤ k ∧ k < 1000) : Sh (x / m + k) := by
  have h1 : Builtin.Int.intBits (x / m) ≤ 2 ^ 20 := by
    have : x / m = x.fdiv m := (Int.fdiv_eq_ediv_of_nonneg x (by omega)).symm
    rw [this]
    exact PySem.intBits_fdiv_le h
  have h2 : Builtin.Int.intBits k ≤ 64 := intBits_le_64 (by omega) (by omega)
  exact Nat.le_trans (PySem.intBits_add_le h1 h2) (by omega)
theorem sh_of {x : Int} (h : Builtin.Int.intBits x ≤ 2 ^ 20) : Sh x := Nat.le_trans h (by decide)
theorem bits_take {ns : List Int} (h : ∀ n, n ∈ ns → Builtin.Int.intBits n ≤ 2 ^ 20) (k : Nat) : ∀ n, n ∈ ns.take k → Builtin.Int.intBits n ≤ 2 ^ 20 := fun n hn => h n (List.mem_of_mem_take hn)
def sp__law_prime (_ : PySem.W.Frag) : Sp := fun vs H Q _ => ∃ (c : Int), vs = [.int c] ∧ ∀ (p : Int) (H' : Hp), p ∈ Dr.primes → Same H H' → Q (.int p) H'
theorem body__law_prime : ∃ (s1 s2 s3 : Stmt) (e1 : List Expr) (p1 p2 p3 p4 p5 p6 p7 p8 p9 p10 p11 p12 p13 p14 p15 p16 p17 p18 p19 p20 p21 p22 p23 p24 p25 : Pos), defBody s__law_prime = [s1, s2, s3] ∧
    s1 = .Assign [.Name "some" p1] (.List e1 p2) p3 ∧ cInts e1 = some Dr.primes ∧
    s2 = .If (.Compare (.BinOp (.Name "cell" p4) .Mod (.Constant (.int 2) 0 p5) p6) [.Eq] [.Constant (.int 0) 0 p7] p8) [.Return (some (.Subscript (.Name "some" p9) (.BinOp (.BinOp (.Name "cell" p10) .FloorDiv (.Constant (.int 2) 0 p11) p12) .Mod (.Constant (.int 4) 0 p13) p14) p15)) p16] [] p17 ∧
    s3 = .Return (some (.Subscript (.Name "some" p18) (.BinOp (.BinOp (.Name "cell" p19) .FloorDiv (.Constant (.int 2) 0 p20) p21) .Mod (.Constant (.int 25) 0 p22) p23) p24)) p25 :=
  ⟨_, _, _, _, _, _, _, _, _, _, _, _, _, _, _, _, _, _, _, _, _, _, _, _, _, _, _, _, _, rfl, rfl, rfl, rfl, rfl⟩
theorem ok__law_prime (B : Bi mg K) (F : Fun K "_law_prime" "_law_prime" s__law_prime f fd) : FnOk P w K mg base CX0 1 f fd ["cell"] (sp__law_prime K) := by
  refine F.ok S__law_prime (fun vs H Q E h => ?_) (fun cdv A outer s H vs Q E hr h => ?_)
  · obtain ⟨c, rfl, _⟩ := h
    rfl
  obtain ⟨c, rfl, q⟩ := h
  have S := S__law_prime
  obtain ⟨s1, s2, s3, e1, p1, p2, p3, p4, p5, p6, p7, p8, p9, p10, p11, p12, p13, p14, p15, p16, p17, p18, p19, p20, p21, p22, p23, p24, p25, hb, h1, c1, h2, h3⟩ := body__law_prime
  rw [hb]
  refine ⟨_, (pss_cons (ps_setInts (i := 1) h1 c1 S.nd rfl (Or.inl rfl) (Or.inr rfl))
    (pss_cons (ps_eq h2 (ps_if (pt_cmpR op_eq (pe_op op_mod (pv 0) pe_int) pe_int (nomark _)) (pss_one (ps_ret (pe_ix ix_list (pv 1) (pe_op op_mod (pe_op op_fdivW (pv 0) pe_int) pe_int) (fun _ _ => rfl)))) pss_nil))
    (pss_one (ps_eq h3 (ps_ret (pe_ix ix_list (pv 1) (pe_op op_mod (pe_op op_fdivW (pv 0) pe_int) pe_int) (fun _ _ => rfl))))))), ?_⟩
  refine ⟨(by show 25 ≤ sizeLine; decide), fun l hl => ?_⟩
  refine ⟨_, rfl, _, _, rfl, rfl, (show (0 : Int) < 2 by decide), rfl, _, rfl, ?_⟩
  refine ite2 (fun _ => ?_) (fun _ => ?_)
  · have m := mod_in (c / 2) (show (0 : Int) < 4 by decide)
    refine ⟨_, rfl, _, rfl, _, _, rfl, rfl, ⟨by decide, by decide⟩, _, _, rfl, rfl, (show (0 : Int) < 4 by decide), l, _, _, _, rfl, rfl, SqL.of upd_same, atI_ints (ns := Dr.primes) m.1 (by have := m.2; show _ < (25 : Int); omega), ?_⟩
    exact q _ _ (getD_in (ns := Dr.primes) m.1 (by have := m.2; show _ < (25 : Int); omega)) (same_new hl _)
  · have m := mod_in (c / 2) (show (0 : Int) < 25 by decide)
    refine ⟨_, rfl, _, rfl, _, _, rfl, rfl, ⟨by decide, by decide⟩, _, _, rfl, rfl, (show (0 : Int) < 25 by decide), l, _, _, _, rfl, rfl, SqL.of upd_same, atI_ints (ns := Dr.primes) m.1 m.2, ?_⟩
    exact q _ _ (getD_in (ns := Dr.primes) m.1 m.2) (same_new hl _)
def sp__law_whole (_ : PySem.W.Frag) : Sp := fun vs H Q _ => ∃ (i : Int), vs = [.int i] ∧ Q (.bl true) H
theorem ok__law_whole (B : Bi mg K) (F : Fun K "_law_whole" "_law_whole" s__law_whole f fd) : FnOk P w K mg base CX0 1 f fd ["thing"] (sp__law_whole K) := by
  refine F.ok S__law_whole (fun vs H Q E h => ?_) (fun cdv A outer s H vs Q E hr h => ?_)
  · obtain ⟨i, rfl, _⟩ := h
    rfl
  obtain ⟨i, rfl, q⟩ := h
  have S := S__law_whole
  refine ⟨_, ((pss_one (ps_ret (pe_and (pe_callB call_isiS rfl B.b_isinstance L2.bt_isinstance (pa_cons (pv 0) (pa_cons (pe_bltn (v := .ty "int") rfl B.b_int L2.bt_int rfl) pa_nil))) (pe_one (pe_not (pe_callB call_isiS rfl B.b_isinstance L2.bt_isinstance (pa_cons (pv 0) (pa_cons (pe_bltn (v := .ty "bool") rfl B.b_bool L2.bt_bool rfl) pa_nil))))))))), ?_⟩
  try walk_at "dr1"
  exact q
def sp__law_times (K : PySem.W.Frag) : Sp := fun vs H Q _ => ∃ (a b : Addr) (f g : List Int) (m n : Nat), vs = [.ref a, .ref b] ∧ SqL K H a (f.map V.int) ∧ SqL K H b (g.map V.int) ∧ (0 < f.length ∧ f.length ≤ 60 ∧ 0 < g.length ∧ g.length ≤ 60) ∧ Dr.PolyB f m ∧ Dr.PolyB g n ∧ (m ≤ 1000000 ∧ n ≤ 1000000) ∧
  ∀ (c : Addr) (r : List Int) (H' : Hp), Dr.IsProd f g r → Dr.PolyB r (m + n + 12) → H c = none → Same H H' → H' c = some (.lst (r.map V.int)) → Q (.ref c) H'
theorem ok__law_times (B : Bi mg K) (F : Fun K "_law_times" "_law_times" s__law_times f fd) : FnOk P w K mg base CX0 1 f fd ["f", "g"] (sp__law_times K) := by
  refine F.ok S__law_times (fun vs H Q E h => ?_) (fun cdv A outer s H vs Q E hr h => ?_)
  · obtain ⟨a, b, f, g, m, n, rfl, _⟩ := h
    rfl
  obtain ⟨a, b, f, g, m, n, rfl, hS, hS', hl, hf, hg, hmn, q⟩ := h
  have S := S__law_times
  refine ⟨_, ((pss_cons (ps_set (i := 2) S.nd rfl (Or.inl rfl) (pe_op op_rep (pe_lst (pa_cons pe_int pa_nil)) (pe_op op_sub (pe_op op_add (pe_callB call_len_seq rfl B.b_len PySem.boot_len (pa_cons (pv 0) pa_nil)) (pe_callB call_len_seq rfl B.b_len PySem.boot_len (pa_cons (pv 1) pa_nil))) pe_int)))
    (pss_cons (ps_for PassesOwn.never rfl (pi_range1 rfl B.b_range (pa_cons (pe_callB call_len_seq rfl B.b_len PySem.boot_len (pa_cons (pv 0) pa_nil)) pa_nil)) (pg_name (i := 3) S.nd rfl (Or.inl rfl)) (pss_one (ps_for PassesOwn.never rfl (pi_range1 rfl B.b_range (pa_cons (pe_callB call_len_seq rfl B.b_len PySem.boot_len (pa_cons (pv 1) pa_nil)) pa_nil)) (pg_name (i := 4) S.nd rfl (Or.inl rfl)) (pss_one (ps_asg (pe_op op_add (pe_ix ix_list (pv 2) (pe_op op_add (pv 3) (pv 4)) (fun _ _ => rfl)) (pe_op op_mulW (pe_ix ix_list (pv 0) (pv 3) (fun _ _ => rfl)) (pe_ix ix_list (pv 1) (pv 4) (fun _ _ => rfl)))) (pg_sub (pv 2) (pe_op op_add (pv 3) (pv 4)) set_list))))))
    (pss_one (ps_ret (pv 2)))))), ?_⟩
  try walk_at "dr1"
  refine ⟨by decide, ?_⟩
  intro l0 n_l0; generalize e_l0 : upd _ l0 _ = H1; obtain ⟨g1, k1⟩ := newH e_l0 n_l0; clear e_l0
  refine ⟨_, .inl (g1.seq hS), _, .inl (g1.seq hS'), ?_⟩
  simp only [List.length_map]
  refine ⟨_, k1, by omega, by omega, by simp only [List.length_cons, List.length_nil]; unfold sizeLine; omega, ?_⟩
  intro l n_l; generalize e_l : upd _ l _ = H2; obtain ⟨g2, k2⟩ := newH e_l n_l; clear e_l
  rw [rep_zero] at k2
  have g12 := g1.trans g2
  have nl : H l = none := g1.free n_l
  refine ⟨_, .inl (g12.seq hS), by simp only [List.length_map]; omega, by simp only [List.length_map]; omega, ?_⟩
  obtain ⟨M, hM⟩ : ∃ M : Nat, M = 2 ^ (m + n) := ⟨_, rfl⟩
  obtain ⟨Pv, hPv⟩ : ∃ Pv : Nat → St → Hp → Prop, ∀ i σ H3, Pv i σ H3 ↔ (Same H H3 ∧ ∃ (r : List Int) (t3 t4 : Option V), r.length + 1 = f.length + g.length ∧ (∀ c, c ∈ r → c.natAbs ≤ i * g.length * M) ∧ (∀ x, Dr.pev r x = Dr.pev (f.take i) x * Dr.pev g x) ∧ H3 l = some (.lst (r.map V.int)) ∧ σ = [some (.ref a), some (.ref b), some (.ref l), t3, t4]) := ⟨_, fun _ _ _ => Iff.rfl⟩
  refine forR Pv ((hPv _ _ _).mpr ⟨g12, _, none, none, by rw [List.length_replicate]; omega, fun c hc => by rw [(List.mem_replicate.mp hc).2]; simp, fun x => by rw [Dr.pev_zeros]; simp [Dr.pev], k2, rfl⟩) ?_ ?_
  · intro i σ H3 hi z
    obtain ⟨g3, r, t3, t4, hrl, hrb, hre, k3, rfl⟩ := (hPv _ _ _).mp z
    simp only [List.length_map, Int.toNat_natCast] at hi
    obtain ⟨c, hc⟩ : ∃ c, f[i]? = some c := ⟨_, List.getElem?_eq_getElem hi⟩
    have ac : atI (f.map V.int) (0 + (i : Int)) = some (.int c) := by
      rw [Int.zero_add]
      exact atI_nat (by rw [List.getElem?_map, hc]; rfl)
    try walk_at "dr1"
    refine ⟨_, .inl (g3.seq hS'), by simp only [List.length_map]; omega, by simp only [List.length_map]; omega, ?_⟩
    obtain ⟨Pw, hPw⟩ : ∃ Pw : Nat → St → Hp → Prop, ∀ j σ H5, Pw j σ H5 ↔ (Same H H5 ∧ ∃ (r : List Int) (t4 : Option V), r.length + 1 = f.length + g.length ∧ (∀ c, c ∈ r → c.natAbs ≤ (i * g.length + j) * M) ∧ (∀ x, Dr.pev r x = Dr.pev (f.take i) x * Dr.pev g x + c * x ^ i * Dr.pev (g.take j) x) ∧ H5 l = some (.lst (r.map V.int)) ∧ σ = [some (.ref a), some (.ref b), some (.ref l), some (.int (0 + (i : Int))), t4]) := ⟨_, fun _ _ _ => Iff.rfl⟩
    refine forR Pw ((hPw _ _ _).mpr ⟨g3, r, t4, hrl, hrb, fun x => by rw [hre]; simp [Dr.pev], k3, rfl⟩) ?_ ?_
    · intro j σ H5 hj z
      obtain ⟨g5, r, t4, hrl, hrb, hre, k5, rfl⟩ := (hPw _ _ _).mp z
      simp only [List.length_map, Int.toNat_natCast] at hj
      obtain ⟨d, hd⟩ : ∃ d, g[j]? = some d := ⟨_, List.getElem?_eq_getElem hj⟩
      have ad : atI (g.map V.int) (0 + (j : Int)) = some (.int d) := by
        rw [Int.zero_add]
        exact atI_nat (by rw [List.getElem?_map, hd]; rfl)
      obtain ⟨v, e1, e2, e3, _⟩ := get_int (fs := r) (k := 0 + (i : Int) + (0 + (j : Int))) (by omega) (by omega)
      have hcd : (c * d).natAbs ≤ M := by
        rw [hM]
        exact Nat.le_of_lt ((hf c (List.mem_of_getElem? hc)).mul (hg d (List.mem_of_getElem? hd)))
      try walk_at "dr1"
      refine ⟨_, SqL.of k5, _, e2, _, g5.seq hS, _, ac, _, g5.seq hS', _, ad, c, rfl, d, rfl, mulSm (hf c (List.mem_of_getElem? hc)) (hg d (List.mem_of_getElem? hd)) (by omega), v, rfl, _, k5, _, e3, ?_⟩
      rw [set_int]
      have eij : (0 + (i : Int) + (0 + (j : Int))).toNat = i + j := by omega
      rw [eij] at e1 ⊢
      refine (hPw _ _ _).mpr ⟨g5.up nl _, _, _, by rw [List.length_set]; exact hrl, fun e he => ?_, fun x => ?_, upd_same, rfl⟩
      · rcases mem_set he with w | w
        · exact Nat.le_trans (hrb e w) (Nat.mul_le_mul_right _ (Nat.le_succ _))
        · rw [w]
          exact steps (hrb v (List.mem_of_getElem? e1)) hcd
      · rw [Dr.pev_set x (c * d) r (i + j) v e1, hre, Dr.pev_take_succ hd, Dr.pow_add']
        generalize x ^ i = X
        generalize x ^ j = Y
        grind
    · intro σ H5 z
      obtain ⟨g5, r, t4, hrl, hrb, hre, k5, rfl⟩ := (hPw _ _ _).mp z
      simp only [List.length_map, Int.toNat_natCast] at hrb hre
      refine (hPv _ _ _).mpr ⟨g5, r, _, _, hrl, fun c hc => ?_, fun x => ?_, k5, rfl⟩
      · rw [Nat.succ_mul]
        exact hrb c hc
      · rw [hre, List.take_length, Dr.pev_take_succ hc]
        grind
  · intro σ H3 z
    obtain ⟨g3, r, t3, t4, hrl, hrb, hre, k3, rfl⟩ := (hPv _ _ _).mp z
    simp only [List.length_map, Int.toNat_natCast] at hrb hre
    try walk_at "dr1"
    rw [List.take_length] at hre
    refine q l r H3 ⟨hrl, hre⟩ (fun c hc => ?_) nl g3 k3
    have h1 := hrb c hc
    have h2 : f.length * g.length * M ≤ 3600 * M := Nat.mul_le_mul_right _ (Nat.mul_le_mul (show f.length ≤ 60 by omega) (show g.length ≤ 60 by omega))
    show c.natAbs < 2 ^ (m + n + 12)
    rw [Nat.pow_add, ← hM]
    have : (2 : Nat) ^ 12 = 4096 := by decide
    have : 0 < M := by rw [hM]; exact Nat.pow_pos (by decide)
    omega
def sp__law_number (_ : PySem.W.Frag) : Sp := fun vs H Q _ => ∃ (p c : Int), vs = [.int p, .int c] ∧ (2 ≤ p ∧ p < 1000) ∧ Sh c ∧ ∀ n : Int, Dr.Sm n 500 → Q (.int n) H
theorem ok__law_number (B : Bi mg K) (F : Fun K "_law_number" "_law_number" s__law_number f fd) : FnOk P w K mg base CX0 1 f fd ["p", "cell"] (sp__law_number K) := by
  refine F.ok S__law_number (fun vs H Q E h => ?_) (fun cdv A outer s H vs Q E hr h => ?_)
  · obtain ⟨p, c, rfl, _⟩ := h
    rfl
  obtain ⟨p, c, rfl, hp, hc, q⟩ := h
  have S := S__law_number
  have e11 : (10 : Int) ^ (11 : Int).toNat = 100000000000 := by decide
  have e12 : (10 : Int) ^ (12 : Int).toNat = 1000000000000 := by decide
  have m20 := mod_in (c / 4 * (100000000000 + 3)) (show (0 : Int) < 2 * 1000000000000 + 1 by decide)
  have bp : Dr.Sm p 10 := sm_of 1000 (by omega) (by decide)
  refine ⟨_, ((pss_cons (ps_if (pt_cmpR op_eq (pe_op op_mod (pv 1) pe_int) pe_int (nomark _)) (pss_one (ps_ret pe_int)) pss_nil)
    (pss_cons (ps_set (i := 2) S.nd rfl (Or.inl rfl) (pe_op op_sub (pe_op op_mod (pe_op op_mulW (pe_op op_fdivW (pv 1) pe_int) (pe_op op_add (pe_op op_pow pe_int pe_int) pe_int)) (pe_op op_add (pe_op op_mulW pe_int (pe_op op_pow pe_int pe_int)) pe_int)) (pe_op op_pow pe_int pe_int)))
    (pss_cons (ps_join (ps_if (pt_cmpR op_eq (pe_op op_mod (pv 1) pe_int) pe_int (nomark _)) (pss_one (ps_set (i := 2) S.nd rfl (Or.inl rfl) (pe_op op_sub (pe_op op_mod (pe_op op_fdivW (pe_op op_fdivW (pv 1) pe_int) pe_int) pe_int) pe_int))) pss_nil))
    (pss_cons (ps_join (ps_if (pt_cmpR op_eq (pe_op op_mod (pv 2) (pv 0)) pe_int (nomark _)) (pss_one (ps_set (i := 2) S.nd rfl (Or.inl rfl) (pe_op op_add (pv 2) pe_int))) pss_nil))
    (pss_cons (ps_set (i := 3) S.nd rfl (Or.inl rfl) (pe_op op_mod (pe_op op_fdivW (pv 1) pe_int) pe_int))
    (pss_cons (ps_join (ps_if (pt_cmpR op_eq (pe_op op_mod (pe_op op_fdivW (pv 1) pe_int) pe_int) pe_int (nomark _)) (pss_one (ps_set (i := 3) S.nd rfl (Or.inl rfl) (pe_op op_mod (pe_op op_fdivW (pv 1) pe_int) pe_int))) pss_nil))
    (pss_cons (ps_for PassesOwn.never rfl (pi_range1 rfl B.b_range (pa_cons (pv 3) pa_nil)) (pg_name (i := 4) S.nd rfl (Or.inl rfl)) (pss_one (ps_set (i := 2) S.nd rfl (Or.inl rfl) (pe_op op_mulW (pv 2) (pv 0)))))
    (pss_one (ps_ret (pv 2))))))))))), ?_⟩
  (try dsimp only); (first | refine seqI ?_ | skip); try walk_at "dr2"
  refine ite2 (fun _ => q 0 (Dr.Sm.zero _)) (fun _ => ?_)
  (try dsimp only); (first | refine seqI ?_ | skip); try walk_at "dr2"
  rw [e11, e12]
  refine ⟨⟨by decide, by decide⟩, ⟨by decide, by decide, by decide⟩, mulSm (smSh (sh_div hc (by decide))) (n := 64) (by unfold Dr.Sm; decide) (by decide), ⟨by decide, by decide, by decide⟩, IntMulOk.of_left (by decide), by decide, ⟨by decide, by decide, by decide⟩, ?_⟩
  refine seqI ?_
  obtain ⟨R, hR⟩ : ∃ R : St → Hp → Prop, ∀ σ' H8, R σ' H8 ↔ (H8 = H ∧ ∃ nb : Int, (-1000000000000 ≤ nb ∧ nb ≤ 1000000000000) ∧ σ' = [some (.int p), some (.int c), some (.int nb), none, none]) := ⟨_, fun _ _ => Iff.rfl⟩
  refine joinB R ?_ ?_
  · try walk_at "dr1"
    have m41 := mod_in (c / 4 / 10) (show (0 : Int) < 41 by decide)
    exact ite2 (fun _ => ⟨⟨by decide, by decide⟩, ⟨by decide, by decide⟩, (hR _ _).mpr ⟨rfl, _, by omega, rfl⟩⟩) (fun _ => (hR _ _).mpr ⟨rfl, _, by omega, rfl⟩)
  intro σ' H8 z
  obtain ⟨rfl, nb, bnb, rfl⟩ := (hR _ _).mp z
  clear hR z
  refine seqI ?_
  obtain ⟨R, hR⟩ : ∃ R : St → Hp → Prop, ∀ σ' H9, R σ' H9 ↔ (H9 = H8 ∧ ∃ nb : Int, (-1000000000000 ≤ nb ∧ nb ≤ 1000000000001) ∧ σ' = [some (.int p), some (.int c), some (.int nb), none, none]) := ⟨_, fun _ _ => Iff.rfl⟩
  refine joinB R ?_ ?_
  · try walk_at "dr1"
    exact ⟨by omega, ite2 (fun _ => (hR _ _).mpr ⟨rfl, _, by omega, rfl⟩) (fun _ => (hR _ _).mpr ⟨rfl, _, by omega, rfl⟩)⟩
  intro σ' H9 z
  obtain ⟨rfl, nb2, bnb2, rfl⟩ := (hR _ _).mp z
  clear hR z
  have m10 := mod_in (c / 4) (show (0 : Int) < 10 by decide)
  have m37 := mod_in (c / 320) (show (0 : Int) < 37 by decide)
  (try dsimp only); (first | refine seqI ?_ | skip); try walk_at "dr2"
  refine ⟨⟨by decide, by decide⟩, ?_⟩
  refine seqI ?_
  obtain ⟨R, hR⟩ : ∃ R : St → Hp → Prop, ∀ σ' H10, R σ' H10 ↔ (H10 = H9 ∧ ∃ hi : Int, (0 ≤ hi ∧ hi ≤ 36) ∧ σ' = [some (.int p), some (.int c), some (.int nb2), some (.int hi), none]) := ⟨_, fun _ _ => Iff.rfl⟩
  refine joinB R ?_ ?_
  · try walk_at "dr1"
    exact ⟨⟨by decide, by decide⟩, ite2 (fun _ => ⟨⟨by decide, by decide⟩, (hR _ _).mpr ⟨rfl, _, by omega, rfl⟩⟩) (fun _ => (hR _ _).mpr ⟨rfl, _, by omega, rfl⟩)⟩
  intro σ' H10 z
  obtain ⟨rfl, hi, bhi, rfl⟩ := (hR _ _).mp z
  clear hR z
  (try dsimp only); (first | refine seqI ?_ | skip); try walk_at "dr2"
  refine ⟨by omega, by omega, ?_⟩
  obtain ⟨Pv, hPv⟩ : ∃ Pv : Nat → St → Hp → Prop, ∀ i σ H1, Pv i σ H1 ↔ (H1 = H10 ∧ ∃ (n : Int) (t4 : Option V), Dr.Sm n (41 + 10 * i) ∧ σ = [some (.int p), some (.int c), some (.int n), some (.int hi), t4]) := ⟨_, fun _ _ _ => Iff.rfl⟩
  refine forR Pv ((hPv _ _ _).mpr ⟨rfl, nb2, none, sm_of 1000000000001 (by omega) (by decide), rfl⟩) ?_ ?_
  · intro i σ H1 hlt z
    obtain ⟨rfl, n, t4, bn, rfl⟩ := (hPv _ _ _).mp z
    try walk_at "dr1"
    exact ⟨mulSm bn bp (by omega), (hPv _ _ _).mpr ⟨rfl, _, _, (bn.mul bp).mono (by omega), rfl⟩⟩
  · intro σ H1 z
    obtain ⟨rfl, n, t4, bn, rfl⟩ := (hPv _ _ _).mp z
    try walk_at "dr1"
    exact q n (bn.mono (by omega))
def sp__law_poly (K : PySem.W.Frag) : Sp := fun vs H Q _ => ∃ (p : Int) (a : Addr) (cs : List Int), vs = [.int p, .ref a] ∧ SqL K H a (cs.map V.int) ∧ (2 ≤ p ∧ p < 1000) ∧ (1 ≤ cs.length ∧ cs.length ≤ 7) ∧ (∀ c, c ∈ cs → Sh c) ∧
  ∀ (l : Addr) (f : List Int) (H' : Hp), f.length = cs.length → Dr.PolyB f 500 → (∃ x, x ∈ f ∧ x ≠ 0) → Same H H' → H' l = some (.lst (f.map V.int)) → Q (.ref l) H'
theorem ok__law_poly (B : Bi mg K) (d__law_number : Def P w K mg base "_law_number" 1 ["p", "cell"] (sp__law_number K)) (F : Fun K "_law_poly" "_law_poly" s__law_poly f fd) : FnOk P w K mg base CX0 2 f fd ["p", "cells"] (sp__law_poly K) := by
  refine F.ok S__law_poly (fun vs H Q E h => ?_) (fun cdv A outer s H vs Q E hr h => ?_)
  · obtain ⟨p, a, cs, rfl, _⟩ := h
    rfl
  obtain ⟨p, a, cs, rfl, hS, hp, hl, hc, q⟩ := h
  have S := S__law_poly
  refine ⟨_, ((pss_cons (ps_comp [0] ["p"] rfl S.nd (k := 2) rfl rfl rfl rfl ⟨rfl, trivial⟩ ⟨rfl, rfl, rfl, rfl, trivial⟩ rfl rfl (by decide) (by decide) rfl rfl (by decide) (pi_list (pv 1)) (fun _ _ _ _ => pts_nil) (fun _ _ _ _ => (pe_def d__law_number hr rfl (pa_cons (pv 1) (pa_cons (pv 0) pa_nil)))))
    (pss_cons (ps_if (pt_cmpR (op_eqD hr.units) (pe_comp [] [] rfl rfl trivial trivial rfl rfl (by decide) (by decide) rfl rfl (by decide) (pi_list (pv 2)) (fun _ _ _ _ => (pts_one (pt_cmpR op_ne (pv 0) pe_int (nomark _)))) (fun _ _ _ _ => (pv 0))) (pe_lst pa_nil) (nomark _)) (pss_one (ps_ret (pe_op op_cat (pe_lst (pa_cons pe_int pa_nil)) (pe_slice sl_list (pv 2) (po_some pe_int) po_none)))) pss_nil)
    (pss_one (ps_ret (pv 2)))))), ?_⟩
  (try dsimp only); (first | refine seqI ?_ | skip); try walk_at "dr2"; (try simp only [sp__law_number]); try walk_at "dr2"
  refine ⟨⟨_, hS⟩, ?_⟩
  obtain ⟨Pc, hPc⟩ : ∃ Pc : Nat → List V → Hp → Prop, ∀ i ys H1, Pc i ys H1 ↔ (H1 = H ∧ ∃ fs : List Int, ys = fs.map V.int ∧ fs.length = i ∧ Dr.PolyB fs 500) := ⟨_, fun _ _ _ => Iff.rfl⟩
  refine compI cs Pc (by unfold sizeLine; omega) ((hPc _ _ _).mpr ⟨rfl, [], rfl, rfl, fun _ h => nomatch h⟩) (fun i ys H1 z => by obtain ⟨rfl, _⟩ := (hPc _ _ _).mp z; exact hS) ?_ ?_
  · intro i x ys H1 hx z
    obtain ⟨rfl, fs, rfl, hfl, hfb⟩ := (hPc _ _ _).mp z
    try walk_at "dr1"; (try simp only [sp__law_number]); try walk_at "dr1"
    refine ⟨hp.1, hp.2, hc x (List.mem_of_getElem? hx), fun n hn => (hPc _ _ _).mpr ⟨rfl, fs ++ [n], by rw [List.map_append]; rfl, by rw [List.length_append, hfl]; rfl, fun y hy => ?_⟩⟩
    rcases List.mem_append.mp hy with w | w
    · exact hfb y w
    · rw [List.mem_singleton.mp w]; exact hn
  intro ys H1 z
  obtain ⟨rfl, fs, rfl, hfl, hfb⟩ := (hPc _ _ _).mp z
  clear hPc z
  intro lf n_lf; generalize e_lf : upd _ lf _ = H2; obtain ⟨g2, k2⟩ := newH e_lf n_lf; clear e_lf
  (try dsimp only); (first | refine seqI ?_ | skip); try walk_at "dr2"; (try simp only [sp__law_number]); try walk_at "dr2"
  refine ⟨⟨_, SqL.of k2⟩, ?_⟩
  obtain ⟨Pc, hPc⟩ : ∃ Pc : Nat → List V → Hp → Prop, ∀ j ys Hx, Pc j ys Hx ↔ (Hx = H2 ∧ ys = ((fs.take j).filter fun x => !decide (x = 0)).map V.int) := ⟨_, fun _ _ _ => Iff.rfl⟩
  refine compI fs Pc (by unfold sizeLine; omega) ((hPc _ _ _).mpr ⟨rfl, rfl⟩) (fun j ys Hx z => by obtain ⟨rfl, _⟩ := (hPc _ _ _).mp z; exact SqL.of k2) ?_ ?_
  · intro j x ys Hx hx z
    obtain ⟨rfl, rfl⟩ := (hPc _ _ _).mp z
    have tk : fs.take (j + 1) = fs.take j ++ [x] := by rw [List.take_add_one, hx]; rfl
    try walk_at "dr1"; (try simp only [sp__law_number]); try walk_at "dr1"
    by_cases c0 : x = 0
    · rw [if_neg (by simp [c0])]
      exact (hPc _ _ _).mpr ⟨rfl, by rw [tk, List.filter_append]; simp [c0]⟩
    · rw [if_pos (by simp [c0])]
      exact (hPc _ _ _).mpr ⟨rfl, by rw [tk, List.filter_append, List.map_append]; simp [c0]⟩
  intro ys Hx z
  obtain ⟨rfl, rfl⟩ := (hPc _ _ _).mp z
  clear hPc z
  rw [List.take_length]
  intro lr n_lr; generalize e_lr : upd _ lr _ = H3; obtain ⟨g3, k3⟩ := newH e_lr n_lr; clear e_lr
  refine ⟨by decide, ?_⟩
  intro le n_le; generalize e_le : upd _ le _ = H4; obtain ⟨g4, k4⟩ := newH e_le n_le; clear e_le
  refine eqL (ms := []) (SqL.of (g4 _ _ k3)) (SqL.of k4) ⟨_, rfl, ?_⟩
  have G4 := g2.trans (g3.trans g4)
  have kf4 := g4 _ _ (g3 _ _ k2)
  by_cases c0 : fs.filter (fun x => !decide (x = 0)) = []
  · rw [decide_eq_true c0, if_pos rfl]
    refine ⟨by decide, ?_⟩
    intro l5 n_l5; generalize e_l5 : upd _ l5 _ = H5; obtain ⟨g5, k5⟩ := newH e_l5 n_l5; clear e_l5
    refine ⟨_, SqL.of (g5 _ _ kf4), ?_⟩
    intro l6 n_l6; generalize e_l6 : upd _ l6 _ = H6; obtain ⟨g6, k6⟩ := newH e_l6 n_l6; clear e_l6
    rw [cut_from V.int _ (by decide)] at k6
    refine ⟨_, g6 _ _ k5, _, k6, by simp only [List.length_map, List.length_drop, List.length_cons, List.length_nil]; unfold sizeLine; omega, ?_⟩
    intro l7 n_l7; generalize e_l7 : upd _ l7 _ = H7; obtain ⟨g7, k7⟩ := newH e_l7 n_l7; clear e_l7
    refine q l7 (1 :: fs.drop 1) H7 (by simp only [List.length_cons, List.length_drop]; omega) (fun y hy => ?_) ⟨1, by simp, by decide⟩ (G4.trans (g5.trans (g6.trans g7))) k7
    rcases List.mem_cons.mp hy with w | w
    · rw [w]; exact sm_of 1 (by decide) (Nat.one_lt_two_pow (by decide))
    · exact hfb y (List.mem_of_mem_drop w)
  · rw [decide_eq_false c0, if_neg (by decide)]
    refine q lf fs H4 hfl hfb (Classical.byContradiction fun z => c0 ?_) G4 kf4
    rw [List.filter_eq_nil_iff]
    intro x hx w
    exact z ⟨x, hx, by simpa using w⟩
structure DI (A F L : List (Int × Int)) : Prop where
  bor : Dr.Border F
  pos : ∀ y, y ∈ L → 0 < y.1
  sep : ∀ u, u ∈ F → ∀ y, y ∈ L → Dr.Stp u y
  sum : ∀ v : Int × Int, 0 < v.1 → Dr.csum v A = Dr.pls (Dr.csum v F) (Dr.csum v L)
  tot : Dr.tot F + Dr.tot L ≤ Dr.tot A
  len : F.length + L.length ≤ A.length
structure TI (best : Int × Int) (T rest : List (Int × Int)) (s : Int × Int) : Prop where
  sub : ∀ y, y ∈ rest → y ∈ T ∧ Dr.Stp best y
  par : Dr.Par best s
  nn : 0 ≤ s.1
  hav : ∀ y, y ∈ T → ¬ Dr.Stp best y → 0 < s.1
  sum : ∀ v : Int × Int, 0 < v.1 → Dr.csum v T = Dr.pls (if Dr.Par best v then s else (0, 0)) (Dr.csum v rest)
  tot : Dr.tot [s] + Dr.tot rest ≤ Dr.tot T
  len : rest.length ≤ T.length
  ltn : ∀ y, y ∈ T → ¬ Dr.Stp best y → rest.length < T.length
theorem TI.nil (best : Int × Int) : TI best [] [] (0, 0) := ⟨fun _ h => (nomatch h), by unfold Dr.Par; simp, by decide, fun _ h => (nomatch h), fun v _ => by simp [Dr.csum, Dr.pls], by simp [Dr.tot], Nat.le_refl _, fun _ h => (nomatch h)⟩
theorem TI.more {best s y : Int × Int} {T rest : List (Int × Int)} (h : TI best T rest s) (hb : 0 < best.1) (hy : 0 < y.1) (st : Dr.Stp best y) : TI best (T ++ [y]) (rest ++ [y]) s := by
  refine ⟨fun z hz => ?_, h.par, h.nn, fun z hz ns => ?_, fun v hv => ?_, ?_, ?_, fun z hz ns => ?_⟩
  · rcases List.mem_append.mp hz with w | w
    · exact ⟨List.mem_append.mpr (.inl (h.sub z w).1), (h.sub z w).2⟩
    · rw [List.mem_singleton.mp w]; exact ⟨by simp, st⟩
  · rcases List.mem_append.mp hz with w | w
    · exact h.hav z w ns
    · rw [List.mem_singleton.mp w] at ns; exact absurd st ns
  · rw [Dr.csum_append, Dr.csum_append, h.sum v hv, pls_assoc]
  · rw [Dr.tot_append, Dr.tot_append]; have := h.tot; omega
  · rw [List.length_append, List.length_append]; have := h.len; omega
  · rcases List.mem_append.mp hz with w | w
    · rw [List.length_append, List.length_append]; have := h.ltn z w ns; omega
    · rw [List.mem_singleton.mp w] at ns; exact absurd st ns
theorem TI.same {best s y : Int × Int} {T rest : List (Int × Int)} (h : TI best T rest s) (hb : 0 < best.1) (hy : 0 < y.1) (hp : Dr.Par best y) : TI best (T ++ [y]) rest (s.1 + y.1, s.2 + y.2) := by
  have nn := h.nn
  refine ⟨fun z hz => ⟨List.mem_append.mpr (.inl (h.sub z hz).1), (h.sub z hz).2⟩, ?_, ?_, fun _ _ _ => ?_, fun v hv => ?_, ?_, ?_, fun _ _ _ => ?_⟩
  · have h1 := h.par
    unfold Dr.Par at h1 hp ⊢
    show best.2 * (s.1 + y.1) = (s.2 + y.2) * best.1
    rw [Int.mul_add, Int.add_mul, h1, hp]
  · show 0 ≤ s.1 + y.1
    omega
  · show 0 < s.1 + y.1
    omega
  · rw [Dr.csum_append, h.sum v hv]
    simp only [Dr.csum]
    by_cases w : Dr.Par best v
    · rw [if_pos w, if_pos w, if_pos (hp.symm.trans hb w)]
      simp only [Dr.pls]
      ext <;> simp <;> omega
    · rw [if_neg w, if_neg w, if_neg fun z => w (hp.trans hy z)]
      simp [Dr.pls]
  · have := h.tot
    rw [Dr.tot_append]
    simp only [Dr.tot] at this ⊢
    omega
  · rw [List.length_append]; have := h.len; omega
  · rw [List.length_append]; have := h.len; simp only [List.length_cons, List.length_nil]; omega
theorem DI.next {A F L rest : List (Int × Int)} {best s : Int × Int} (h : DI A F L) (hb : best ∈ L) (hl : ∀ y, y ∈ L → ¬ Dr.Stp y best) (t : TI best L rest s) : DI A (F ++ [s]) rest ∧ rest.length < L.length := by
  have b0 := h.pos best hb
  have s0 : 0 < s.1 := t.hav best hb (Dr.stp_irr best)
  have nb : best ∉ rest := fun z => Dr.stp_irr best (t.sub best z).2
  have hsub : ∀ v : Int × Int, 0 < v.1 → Dr.Par best v → Dr.csum v rest = (0, 0) := fun v hv hp => Dr.csum_none fun x hx hx2 => Dr.stp_npar (t.sub x hx).2 (hp.trans hv hx2.symm)
  refine ⟨⟨⟨?_, ?_⟩, fun y hy => h.pos y (t.sub y hy).1, fun u hu y hy => ?_, fun v hv => ?_, ?_, ?_⟩, ?_⟩
  · refine List.pairwise_append.mpr ⟨h.bor.inc, List.pairwise_singleton .., fun u hu y hy => ?_⟩
    rw [List.mem_singleton.mp hy]
    exact (h.sep u hu best hb).par (h.bor.pos u hu) b0 s0 t.par
  · intro u hu
    rcases List.mem_append.mp hu with w | w
    · exact h.bor.pos u w
    · rw [List.mem_singleton.mp w]; exact s0
  · rcases List.mem_append.mp hu with w | w
    · exact h.sep u w y (t.sub y hy).1
    · rw [List.mem_singleton.mp w]
      exact t.par.symm.stp s0 b0 (h.pos y (t.sub y hy).1) (t.sub y hy).2
  · rw [h.sum v hv, Dr.csum_append, t.sum v hv, pls_assoc]
    congr 2
    simp only [Dr.csum]
    by_cases w : Dr.Par best v
    · rw [if_pos w, if_pos (t.par.symm.trans b0 w)]
      simp
    · rw [if_neg w, if_neg fun z => w (t.par.trans s0 z)]
  · have := h.tot
    have := t.tot
    rw [Dr.tot_append]
    omega
  · have := h.len
    have := t.ltn best hb (Dr.stp_irr best)
    rw [List.length_append]
    simp only [List.length_cons, List.length_nil]
    omega
  · exact t.ltn best hb (Dr.stp_irr best)
theorem least_more {L : List (Int × Int)} {i : Nat} {best y : Int × Int} (hp : ∀ z, z ∈ L → 0 < z.1) (hb : best ∈ L) (hy : L[i]? = some y) (h : ∀ z, z ∈ L.take i → ¬ Dr.Stp z best) : (Dr.Stp y best → ∀ z, z ∈ L.take (i + 1) → ¬ Dr.Stp z y) ∧ (¬ Dr.Stp y best → ∀ z, z ∈ L.take (i + 1) → ¬ Dr.Stp z best) := by
  have y0 := hp y (List.mem_of_getElem? hy)
  have b0 := hp best hb
  have e : L.take (i + 1) = L.take i ++ [y] := by rw [List.take_add_one, hy]; rfl
  refine ⟨fun st z hz w => ?_, fun st z hz w => ?_⟩
  · rw [e] at hz
    rcases List.mem_append.mp hz with u | u
    · exact h z u (w.trans (hp z (List.mem_of_mem_take u)) y0 b0 st)
    · rw [List.mem_singleton.mp u] at w; exact Dr.stp_irr y w
  · rw [e] at hz
    rcases List.mem_append.mp hz with u | u
    · exact h z u w
    · rw [List.mem_singleton.mp u] at w; exact st w
def tsum : List (Int × Int) → Int × Int
  | [] => (0, 0)
  | s :: L => Dr.pls s (tsum L)
theorem tsum_append : ∀ L M : List (Int × Int), tsum (L ++ M) = Dr.pls (tsum L) (tsum M)
  | [], M => by simp [tsum, Dr.pls]
  | s :: L, M => by
    simp only [List.cons_append, tsum]
    rw [tsum_append L M, pls_assoc]
theorem tsum_sums : ∀ L : List (Int × Int), tsum L = ((L.map fun s => s.1).sum, (L.map fun s => s.2).sum)
  | [] => rfl
  | s :: L => by
    simp only [tsum, List.map_cons, List.sum_cons]
    rw [tsum_sums L]
    rfl
theorem TI.split {best : Int × Int} {L : List (Int × Int)} (hb : 0 < best.1) (hp : ∀ y, y ∈ L → 0 < y.1) (hl : ∀ y, y ∈ L → ¬ Dr.Stp y best) : ∀ i, TI best (L.take i) ((L.take i).filter fun y => !decide (Dr.Par y best)) (tsum ((L.take i).filter fun y => decide (Dr.Par y best)))
  | 0 => TI.nil best
  | i + 1 => by
    have ih := TI.split hb hp hl i
    by_cases hi : i < L.length
    · have e : L.take (i + 1) = L.take i ++ [L[i]] := by rw [List.take_add_one, List.getElem?_eq_getElem hi]; rfl
      have hm : L[i] ∈ L := List.getElem_mem hi
      rw [e, List.filter_append, List.filter_append]
      by_cases c : Dr.Par L[i] best
      · have := ih.same hb (hp _ hm) c.symm
        simp only [List.filter_cons, List.filter_nil, decide_eq_true c, Bool.not_true, if_true, Bool.false_eq_true, if_false, List.append_nil]
        rw [tsum_append]
        have e2 : Dr.pls (tsum ((L.take i).filter fun y => decide (Dr.Par y best))) (tsum [L[i]]) = ((tsum ((L.take i).filter fun y => decide (Dr.Par y best))).1 + L[i].1, (tsum ((L.take i).filter fun y => decide (Dr.Par y best))).2 + L[i].2) := by simp [tsum, Dr.pls]
        rw [e2]
        exact this
      · have st : Dr.Stp best L[i] := Decidable.byContradiction fun z => c (Dr.par_of (hl _ hm) z)
        have := ih.more hb (hp _ hm) st
        simp only [List.filter_cons, List.filter_nil, decide_eq_false c, Bool.not_false, if_true, Bool.false_eq_true, if_false, List.append_nil]
        exact this
    · rw [List.take_of_length_le (by omega)] at ih
      rw [List.take_of_length_le (by omega)]
      exact ih
def sp__law_due (K : PySem.W.Frag) : Sp := fun vs H Q _ => ∃ (x : Addr) (ax : List Addr) (A : List (Int × Int)), vs = [.ref x] ∧ H x = some (.lst (ax.map V.ref)) ∧ PairsI H ax A ∧ (∀ u, u ∈ A → 0 < u.1) ∧ A.length ≤ 70 ∧ Dr.tot A < 2 ^ 1900 ∧
  ∀ (c : Addr) (as : List Addr) (R : List (Int × Int)) (H' : Hp), H c = none → Same H H' → H' c = some (.lst (as.map V.ref)) → PairsI H' as R → Dr.Border R → (∀ v : Int × Int, 0 < v.1 → Dr.csum v R = Dr.csum v A) → R.length ≤ 70 → Q (.ref c) H'
theorem ok__law_due (B : Bi mg K) (F : Fun K "_law_due" "_law_due" s__law_due f fd) : FnOk P w K mg base CX0 1 f fd ["sides"] (sp__law_due K) := by
  refine F.ok S__law_due (fun vs H Q E h => ?_) (fun cdv A outer s H vs Q E hr h => ?_)
  · obtain ⟨x, ax, A, rfl, _⟩ := h
    rfl
  obtain ⟨x, ax, A, rfl, hx, hPx, hpos, hl, ht, q⟩ := h
  have S := S__law_due
  refine ⟨_, ((pss_cons (ps_set (i := 1) S.nd rfl (Or.inl rfl) (pe_callTy call_list_of rfl B.b_list L2.bt_list (pa_cons (pv 0) pa_nil)))
    (pss_cons (ps_set (i := 2) S.nd rfl (Or.inl rfl) (pe_lst pa_nil))
    (pss_cons (ps_while PassesOwn.never (pt_cmpR (op_neD hr.units) (pv 1) (pe_lst pa_nil) (nomark _)) (pss_cons (ps_asg (pe_ix ix_list (pv 1) pe_int (fun _ _ => rfl)) (pg_tup rfl (pgs_cons (pg_name (i := 3) S.nd rfl (Or.inr rfl)) (pgs_cons (pg_name (i := 4) S.nd rfl (Or.inr rfl)) pgs_nil))))
    (pss_cons (ps_for PassesOwn.never rfl (pi_list (pv 1)) (pg_name (i := 5) S.nd rfl (Or.inl rfl)) (pss_one (ps_if (pt_cmpR op_lt (pe_op op_mulW (pe_ix ix_tup (pv 5) pe_int (fun _ _ => rfl)) (pv 3)) (pe_op op_mulW (pv 4) (pe_ix ix_tup (pv 5) pe_int (fun _ _ => rfl))) (nomark _)) (pss_one (ps_asg (pv 5) (pg_tup rfl (pgs_cons (pg_name (i := 3) S.nd rfl (Or.inr rfl)) (pgs_cons (pg_name (i := 4) S.nd rfl (Or.inr rfl)) pgs_nil))))) pss_nil)))
    (pss_cons (ps_comp [4, 3] ["rise", "run"] rfl S.nd (k := 6) rfl rfl rfl rfl ⟨rfl, rfl, trivial⟩ ⟨rfl, rfl, rfl, rfl, rfl, rfl, rfl, rfl, trivial⟩ rfl rfl (by decide) (by decide) rfl rfl (by decide) (pi_list (pv 1)) (fun _ _ _ _ => (pts_one (pt_cmpR op_eq (pe_op op_mulW (pe_ix (ix_tupK (K := K) rfl) (pv 0) pe_int (fun _ _ => rfl)) (pv 2)) (pe_op op_mulW (pv 1) (pe_ix (ix_tupK (K := K) rfl) (pv 0) pe_int (fun _ _ => rfl))) (nomark _)))) (fun _ _ _ _ => (pv 0)))
    (pss_cons (ps_comp [4, 3] ["rise", "run"] rfl S.nd (k := 1) rfl rfl rfl rfl ⟨rfl, rfl, trivial⟩ ⟨rfl, rfl, rfl, rfl, rfl, rfl, rfl, rfl, trivial⟩ rfl rfl (by decide) (by decide) rfl rfl (by decide) (pi_list (pv 1)) (fun _ _ _ _ => (pts_one (pt_cmpR op_ne (pe_op op_mulW (pe_ix (ix_tupK (K := K) rfl) (pv 0) pe_int (fun _ _ => rfl)) (pv 2)) (pe_op op_mulW (pv 1) (pe_ix (ix_tupK (K := K) rfl) (pv 0) pe_int (fun _ _ => rfl))) (nomark _)))) (fun _ _ _ _ => (pv 0)))
    (pss_one (ps_expr (pe_bm PySem.F.plainAttrs_list PySem.F.slot_list_append PySem.F.type_list_append mt_append (pv 2) (pa_cons (pe_tup (pa_cons (pe_callB (call_sumL rfl) rfl B.b_sum bt_sum (pa_cons (pe_comp [] [] rfl rfl trivial trivial rfl rfl (by decide) (by decide) rfl rfl (by decide) (pi_list (pv 6)) (fun _ _ _ _ => pts_nil) (fun _ _ _ _ => (pe_ix (ix_tupK (K := K) rfl) (pv 0) pe_int (fun _ _ => rfl)))) pa_nil)) (pa_cons (pe_callB (call_sumL rfl) rfl B.b_sum bt_sum (pa_cons (pe_comp [] [] rfl rfl trivial trivial rfl rfl (by decide) (by decide) rfl rfl (by decide) (pi_list (pv 6)) (fun _ _ _ _ => pts_nil) (fun _ _ _ _ => (pe_ix (ix_tupK (K := K) rfl) (pv 0) pe_int (fun _ _ => rfl)))) pa_nil)) pa_nil))) pa_nil)))))))))
    (pss_one (ps_ret (pv 2))))))), ?_⟩
  (try dsimp only); (first | refine seqI ?_ | skip); try walk_at "dr2"
  refine ⟨_, .inl (SqL.of hx), ?_⟩
  intro l1 n_l1; generalize e_l1 : upd _ l1 _ = H1; obtain ⟨g1, k1⟩ := newH e_l1 n_l1; clear e_l1
  have alx := hPx.1
  (try dsimp only); (first | refine seqI ?_ | skip); try walk_at "dr2"
  refine ⟨by decide, ?_⟩
  intro c n_c; generalize e_c : upd _ c _ = H4; obtain ⟨g4, k4⟩ := newH e_c n_c; clear e_c
  have nc : H c = none := by
    cases e : H c with
    | none => rfl
    | some o => rw [g1 _ _ e] at n_c; cases n_c
  have n3c : l1 ≠ c := fun z => by rw [z, n_c] at k1; cases k1
  have k34 := g4 _ _ k1
  have G4 := g1.trans g4
  have hPA := hPx.same G4
  clear k1 g1 g4 n_c
  obtain ⟨W, hW⟩ : ∃ W : Nat → St → Hp → Prop, ∀ m σ Hb, W m σ Hb ↔ (∃ (al : Addr) (aL : List Addr) (L : List (Int × Int)) (aF : List Addr) (Fd : List (Int × Int)) (t3 t4 t5 t6 : Option V), m = L.length ∧ Same H Hb ∧ Hb c = some (.lst (aF.map V.ref)) ∧ PairsI Hb aF Fd ∧ Hb al = some (.lst (aL.map V.ref)) ∧ PairsI Hb aL L ∧ al ≠ c ∧ DI A Fd L ∧ σ = [some (V.ref x), some (V.ref al), some (V.ref c), t3, t4, t5, t6]) := ⟨_, fun _ _ _ => Iff.rfl⟩
  refine seqI ?_
  refine whB W A.length ((hW _ _ _).mpr ⟨l1, ax, A, [], [], none, none, none, none, rfl, G4, k4, PairsI.nil _, k34, hPA, n3c, ⟨⟨.nil, fun _ h => nomatch h⟩, hpos, (fun _ h => nomatch h), fun v _ => by simp [Dr.csum, Dr.pls], by simp [Dr.tot], by simp⟩, rfl⟩) ?_
  clear k4 k34 hPA n3c G4
  intro m σ Hb z
  obtain ⟨al, aL, L, aF, Fd, t3, t4, t5, t6, rfl, gb, kc, hPF, kl, hPL, nlc, hD, rfl⟩ := (hW _ _ _).mp z
  (try dsimp only); (first | refine seqI ?_ | skip); try walk_at "dr2"
  refine ⟨by decide, ?_⟩
  intro e5 n_e5; generalize e_e5 : upd _ e5 _ = H5; obtain ⟨g5, k5⟩ := newH e_e5 n_e5; clear e_e5
  refine neP (gs := []) (cs := []) (SqL.of (g5 _ _ kl)) (hPL.same g5) (SqL.of k5) (PairsI.nil _) ?_
  have kc5 := g5 _ _ kc
  have kl5 := g5 _ _ kl
  have hPF5 := hPF.same g5
  have hPL5 := hPL.same g5
  have gb5 := gb.trans g5
  have hDl := hD.len
  have hDt := hD.tot
  clear g5 kc kl hPF hPL gb k5
  refine ⟨_, rfl, ?_⟩
  by_cases hL : L = []
  · rw [decide_eq_true hL]
    subst hL
    try walk_at "dr1"
    exact q c aF Fd _ nc gb5 kc5 hPF5 hD.bor (fun v hv => by rw [hD.sum v hv]; simp [Dr.csum, Dr.pls]) (by omega)
  rw [decide_eq_false hL]
  refine ⟨_, fun _ _ h => h, ?_⟩
  obtain ⟨fst, hfst⟩ : ∃ fst, L[0]? = some fst := by
    cases L with
    | nil => exact absurd rfl hL
    | cons u L => exact ⟨u, rfl⟩
  obtain ⟨fa, hfa, hkf⟩ := hPL5.at hfst
  have sm : ∀ u, u ∈ L → Dr.Sm u.1 1900 ∧ Dr.Sm u.2 1900 := fun u hu => Dr.tot_sm hu (by omega)
  (try dsimp only); (first | refine seqI ?_ | skip); try walk_at "dr2"
  have a0 : atI (aL.map V.ref) 0 = some (.ref fa) := atI_nat (j := 0) (by rw [List.getElem?_map, hfa]; rfl)
  refine ⟨_, SqL.of kl5, _, a0, fa, rfl, _, SqT.of hkf, rfl, _, _, rfl, _, _, rfl, rfl, ?_⟩
  (try dsimp only); (first | refine seqI ?_ | skip); try walk_at "dr2"
  refine ⟨⟨_, SqL.of kl5⟩, ?_⟩
  obtain ⟨P1, hP1⟩ : ∃ P1 : Nat → St → Hp → Prop, ∀ i σ Hc, P1 i σ Hc ↔ (Hc = H5 ∧ ∃ (best : Int × Int) (t5 : Option V), best ∈ L ∧ (∀ z, z ∈ L.take i → ¬ Dr.Stp z best) ∧ σ = [some (V.ref x), some (V.ref al), some (V.ref c), some (V.int best.1), some (V.int best.2), t5, t6]) := ⟨_, fun _ _ _ => Iff.rfl⟩
  refine forL (aL.map V.ref) P1 ((hP1 _ _ _).mpr ⟨rfl, fst, t5, List.mem_of_getElem? hfst, (fun _ h => nomatch h), rfl⟩) (fun i σ Hc _ z => by obtain ⟨rfl, _⟩ := (hP1 _ _ _).mp z; exact SqL.of kl5) ?_ ?_
  · intro i v σ Hc hv z
    obtain ⟨rfl, best, t5, hb, hlt, rfl⟩ := (hP1 _ _ _).mp z
    rw [List.getElem?_map] at hv
    obtain ⟨sa, hsa, rfl⟩ : ∃ sa, aL[i]? = some sa ∧ V.ref sa = v := by
      cases w : aL[i]? with
      | none => rw [w] at hv; cases hv
      | some sa => rw [w] at hv; exact ⟨sa, rfl, Option.some.inj hv⟩
    obtain ⟨sd, hsd, hks⟩ := hPL5.get hsa
    have b1 := sm sd (List.mem_of_getElem? hsd)
    have b2 := sm best hb
    have lm := least_more hD.pos hb hsd hlt
    try walk_at "dr1"
    refine ⟨_, SqT.of hks, _, rfl, _, rfl, mulSm b1.2 b2.1 (by decide), _, SqT.of hks, _, rfl, _, rfl, mulSm b2.2 b1.1 (by decide), ite2 (fun cs => ?_) (fun cs => ?_)⟩
    · exact ⟨_, SqT.of hks, rfl, _, _, rfl, _, _, rfl, rfl, (hP1 _ _ _).mpr ⟨rfl, sd, _, List.mem_of_getElem? hsd, lm.1 cs, rfl⟩⟩
    · exact (hP1 _ _ _).mpr ⟨rfl, best, _, hb, lm.2 cs, rfl⟩
  intro σ H5 z
  obtain ⟨rfl, best, t5, hb, hlt, rfl⟩ := (hP1 _ _ _).mp z
  have alL := hPL5.1
  rw [List.length_map, alL, List.take_length] at hlt
  clear hP1 z hfst hfa hkf
  have b0 := hD.pos best hb
  have b2 := sm best hb
  (try dsimp only); (first | refine seqI ?_ | skip); try walk_at "dr2"
  refine ⟨⟨_, SqL.of kl5⟩, ?_⟩
  obtain ⟨Pc, hPc⟩ : ∃ Pc : Nat → List V → Hp → Prop, ∀ i ys Hx, Pc i ys Hx ↔ (Hx = H5 ∧ ∃ as' : List Addr, ys = as'.map V.ref ∧ PairsI H5 as' ((L.take i).filter fun y => decide (Dr.Par y best))) := ⟨_, fun _ _ _ => Iff.rfl⟩
  refine compL (aL.map V.ref) Pc (by rw [List.length_map]; unfold sizeLine; omega) ((hPc _ _ _).mpr ⟨rfl, [], rfl, PairsI.nil _⟩) (fun i ys Hx z => by obtain ⟨rfl, _⟩ := (hPc _ _ _).mp z; exact SqL.of kl5) ?_ ?_
  · intro i v ys Hx hv z
    obtain ⟨rfl, as', rfl, hPa⟩ := (hPc _ _ _).mp z
    rw [List.getElem?_map] at hv
    obtain ⟨sa, hsa, rfl⟩ : ∃ sa, aL[i]? = some sa ∧ V.ref sa = v := by
      cases w : aL[i]? with
      | none => rw [w] at hv; cases hv
      | some sa => rw [w] at hv; exact ⟨sa, rfl, Option.some.inj hv⟩
    obtain ⟨sd, hsd, hks⟩ := hPL5.get hsa
    have b1 := sm sd (List.mem_of_getElem? hsd)
    have tk : L.take (i + 1) = L.take i ++ [sd] := by rw [List.take_add_one, hsd]; rfl
    try walk_at "dr1"
    refine ⟨_, SqT.of hks, _, rfl, _, rfl, mulSm b1.2 b2.1 (by decide), _, SqT.of hks, _, rfl, _, rfl, mulSm b2.2 b1.1 (by decide), ?_⟩
    by_cases cp : Dr.Par sd best
    · rw [if_pos (show sd.2 * best.1 = best.2 * sd.1 from cp)]
      exact (hPc _ _ _).mpr ⟨rfl, as' ++ [sa], by rw [List.map_append]; rfl, by rw [tk, List.filter_append]; simpa [cp] using hPa.app (PairsI.one (b := sd) hks)⟩
    · rw [if_neg (show ¬ sd.2 * best.1 = best.2 * sd.1 from cp)]
      exact (hPc _ _ _).mpr ⟨rfl, as', rfl, by rw [tk, List.filter_append]; simpa [cp] using hPa⟩
  intro ys Hx z
  obtain ⟨rfl, aA, rfl, hPA1⟩ := (hPc _ _ _).mp z
  clear hPc z
  rw [List.length_map, alL, List.take_length] at hPA1
  intro la n_la; generalize e_la : upd _ la _ = H6; obtain ⟨g6, k6⟩ := newH e_la n_la; clear e_la
  have kl6 := g6 _ _ kl5
  have hPL6 := hPL5.same g6
  (try dsimp only); (first | refine seqI ?_ | skip); try walk_at "dr2"
  refine ⟨⟨_, SqL.of kl6⟩, ?_⟩
  obtain ⟨Pc, hPc⟩ : ∃ Pc : Nat → List V → Hp → Prop, ∀ i ys Hx, Pc i ys Hx ↔ (Hx = H6 ∧ ∃ as' : List Addr, ys = as'.map V.ref ∧ PairsI H6 as' ((L.take i).filter fun y => !decide (Dr.Par y best))) := ⟨_, fun _ _ _ => Iff.rfl⟩
  refine compL (aL.map V.ref) Pc (by rw [List.length_map]; unfold sizeLine; omega) ((hPc _ _ _).mpr ⟨rfl, [], rfl, PairsI.nil _⟩) (fun i ys Hx z => by obtain ⟨rfl, _⟩ := (hPc _ _ _).mp z; exact SqL.of kl6) ?_ ?_
  · intro i v ys Hx hv z
    obtain ⟨rfl, as', rfl, hPa⟩ := (hPc _ _ _).mp z
    rw [List.getElem?_map] at hv
    obtain ⟨sa, hsa, rfl⟩ : ∃ sa, aL[i]? = some sa ∧ V.ref sa = v := by
      cases w : aL[i]? with
      | none => rw [w] at hv; cases hv
      | some sa => rw [w] at hv; exact ⟨sa, rfl, Option.some.inj hv⟩
    obtain ⟨sd, hsd, hks⟩ := hPL6.get hsa
    have b1 := sm sd (List.mem_of_getElem? hsd)
    have tk : L.take (i + 1) = L.take i ++ [sd] := by rw [List.take_add_one, hsd]; rfl
    try walk_at "dr1"
    refine ⟨_, SqT.of hks, _, rfl, _, rfl, mulSm b1.2 b2.1 (by decide), _, SqT.of hks, _, rfl, _, rfl, mulSm b2.2 b1.1 (by decide), ?_⟩
    by_cases cp : Dr.Par sd best
    · rw [if_neg fun z => z cp]
      exact (hPc _ _ _).mpr ⟨rfl, as', rfl, by rw [tk, List.filter_append]; simpa [cp] using hPa⟩
    · rw [if_pos (show ¬ sd.2 * best.1 = best.2 * sd.1 from cp)]
      exact (hPc _ _ _).mpr ⟨rfl, as' ++ [sa], by rw [List.map_append]; rfl, by rw [tk, List.filter_append]; simpa [cp] using hPa.app (PairsI.one (b := sd) hks)⟩
  intro ys Hx z
  obtain ⟨rfl, aR, rfl, hPR⟩ := (hPc _ _ _).mp z
  clear hPc z
  rw [List.length_map, alL, List.take_length] at hPR
  intro lr n_lr; generalize e_lr : upd _ lr _ = H7; obtain ⟨g7, k7⟩ := newH e_lr n_lr; clear e_lr
  have hsp := TI.split b0 hD.pos hlt L.length
  rw [List.take_length] at hsp
  obtain ⟨hD2, hlt2⟩ := hD.next hb hlt hsp
  have hAL : (L.filter fun y => decide (Dr.Par y best)).length ≤ L.length := List.length_filter_le ..
  generalize L.filter (fun y => decide (Dr.Par y best)) = AL at hPA1 hD2 hAL
  generalize L.filter (fun y => !decide (Dr.Par y best)) = RL at hPR hD2 hlt2
  have hD2l := hD2.len
  have hAl := hPA1.1
  have kla := g7 _ _ k6
  have hPA7 := (hPA1.same g6).same g7
  have nrc : lr ≠ c := fun z => by rw [z, g6 _ _ kc5] at n_lr; cases n_lr
  have alF := hPF5.1
  have G7 := gb5.trans (g6.trans g7)
  have comps : ∀ (H8 : Hp) (σ : St) (g : Same H7 H8) (k : Nat) (hk : k < 2) (Q : VK), (∀ r, H8 r = none → Q (.ref r) (upd H8 r (.lst ((AL.map fun s => if k = 0 then s.1 else s.2).map V.int)))) → CompIt (Itl K la) [] (fun _ H Q => Q true H) (tOp (rIxT K) (tVar 0) (tC (V.int (k : Int)))) σ H8 Q := fun H8 σ g k hk Q hq => by
    obtain ⟨Pc, hPc⟩ : ∃ Pc : Nat → List V → Hp → Prop, ∀ i ys Hx, Pc i ys Hx ↔ (Hx = H8 ∧ ys = ((AL.take i).map fun s => if k = 0 then s.1 else s.2).map V.int) := ⟨_, fun _ _ _ => Iff.rfl⟩
    refine compL (aA.map V.ref) Pc (by rw [List.length_map]; unfold sizeLine; omega) ((hPc _ _ _).mpr ⟨rfl, rfl⟩) (fun i ys Hx z => by obtain ⟨rfl, _⟩ := (hPc _ _ _).mp z; exact SqL.of (g _ _ kla)) ?_ ?_
    · intro i v ys Hx hv z
      obtain ⟨rfl, rfl⟩ := (hPc _ _ _).mp z
      rw [List.getElem?_map] at hv
      obtain ⟨sa, hsa, rfl⟩ : ∃ sa, aA[i]? = some sa ∧ V.ref sa = v := by
        cases w : aA[i]? with
        | none => rw [w] at hv; cases hv
        | some sa => rw [w] at hv; exact ⟨sa, rfl, Option.some.inj hv⟩
      obtain ⟨sd, hsd, hks⟩ := (hPA7.same g).get hsa
      have tk : AL.take (i + 1) = AL.take i ++ [sd] := by rw [List.take_add_one, hsd]; rfl
      try walk_at "dr1"
      refine ⟨_, SqT.of hks, V.int (if k = 0 then sd.1 else sd.2), ?_, (hPc _ _ _).mpr ⟨rfl, by rw [tk, List.map_append, List.map_append]; rfl⟩⟩
      match k, hk with
      | 0, _ => rfl
      | 1, _ => rfl
    · intro ys Hx z
      obtain ⟨rfl, rfl⟩ := (hPc _ _ _).mp z
      rw [List.length_map, hAl, List.take_length]
      exact hq
  (try dsimp only); (first | refine seqI ?_ | skip); try walk_at "dr2"
  refine ⟨⟨_, SqL.of (g7 _ _ (g6 _ _ kc5))⟩, ⟨_, SqL.of kla⟩, comps H7 _ (Same.refl _) 0 (by decide) _ ?_⟩
  intro s1 n_s1; generalize e_s1 : upd _ s1 _ = H8; obtain ⟨g8, k8⟩ := newH e_s1 n_s1; clear e_s1
  refine ⟨s1, rfl, _, SqL.of k8, ⟨_, SqL.of (g8 _ _ kla)⟩, comps H8 _ g8 1 (by decide) _ ?_⟩
  intro s2 n_s2; generalize e_s2 : upd _ s2 _ = H9; obtain ⟨g9, k9⟩ := newH e_s2 n_s2; clear e_s2
  refine ⟨s2, rfl, _, SqL.of k9, by decide, ?_⟩
  have es := tsum_sums AL
  simp only [if_true, if_false, Nat.one_ne_zero]
  intro nt n_nt; generalize e_nt : upd _ nt _ = H10; obtain ⟨g10, k10⟩ := newH e_nt n_nt; clear e_nt
  have G10 := (g8.trans g9).trans g10
  have kc10 := G10 _ _ (g7 _ _ (g6 _ _ kc5))
  have kt : H10 nt = some (.tup [.int (tsum AL).1, .int (tsum AL).2]) := by rw [es]; exact k10
  refine ⟨_, kc10, by rw [List.length_map]; unfold sizeLine; omega, RL.length, hlt2, (hW _ _ _).mpr ⟨lr, aR, RL, aF ++ [nt], Fd ++ [tsum AL], _, _, _, _, rfl, (G7.trans G10).up nc _, by rw [upd_same, List.map_append]; rfl, ?_, by rw [upd_ne nrc]; exact G10 _ _ k7, ?_, nrc, hD2, rfl⟩⟩
  · have hA := ((hPF5.same (g6.trans g7)).same G10).app (PairsI.one (b := tsum AL) kt)
    exact ⟨hA.1, fun i x p e1 e2 => by
      have h := hA.2 i x p e1 e2
      rw [upd_ne fun z => by rw [z, kc10] at h; cases h]
      exact h⟩
  · have hA := (hPR.same g7).same G10
    exact ⟨hA.1, fun i x p e1 e2 => by
      have h := hA.2 i x p e1 e2
      rw [upd_ne fun z => by rw [z, kc10] at h; cases h]
      exact h⟩
theorem told_border {p : Int} {f : List Int} {ms J : List (Int × Int)} {A M : Int × Int} (hp : 2 ≤ p) (hsm : ∀ x, x ∈ f → Dr.Sm x 10000) (hl : f.length ≤ 14) (hB : Dr.Border J) (hM : Marks p f ms) (hH : Dr.HullR ms A M J.reverse) (hA : ms.head? = some A) (hL : ms.getLast? = some M) : Dr.BorderOf p f J ∧ J.length ≤ 14 ∧ Dr.tot J ≤ 14 * 20028 := by
  have w := hH.way
  rw [List.reverse_reverse] at w
  have mA := hM.place (List.mem_of_mem_head? hA)
  have mM := hM.place (List.mem_of_mem_getLast? hL)
  have wl := Dr.way_len J A hB.pos
  rw [w.1] at wl
  have hJ : J.length ≤ 14 := by omega
  refine ⟨⟨hB, ms, A, M, hM.mem, hH, Dr.inc_range hM.inc hA hL⟩, hJ, Nat.le_trans (Dr.tot_le (B := 20028) fun s hs => ?_) (Nat.mul_le_mul_right _ hJ)⟩
  obtain ⟨m, n, hm, hn, rfl⟩ := Dr.hull_sides hH s (List.mem_reverse.mpr hs)
  have b1 := hM.place hm
  have b2 := hM.place hn
  have b3 := hM.high hp hsm hm
  have b4 := hM.high hp hsm hn
  unfold Dr.mns
  simp only
  omega
theorem ok_law (B : Bi mg K) (d_border_of : DefE P w K mg base "border_of" 3 ["p", "f"] (sp_border_of K)) (d_borders_joined : Def P w K mg base "borders_joined" 3 ["one", "other"] (sp_borders_joined K)) (d__law_cell : Def P w K mg base "_law_cell" 1 ["script", "k"] (sp__law_cell K)) (d__law_prime : Def P w K mg base "_law_prime" 1 ["cell"] (sp__law_prime K)) (d__law_poly : Def P w K mg base "_law_poly" 2 ["p", "cells"] (sp__law_poly K)) (d__law_times : Def P w K mg base "_law_times" 1 ["f", "g"] (sp__law_times K)) (d__law_due : Def P w K mg base "_law_due" 1 ["sides"] (sp__law_due K)) (F : Fun K "law" "law" s_law f fd) : FnOk P w K mg base CX0 4 f fd ["script"] (spLaw K) := by
  refine F.ok S_law (fun vs H Q E h => ?_) (fun cdv A outer s H vs Q E hr h => ?_)
  · obtain ⟨a, ns, rfl, _⟩ := h
    rfl
  obtain ⟨a, ns, rfl, hS, hl, hbits, q⟩ := h
  have S := S_law
  refine ⟨_, ((pss_cons (ps_for PassesOwn.never rfl (pi_range3 rfl B.b_range (pa_cons pe_int (pa_cons (pe_callB (call_max2 rfl) rfl B.b_max L2.bt_max (pa_cons pe_int (pa_cons (pe_callB (call_min2 rfl) rfl B.b_min L2.bt_min (pa_cons (pe_callB call_len_seq rfl B.b_len PySem.boot_len (pa_cons (pv 0) pa_nil)) (pa_cons pe_int pa_nil))) pa_nil))) (pa_cons pe_int pa_nil)))) (pg_name (i := 1) S.nd rfl (Or.inr rfl)) (pss_cons (ps_set (i := 2) S.nd rfl (Or.inl rfl) (pe_op op_add pe_int (pe_op op_mod (pe_op op_fdivW (pe_def d__law_cell hr rfl (pa_cons (pv 0) (pa_cons (pv 1) pa_nil))) pe_int) pe_int)))
    (pss_cons (ps_set (i := 3) S.nd rfl (Or.inl rfl) (pe_def d__law_prime hr rfl (pa_cons (pe_op op_add (pe_op op_fdivW (pe_def d__law_cell hr rfl (pa_cons (pv 0) (pa_cons (pv 1) pa_nil))) pe_int) (pe_def d__law_cell hr rfl (pa_cons (pv 0) (pa_cons (pe_op op_add (pv 1) pe_int) pa_nil)))) pa_nil)))
    (pss_cons (ps_set (i := 4) S.nd rfl (Or.inl rfl) (pe_def d__law_poly hr rfl (pa_cons (pv 3) (pa_cons (pe_comp [0, 1] ["script", "start"] rfl rfl ⟨rfl, rfl, trivial⟩ ⟨rfl, rfl, rfl, rfl, rfl, rfl, rfl, rfl, trivial⟩ rfl rfl (by decide) (by decide) rfl rfl (by decide) (pi_range1 rfl B.b_range (pa_cons (pv 2) pa_nil)) (fun _ _ _ _ => pts_nil) (fun _ _ _ _ => (pe_def d__law_cell hr rfl (pa_cons (pv 1) (pa_cons (pe_op op_add (pv 2) (pe_op op_mulW pe_int (pv 0))) pa_nil))))) pa_nil))))
    (pss_cons (ps_set (i := 2) S.nd rfl (Or.inl rfl) (pe_op op_add pe_int (pe_op op_mod (pe_op op_fdivW (pe_def d__law_cell hr rfl (pa_cons (pv 0) (pa_cons (pe_op op_add (pv 1) pe_int) pa_nil))) pe_int) pe_int)))
    (pss_cons (ps_set (i := 5) S.nd rfl (Or.inl rfl) (pe_def d__law_poly hr rfl (pa_cons (pv 3) (pa_cons (pe_comp [0, 1] ["script", "start"] rfl rfl ⟨rfl, rfl, trivial⟩ ⟨rfl, rfl, rfl, rfl, rfl, rfl, rfl, rfl, trivial⟩ rfl rfl (by decide) (by decide) rfl rfl (by decide) (pi_range1 rfl B.b_range (pa_cons (pv 2) pa_nil)) (fun _ _ _ _ => pts_nil) (fun _ _ _ _ => (pe_def d__law_cell hr rfl (pa_cons (pv 1) (pa_cons (pe_op op_add (pe_op op_add (pv 2) (pe_op op_mulW pe_int (pv 0))) pe_int) pa_nil))))) pa_nil))))
    (pss_cons (ps_set (i := 6) S.nd rfl (Or.inl rfl) (pe_defE pass00 d_border_of hr rfl (pa_cons (pv 3) (pa_cons (pe_callTy call_list_of rfl B.b_list L2.bt_list (pa_cons (pv 4) pa_nil)) pa_nil))))
    (pss_cons (ps_set (i := 7) S.nd rfl (Or.inl rfl) (pe_defE pass00 d_border_of hr rfl (pa_cons (pv 3) (pa_cons (pe_callTy call_list_of rfl B.b_list L2.bt_list (pa_cons (pv 5) pa_nil)) pa_nil))))
    (pss_cons (ps_set (i := 8) S.nd rfl (Or.inl rfl) (pe_def d__law_due hr rfl (pa_cons (pe_op op_cat (pv 6) (pv 7)) pa_nil)))
    (pss_one (ps_if (PW.pt (pw_or (pt_cmpR (op_neD hr.units) (pe_defE pass00 d_border_of hr rfl (pa_cons (pv 3) (pa_cons (pe_def d__law_times hr rfl (pa_cons (pv 4) (pa_cons (pv 5) pa_nil))) pa_nil))) (pv 8) (nomark _)) (pw_or1 (pt_cmpR (op_neD hr.units) (pe_def d_borders_joined hr rfl (pa_cons (pv 6) (pa_cons (pv 7) pa_nil))) (pv 8) (nomark _))))) (pss_one (ps_ret pe_bl)) pss_nil)))))))))))
    (pss_one (ps_ret pe_bl)))), ?_⟩
  (try dsimp only); (first | refine seqI ?_ | skip); try walk_at "dr2"; (try simp only [sp_border_of, sp_borders_joined, sp__law_cell, sp__law_prime, sp__law_poly, sp__law_times, sp__law_due]); try walk_at "dr2"
  refine ⟨_, .inl hS, ?_⟩
  rw [List.length_map]
  obtain ⟨T, eT⟩ : ∃ T : Int, T = if (if (56 : Int) < (ns.length : Int) then (56 : Int) else (ns.length : Int)) > 1 then (if (56 : Int) < (ns.length : Int) then (56 : Int) else (ns.length : Int)) else 1 := ⟨_, rfl⟩
  have bT : 1 ≤ T ∧ T ≤ 56 := by
    rw [eT]
    split <;> split <;> omega
  rw [← eT]
  clear eT
  refine ⟨by omega, by omega, by omega, by omega, ?_⟩
  obtain ⟨Pv, hPv⟩ : ∃ Pv : Nat → St → Hp → Prop, ∀ i σ H1, Pv i σ H1 ↔ (Same H H1 ∧ ∃ (t1 t2 t3 t4 t5 t6 t7 t8 : Option V), σ = [some (.ref a), t1, t2, t3, t4, t5, t6, t7, t8]) := ⟨_, fun _ _ _ => Iff.rfl⟩
  refine forC Pv ((hPv _ _ _).mpr ⟨Same.refl _, _, _, _, _, _, _, _, _, rfl⟩) ?_ (fun σ H' _ => ?_)
  case refine_2 =>
    try walk_at "dr1"; (try simp only [sp_border_of, sp_borders_joined, sp__law_cell, sp__law_prime, sp__law_poly, sp__law_times, sp__law_due]); try walk_at "dr1"
    exact q H'
  intro i σ H1 hi z
  obtain ⟨G1, t1, t2, t3, t4, t5, t6, t7, t8, rfl⟩ := (hPv _ _ _).mp z
  have hS1 := G1.seq hS
  have hlt := turns_lt (by decide) hi
  have hk : (0 : Int) ≤ 0 + (i : Int) * 14 ∧ (0 : Int) + (i : Int) * 14 < 56 := by omega
  generalize (0 : Int) + (i : Int) * 14 = k at hk ⊢
  (try dsimp only); (first | refine seqI ?_ | skip); try walk_at "dr2"; (try simp only [sp_border_of, sp_borders_joined, sp__law_cell, sp__law_prime, sp__law_poly, sp__law_times, sp__law_due]); try walk_at "dr2"
  refine ⟨ns, hS1, hl, by omega, by omega, ⟨by decide, by decide⟩, ?_⟩
  have m7 := mod_in (cellv ns k / 3) (show (0 : Int) < 7 by decide)
  obtain ⟨sz, esz⟩ : ∃ sz : Int, sz = 1 + cellv ns k / 3 % 7 := ⟨_, rfl⟩
  rw [← esz]
  have bsz : 1 ≤ sz ∧ sz ≤ 7 := by omega
  clear esz m7
  (try dsimp only); (first | refine seqI ?_ | skip); try walk_at "dr2"; (try simp only [sp_border_of, sp_borders_joined, sp__law_cell, sp__law_prime, sp__law_poly, sp__law_times, sp__law_due]); try walk_at "dr2"
  refine ⟨ns, hS1, hl, by omega, by omega, ⟨by decide, by decide⟩, ns, hS1, hl, by omega, by omega, fun p H2 hpp g2 => ?_⟩
  have p2 := Dr.primes_ge hpp
  have hS2 := g2.seq hS1
  (try dsimp only); (first | refine seqI ?_ | skip); try walk_at "dr2"; (try simp only [sp_border_of, sp_borders_joined, sp__law_cell, sp__law_prime, sp__law_poly, sp__law_times, sp__law_due]); try walk_at "dr2"
  refine ⟨by omega, by omega, ?_⟩
  obtain ⟨Pc, hPc⟩ : ∃ Pc : Nat → List V → Hp → Prop, ∀ j ys Hx, Pc j ys Hx ↔ (Hx = H2 ∧ ∃ cs : List Int, ys = cs.map V.int ∧ cs.length = j ∧ ∀ c, c ∈ cs → Sh c) := ⟨_, fun _ _ _ => Iff.rfl⟩
  refine compR Pc (by unfold sizeLine; omega) ((hPc _ _ _).mpr ⟨rfl, [], rfl, rfl, fun _ h => nomatch h⟩) ?_ ?_
  · intro j ys Hx hj z
    obtain ⟨rfl, cs, rfl, hcl, hcb⟩ := (hPc _ _ _).mp z
    try walk_at "dr1"; (try simp only [sp_border_of, sp_borders_joined, sp__law_cell, sp__law_prime, sp__law_poly, sp__law_times, sp__law_due]); try walk_at "dr1"
    refine ⟨IntMulOk.of_left (by decide), ns, hS2, hl, by omega, by omega, (hPc _ _ _).mpr ⟨rfl, cs ++ [cellv ns (k + 2 * (0 + (j : Int)))], by rw [List.map_append]; rfl, by rw [List.length_append, hcl]; rfl, fun y hy => ?_⟩⟩
    rcases List.mem_append.mp hy with w | w
    · exact hcb y w
    · rw [List.mem_singleton.mp w]; exact cell_sh hbits (by omega)
  intro ys Hx z
  obtain ⟨rfl, cs, rfl, hcl, hcb⟩ := (hPc _ _ _).mp z
  clear hPc z
  intro lc n_lc; generalize e_lc : upd _ lc _ = H3; obtain ⟨g3, k3⟩ := newH e_lc n_lc; clear e_lc
  refine ⟨lc, rfl, cs, SqL.of k3, by omega, by omega, by omega, by omega, hcb, fun lf f H4 hfl hfb hfn g4 k4 => ?_⟩
  have hS4 := (g3.trans g4).seq hS2
  (try dsimp only); (first | refine seqI ?_ | skip); try walk_at "dr2"; (try simp only [sp_border_of, sp_borders_joined, sp__law_cell, sp__law_prime, sp__law_poly, sp__law_times, sp__law_due]); try walk_at "dr2"
  refine ⟨ns, hS4, hl, by omega, by omega, ⟨by decide, by decide⟩, ?_⟩
  have m7 := mod_in (cellv ns (k + 1) / 3) (show (0 : Int) < 7 by decide)
  obtain ⟨sy, esy⟩ : ∃ sy : Int, sy = 1 + cellv ns (k + 1) / 3 % 7 := ⟨_, rfl⟩
  rw [← esy]
  have bsy : 1 ≤ sy ∧ sy ≤ 7 := by omega
  clear esy m7
  (try dsimp only); (first | refine seqI ?_ | skip); try walk_at "dr2"; (try simp only [sp_border_of, sp_borders_joined, sp__law_cell, sp__law_prime, sp__law_poly, sp__law_times, sp__law_due]); try walk_at "dr2"
  refine ⟨by omega, by omega, ?_⟩
  obtain ⟨Pc, hPc⟩ : ∃ Pc : Nat → List V → Hp → Prop, ∀ j ys Hx, Pc j ys Hx ↔ (Hx = H4 ∧ ∃ cs : List Int, ys = cs.map V.int ∧ cs.length = j ∧ ∀ c, c ∈ cs → Sh c) := ⟨_, fun _ _ _ => Iff.rfl⟩
  refine compR Pc (by unfold sizeLine; omega) ((hPc _ _ _).mpr ⟨rfl, [], rfl, rfl, fun _ h => nomatch h⟩) ?_ ?_
  · intro j ys Hx hj z
    obtain ⟨rfl, cs, rfl, hcl, hcb⟩ := (hPc _ _ _).mp z
    try walk_at "dr1"; (try simp only [sp_border_of, sp_borders_joined, sp__law_cell, sp__law_prime, sp__law_poly, sp__law_times, sp__law_due]); try walk_at "dr1"
    refine ⟨IntMulOk.of_left (by decide), ns, hS4, hl, by omega, by omega, (hPc _ _ _).mpr ⟨rfl, cs ++ [cellv ns (k + 2 * (0 + (j : Int)) + 1)], by rw [List.map_append]; rfl, by rw [List.length_append, hcl]; rfl, fun y hy => ?_⟩⟩
    rcases List.mem_append.mp hy with w | w
    · exact hcb y w
    · rw [List.mem_singleton.mp w]; exact cell_sh hbits (by omega)
  intro ys Hx z
  obtain ⟨rfl, ds, rfl, hdl, hdb⟩ := (hPc _ _ _).mp z
  clear hPc z
  intro ld n_ld; generalize e_ld : upd _ ld _ = H5; obtain ⟨g5, k5⟩ := newH e_ld n_ld; clear e_ld
  refine ⟨ld, rfl, ds, SqL.of k5, by omega, by omega, by omega, by omega, hdb, fun lg g H6 hgl hgb hgn g6 k6 => ?_⟩
  have G6 := (G1.trans g2).trans ((g3.trans g4).trans (g5.trans g6))
  have kf6 := g6 _ _ (g5 _ _ k4)
  clear g3 g4 g5 g6 g2 k3 k4 k5 hS1 hS2 hS4 hcb hdb
  have fsm : ∀ x, x ∈ f → Dr.Sm x 10000 := fun x hx => (hfb x hx).mono (by decide)
  have gsm : ∀ x, x ∈ g → Dr.Sm x 10000 := fun x hx => (hgb x hx).mono (by decide)
  (try dsimp only); (first | refine seqI ?_ | skip); try walk_at "dr2"; (try simp only [sp_border_of, sp_borders_joined, sp__law_cell, sp__law_prime, sp__law_poly, sp__law_times, sp__law_due]); try walk_at "dr2"
  refine ⟨_, .inl (SqL.of kf6), ?_⟩
  intro l7 n_l7; generalize e_l7 : upd _ l7 _ = H7; obtain ⟨g7, k7⟩ := newH e_l7 n_l7; clear e_l7
  refine ⟨f, SqL.of k7, by omega, by omega, by omega, fsm, fun hz => ?_, fun c1 a1 I ms1 A1 M1 H8 n8 g8 k8 hP1 hB1 hl1 hM1 hH1 hA1 hL1 => ?_⟩
  · obtain ⟨x, hx, x0⟩ := hfn
    exact absurd (hz x hx) x0
  have g68 := g7.trans g8
  obtain ⟨bo1, bl1, bt1⟩ := told_border (by omega) fsm (by omega) hB1 hM1 hH1 hA1 hL1
  clear hM1 hH1 hA1 hL1 n8 k7
  (try dsimp only); (first | refine seqI ?_ | skip); try walk_at "dr2"; (try simp only [sp_border_of, sp_borders_joined, sp__law_cell, sp__law_prime, sp__law_poly, sp__law_times, sp__law_due]); try walk_at "dr2"
  refine ⟨_, .inl (SqL.of (g68 _ _ k6)), ?_⟩
  intro l9 n_l9; generalize e_l9 : upd _ l9 _ = H9; obtain ⟨g9, k9⟩ := newH e_l9 n_l9; clear e_l9
  refine ⟨g, SqL.of k9, by omega, by omega, by omega, gsm, fun hz => ?_, fun c2 a2 J ms2 A2 M2 H10 n10 g10 k10 hP2 hB2 hl2 hM2 hH2 hA2 hL2 => ?_⟩
  · obtain ⟨x, hx, x0⟩ := hgn
    exact absurd (hz x hx) x0
  have g810 := g9.trans g10
  obtain ⟨bo2, bl2, bt2⟩ := told_border (by omega) gsm (by omega) hB2 hM2 hH2 hA2 hL2
  clear hM2 hH2 hA2 hL2 n10 k9
  have k8' := g810 _ _ k8
  have hP1' := hP1.same g810
  have al1 := hP1.1
  have al2 := hP2.1
  (try dsimp only); (first | refine seqI ?_ | skip); try walk_at "dr2"; (try simp only [sp_border_of, sp_borders_joined, sp__law_cell, sp__law_prime, sp__law_poly, sp__law_times, sp__law_due]); try walk_at "dr2"
  refine ⟨_, k8', _, k10, by simp only [List.length_map]; unfold sizeLine; omega, ?_⟩
  intro ls n_ls; generalize e_ls : upd _ ls _ = H11; obtain ⟨g11, k11⟩ := newH e_ls n_ls; clear e_ls
  rw [← List.map_append] at k11
  have htt : Dr.tot (I ++ J) < 2 ^ 1900 := by
    rw [Dr.tot_append]
    refine Nat.lt_of_le_of_lt (Nat.add_le_add bt1 bt2) (Nat.lt_of_lt_of_le (show 14 * 20028 + 14 * 20028 < 2 ^ 20 by decide) (Nat.pow_le_pow_right (by decide) (by decide)))
  refine ⟨a1 ++ a2, k11, I ++ J, (hP1'.app hP2).same g11, fun u hu => ?_, by rw [List.length_append]; omega, htt, fun cd ad D H12 nd g12 kd hPd hBd hsd hld => ?_⟩
  · rcases List.mem_append.mp hu with w | w
    · exact hB1.pos u w
    · exact hB2.pos u w
  rw [Dr.tot_append] at htt
  have G12 := g11.trans g12
  have g6_12 := g68.trans (g810.trans G12)
  (try dsimp only); (first | refine seqI ?_ | skip); try walk_at "dr2"; (try simp only [sp_border_of, sp_borders_joined, sp__law_cell, sp__law_prime, sp__law_poly, sp__law_times, sp__law_due]); try walk_at "dr2"
  refine ⟨f, SqL.of (g6_12 _ _ kf6), g, SqL.of (g6_12 _ _ k6), by omega, by omega, by omega, by omega, 500, hfb, 500, hgb, by decide, by decide, fun lr r H13 hprod hrb _ g13 k13 => ?_⟩
  have rl := hprod.len
  have rsm : ∀ x, x ∈ r → Dr.Sm x 10000 := fun x hx => (hrb x hx).mono (by decide)
  refine ⟨r, SqL.of k13, by omega, by omega, by omega, rsm, fun hz => ?_, fun c3 a3 R ms3 A3 M3 H14 n14 g14 k14 hP3 hB3 hl3 hM3 hH3 hA3 hL3 => ?_⟩
  · obtain ⟨x, hx, x0⟩ := bo1.mul_ne hpp bo2 hprod
    exact absurd (hz x hx) x0
  obtain ⟨bo3, _, _⟩ := told_border (by omega) rsm (by omega) hB3 hM3 hH3 hA3 hL3
  have eR : R = D := Dr.Border.uniq hB3 hBd fun v hv => by rw [bo1.mul hpp bo2 bo3 hprod v hv, hsd v hv, Dr.csum_append]
  subst eR
  have g12_14 := g13.trans g14
  refine neP1 (SqL.of k14) hP3 (SqL.of (g12_14 _ _ kd)) (hPd.same g12_14) ⟨_, rfl, ?_⟩
  rw [if_neg (by decide)]
  have g10_14 := G12.trans g12_14
  refine ⟨a1, g10_14 _ _ k8', a2, I, hP1'.same g10_14, g10_14 _ _ k10, J, hP2.same g10_14, hB1, hB2, by omega, by omega, htt, fun c4 a4 R4 H15 n15 g15 k15 hP4 hB4 hs4 hl4 => ?_⟩
  have e4 : R4 = R := Dr.Border.uniq hB4 hBd fun v hv => by rw [hs4 v hv, hsd v hv, Dr.csum_append]
  subst e4
  have g12_15 := g12_14.trans g15
  refine neP1 (SqL.of k15) hP4 (SqL.of (g12_15 _ _ kd)) (hPd.same g12_15) ⟨_, rfl, ?_⟩
  rw [if_neg (by decide)]
  exact (hPv _ _ _).mpr ⟨(G6.trans g6_12).trans g12_15, _, _, _, _, _, _, _, _, rfl⟩
theorem all_mk {h : Heap} {fa f1 f2 f3 f4 f5 f6 f7 f8 f9 f10 f11 f12 f13 : Addr} (X : K.In h) (G : h.Ns mainGlobals mg) (hfa : mg "law" = some (.ref fa))
    {od1 an1 od2 an2 od3 an3 od4 an4 od5 an5 od6 an6 od7 an7 od8 an8 od9 an9 od10 an10 od11 an11 od12 an12 od13 an13 : Option Addr} {sl1 sl2 sl3 sl4 sl5 sl6 sl7 sl8 sl9 sl10 sl11 sl12 sl13 : Array (Option Value)} {oc1 kV1 dc1 pm1 cd1 ct1 oc2 kV2 dc2 pm2 cd2 ct2 oc3 kV3 dc3 pm3 cd3 ct3 oc4 kV4 dc4 pm4 cd4 ct4 oc5 kV5 dc5 pm5 cd5 ct5 oc6 kV6 dc6 pm6 cd6 ct6 oc7 kV7 dc7 pm7 cd7 ct7 oc8 kV8 dc8 pm8 cd8 ct8 oc9 kV9 dc9 pm9 cd9 ct9 oc10 kV10 dc10 pm10 cd10 ct10 oc11 kV11 dc11 pm11 cd11 ct11 oc12 kV12 dc12 pm12 cd12 ct12 oc13 kV13 dc13 pm13 cd13 ct13 : Value}
    (a1 : PySem.W.nsIn K mainGlobals "depth_of" = some (some (.ref f1))) (l1 : K.lookup f1 = some ⟨oc1, od1, .func (PySem.W.fnOf "depth_of" "depth_of" (defArgs s_depth_of) (defBody s_depth_of) (defScope s_depth_of) .none kV1 dc1 pm1 an1 cd1 ct1), sl1⟩) (c1 : PySem.W.codeIn K cd1 "depth_of" = true) (k1 : PySem.W.keepIn K (.ref f1) = true)
    (a2 : PySem.W.nsIn K mainGlobals "rises_more" = some (some (.ref f2))) (l2 : K.lookup f2 = some ⟨oc2, od2, .func (PySem.W.fnOf "rises_more" "rises_more" (defArgs s_rises_more) (defBody s_rises_more) (defScope s_rises_more) .none kV2 dc2 pm2 an2 cd2 ct2), sl2⟩) (c2 : PySem.W.codeIn K cd2 "rises_more" = true) (k2 : PySem.W.keepIn K (.ref f2) = true)
    (a3 : PySem.W.nsIn K mainGlobals "add_side" = some (some (.ref f3))) (l3 : K.lookup f3 = some ⟨oc3, od3, .func (PySem.W.fnOf "add_side" "add_side" (defArgs s_add_side) (defBody s_add_side) (defScope s_add_side) .none kV3 dc3 pm3 an3 cd3 ct3), sl3⟩) (c3 : PySem.W.codeIn K cd3 "add_side" = true) (k3 : PySem.W.keepIn K (.ref f3) = true)
    (a4 : PySem.W.nsIn K mainGlobals "border_of" = some (some (.ref f4))) (l4 : K.lookup f4 = some ⟨oc4, od4, .func (PySem.W.fnOf "border_of" "border_of" (defArgs s_border_of) (defBody s_border_of) (defScope s_border_of) .none kV4 dc4 pm4 an4 cd4 ct4), sl4⟩) (c4 : PySem.W.codeIn K cd4 "border_of" = true) (k4 : PySem.W.keepIn K (.ref f4) = true)
    (a5 : PySem.W.nsIn K mainGlobals "borders_joined" = some (some (.ref f5))) (l5 : K.lookup f5 = some ⟨oc5, od5, .func (PySem.W.fnOf "borders_joined" "borders_joined" (defArgs s_borders_joined) (defBody s_borders_joined) (defScope s_borders_joined) .none kV5 dc5 pm5 an5 cd5 ct5), sl5⟩) (c5 : PySem.W.codeIn K cd5 "borders_joined" = true) (k5 : PySem.W.keepIn K (.ref f5) = true)
    (a6 : PySem.W.nsIn K mainGlobals "_law_cell" = some (some (.ref f6))) (l6 : K.lookup f6 = some ⟨oc6, od6, .func (PySem.W.fnOf "_law_cell" "_law_cell" (defArgs s__law_cell) (defBody s__law_cell) (defScope s__law_cell) .none kV6 dc6 pm6 an6 cd6 ct6), sl6⟩) (c6 : PySem.W.codeIn K cd6 "_law_cell" = true) (k6 : PySem.W.keepIn K (.ref f6) = true)
    (a7 : PySem.W.nsIn K mainGlobals "_law_prime" = some (some (.ref f7))) (l7 : K.lookup f7 = some ⟨oc7, od7, .func (PySem.W.fnOf "_law_prime" "_law_prime" (defArgs s__law_prime) (defBody s__law_prime) (defScope s__law_prime) .none kV7 dc7 pm7 an7 cd7 ct7), sl7⟩) (c7 : PySem.W.codeIn K cd7 "_law_prime" = true) (k7 : PySem.W.keepIn K (.ref f7) = true)
    (a8 : PySem.W.nsIn K mainGlobals "_law_whole" = some (some (.ref f8))) (l8 : K.lookup f8 = some ⟨oc8, od8, .func (PySem.W.fnOf "_law_whole" "_law_whole" (defArgs s__law_whole) (defBody s__law_whole) (defScope s__law_whole) .none kV8 dc8 pm8 an8 cd8 ct8), sl8⟩) (c8 : PySem.W.codeIn K cd8 "_law_whole" = true) (k8 : PySem.W.keepIn K (.ref f8) = true)
    (a9 : PySem.W.nsIn K mainGlobals "_law_number" = some (some (.ref f9))) (l9 : K.lookup f9 = some ⟨oc9, od9, .func (PySem.W.fnOf "_law_number" "_law_number" (defArgs s__law_number) (defBody s__law_number) (defScope s__law_number) .none kV9 dc9 pm9 an9 cd9 ct9), sl9⟩) (c9 : PySem.W.codeIn K cd9 "_law_number" = true) (k9 : PySem.W.keepIn K (.ref f9) = true)
    (a10 : PySem.W.nsIn K mainGlobals "_law_poly" = some (some (.ref f10))) (l10 : K.lookup f10 = some ⟨oc10, od10, .func (PySem.W.fnOf "_law_poly" "_law_poly" (defArgs s__law_poly) (defBody s__law_poly) (defScope s__law_poly) .none kV10 dc10 pm10 an10 cd10 ct10), sl10⟩) (c10 : PySem.W.codeIn K cd10 "_law_poly" = true) (k10 : PySem.W.keepIn K (.ref f10) = true)
    (a11 : PySem.W.nsIn K mainGlobals "_law_times" = some (some (.ref f11))) (l11 : K.lookup f11 = some ⟨oc11, od11, .func (PySem.W.fnOf "_law_times" "_law_times" (defArgs s__law_times) (defBody s__law_times) (defScope s__law_times) .none kV11 dc11 pm11 an11 cd11 ct11), sl11⟩) (c11 : PySem.W.codeIn K cd11 "_law_times" = true) (k11 : PySem.W.keepIn K (.ref f11) = true)
    (a12 : PySem.W.nsIn K mainGlobals "_law_due" = some (some (.ref f12))) (l12 : K.lookup f12 = some ⟨oc12, od12, .func (PySem.W.fnOf "_law_due" "_law_due" (defArgs s__law_due) (defBody s__law_due) (defScope s__law_due) .none kV12 dc12 pm12 an12 cd12 ct12), sl12⟩) (c12 : PySem.W.codeIn K cd12 "_law_due" = true) (k12 : PySem.W.keepIn K (.ref f12) = true)
    (a13 : PySem.W.nsIn K mainGlobals "law" = some (some (.ref f13))) (l13 : K.lookup f13 = some ⟨oc13, od13, .func (PySem.W.fnOf "law" "law" (defArgs s_law) (defBody s_law) (defScope s_law) .none kV13 dc13 pm13 an13 cd13 ct13), sl13⟩) (c13 : PySem.W.codeIn K cd13 "law" = true) (k13 : PySem.W.keepIn K (.ref f13) = true)
    (z_bool : PySem.W.nsIn K mainGlobals "bool" = some none) (z_enumerate : PySem.W.nsIn K mainGlobals "enumerate" = some none) (z_int : PySem.W.nsIn K mainGlobals "int" = some none) (z_isinstance : PySem.W.nsIn K mainGlobals "isinstance" = some none) (z_len : PySem.W.nsIn K mainGlobals "len" = some none) (z_list : PySem.W.nsIn K mainGlobals "list" = some none) (z_max : PySem.W.nsIn K mainGlobals "max" = some none) (z_min : PySem.W.nsIn K mainGlobals "min" = some none) (z_range : PySem.W.nsIn K mainGlobals "range" = some none) (z_sum : PySem.W.nsIn K mainGlobals "sum" = some none) {e_NoDepth : Addr} (z_NoDepth : PySem.W.nsIn K mainGlobals "NoDepth" = some (some (.ref e_NoDepth))) (x_NoDepth : ExcK K e_NoDepth) :
    ∃ fd : FuncData, (∀ (s : Shared) (v : Value), BindsTo s fd ⟨[v], []⟩ [("script", v)]) ∧ ∀ base : Heap, K.In base → base.Ns mainGlobals mg → FnOk P w K mg base CX0 4 fa fd ["script"] (spLaw K) := by
  have e := hfa.symm.trans (PySem.W.mg_of X G a13)
  cases e
  have F1 := fun_mk (st := s_depth_of) l1 c1 k1
  have b1 := F1.binds (ps := ["p", "x"]) fun _ _ _ _ _ _ us hl => match us, hl with | [_, _], _ => rfl
  have F2 := fun_mk (st := s_rises_more) l2 c2 k2
  have b2 := F2.binds (ps := ["side", "ahead"]) fun _ _ _ _ _ _ us hl => match us, hl with | [_, _], _ => rfl
  have F3 := fun_mk (st := s_add_side) l3 c3 k3
  have b3 := F3.binds (ps := ["sides", "side"]) fun _ _ _ _ _ _ us hl => match us, hl with | [_, _], _ => rfl
  have F4 := fun_mk (st := s_border_of) l4 c4 k4
  have b4 := F4.binds (ps := ["p", "f"]) fun _ _ _ _ _ _ us hl => match us, hl with | [_, _], _ => rfl
  have F5 := fun_mk (st := s_borders_joined) l5 c5 k5
  have b5 := F5.binds (ps := ["one", "other"]) fun _ _ _ _ _ _ us hl => match us, hl with | [_, _], _ => rfl
  have F6 := fun_mk (st := s__law_cell) l6 c6 k6
  have b6 := F6.binds (ps := ["script", "k"]) fun _ _ _ _ _ _ us hl => match us, hl with | [_, _], _ => rfl
  have F7 := fun_mk (st := s__law_prime) l7 c7 k7
  have b7 := F7.binds (ps := ["cell"]) fun _ _ _ _ _ _ us hl => match us, hl with | [_], _ => rfl
  have F8 := fun_mk (st := s__law_whole) l8 c8 k8
  have b8 := F8.binds (ps := ["thing"]) fun _ _ _ _ _ _ us hl => match us, hl with | [_], _ => rfl
  have F9 := fun_mk (st := s__law_number) l9 c9 k9
  have b9 := F9.binds (ps := ["p", "cell"]) fun _ _ _ _ _ _ us hl => match us, hl with | [_, _], _ => rfl
  have F10 := fun_mk (st := s__law_poly) l10 c10 k10
  have b10 := F10.binds (ps := ["p", "cells"]) fun _ _ _ _ _ _ us hl => match us, hl with | [_, _], _ => rfl
  have F11 := fun_mk (st := s__law_times) l11 c11 k11
  have b11 := F11.binds (ps := ["f", "g"]) fun _ _ _ _ _ _ us hl => match us, hl with | [_, _], _ => rfl
  have F12 := fun_mk (st := s__law_due) l12 c12 k12
  have b12 := F12.binds (ps := ["sides"]) fun _ _ _ _ _ _ us hl => match us, hl with | [_], _ => rfl
  have F13 := fun_mk (st := s_law) l13 c13 k13
  have k_NoDepth : clK K "NoDepth" = e_NoDepth := clK_of z_NoDepth
  have B : Bi mg K := ⟨PySem.W.mg_none_of X G z_bool, PySem.W.mg_none_of X G z_enumerate, PySem.W.mg_none_of X G z_int, PySem.W.mg_none_of X G z_isinstance, PySem.W.mg_none_of X G z_len, PySem.W.mg_none_of X G z_list, PySem.W.mg_none_of X G z_max, PySem.W.mg_none_of X G z_min, PySem.W.mg_none_of X G z_range, PySem.W.mg_none_of X G z_sum, (by rw [k_NoDepth]; exact PySem.W.mg_of X G z_NoDepth), (by rw [k_NoDepth]; exact x_NoDepth)⟩
  refine ⟨PySem.W.fnOf "law" "law" (defArgs s_law) (defBody s_law) (defScope s_law) .none kV13 dc13 pm13 an13 cd13 ct13, fun s v => .of_eq rfl, fun base _ _ => ?_⟩
  have D_depth_of := def_mk (P := P) (w := w) (base := base) F1 (ok_depth_of B  F1) b1 (PySem.W.mg_of X G a1)
  have D_rises_more := def_mk (P := P) (w := w) (base := base) F2 (ok_rises_more B  F2) b2 (PySem.W.mg_of X G a2)
  have D__law_cell := def_mk (P := P) (w := w) (base := base) F6 (ok__law_cell B  F6) b6 (PySem.W.mg_of X G a6)
  have D__law_prime := def_mk (P := P) (w := w) (base := base) F7 (ok__law_prime B  F7) b7 (PySem.W.mg_of X G a7)
  have D__law_whole := def_mk (P := P) (w := w) (base := base) F8 (ok__law_whole B  F8) b8 (PySem.W.mg_of X G a8)
  have D__law_number := def_mk (P := P) (w := w) (base := base) F9 (ok__law_number B  F9) b9 (PySem.W.mg_of X G a9)
  have D__law_times := def_mk (P := P) (w := w) (base := base) F11 (ok__law_times B  F11) b11 (PySem.W.mg_of X G a11)
  have D__law_due := def_mk (P := P) (w := w) (base := base) F12 (ok__law_due B  F12) b12 (PySem.W.mg_of X G a12)
  have D_add_side := def_mk (P := P) (w := w) (base := base) F3 (ok_add_side B D_rises_more F3) b3 (PySem.W.mg_of X G a3)
  have D__law_poly := def_mk (P := P) (w := w) (base := base) F10 (ok__law_poly B D__law_number F10) b10 (PySem.W.mg_of X G a10)
  have D_border_of := defE_mk (P := P) (w := w) (base := base) F4 (ok_border_of B D_depth_of D_add_side F4) b4 (PySem.W.mg_of X G a4)
  have D_borders_joined := def_mk (P := P) (w := w) (base := base) F5 (ok_borders_joined B D_rises_more D_add_side F5) b5 (PySem.W.mg_of X G a5)
  exact ok_law B D_border_of D_borders_joined D__law_cell D__law_prime D__law_poly D__law_times D__law_due F13
end
end K63
open PySem PySem.W PyProof.Rows
set_option maxRecDepth 100000 in
set_option maxHeartbeats 0 in
theorem PySem.Challenge.cw_deeprests_k63_whole_border_of_a_product_holds : PySem.Challenge.rw_deeprests_k63_whole_border_of_a_product.Holds := by
  w_on; o_law; k_head; (case hw => w_witness2)
  k_fill
  refine L2.walk_law (l := PySem.Challenge.rw_deeprests_k63_whole_border_of_a_product) (k := 4) (CX := fun _ => L2.CX0) rfl rfl ⟨rfl, by decide, by decide⟩ (fun w h Y => PySem.W.kIn_of Y) (fun _ _ _ _ _ z => z) ?F
  case F =>
    intro w mg fa h KX G hmg
    refine' K63.all_mk KX G hmg ?a1 ?l1 ?c1 ?k1 ?a2 ?l2 ?c2 ?k2 ?a3 ?l3 ?c3 ?k3 ?a4 ?l4 ?c4 ?k4 ?a5 ?l5 ?c5 ?k5 ?a6 ?l6 ?c6 ?k6 ?a7 ?l7 ?c7 ?k7 ?a8 ?l8 ?c8 ?k8 ?a9 ?l9 ?c9 ?k9 ?a10 ?l10 ?c10 ?k10 ?a11 ?l11 ?c11 ?k11 ?a12 ?l12 ?c12 ?k12 ?a13 ?l13 ?c13 ?k13 ?z_bool ?z_enumerate ?z_int ?z_isinstance ?z_len ?z_list ?z_max ?z_min ?z_range ?z_sum ?z_NoDepth ?x_NoDepth
    (case a1 => k_is)
    (case l1 => k_is)
    (case c1 => k_is)
    (case k1 => k_is)
    (case a2 => k_is)
    (case l2 => k_is)
    (case c2 => k_is)
    (case k2 => k_is)
    (case a3 => k_is)
    (case l3 => k_is)
    (case c3 => k_is)
    (case k3 => k_is)
    (case a4 => k_is)
    (case l4 => k_is)
    (case c4 => k_is)
    (case k4 => k_is)
    (case a5 => k_is)
    (case l5 => k_is)
    (case c5 => k_is)
    (case k5 => k_is)
    (case a6 => k_is)
    (case l6 => k_is)
    (case c6 => k_is)
    (case k6 => k_is)
    (case a7 => k_is)
    (case l7 => k_is)
    (case c7 => k_is)
    (case k7 => k_is)
    (case a8 => k_is)
    (case l8 => k_is)
    (case c8 => k_is)
    (case k8 => k_is)
    (case a9 => k_is)
    (case l9 => k_is)
    (case c9 => k_is)
    (case k9 => k_is)
    (case a10 => k_is)
    (case l10 => k_is)
    (case c10 => k_is)
    (case k10 => k_is)
    (case a11 => k_is)
    (case l11 => k_is)
    (case c11 => k_is)
    (case k11 => k_is)
    (case a12 => k_is)
    (case l12 => k_is)
    (case c12 => k_is)
    (case k12 => k_is)
    (case a13 => k_is)
    (case l13 => k_is)
    (case c13 => k_is)
    (case k13 => k_is)
    (case z_bool => k_is)
    (case z_enumerate => k_is)
    (case z_int => k_is)
    (case z_isinstance => k_is)
    (case z_len => k_is)
    (case z_list => k_is)
    (case z_max => k_is)
    (case z_min => k_is)
    (case z_range => k_is)
    (case z_sum => k_is)
    (case z_NoDepth => k_is)
    (case x_NoDepth => show PySem.W.excIn _ _ _ _ = true; kernel_rfl)