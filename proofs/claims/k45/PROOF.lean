import PyProof.Rows.All
import Wide.All
import OpenK.AllK
import Wide.FinOn
import Lean
import PyProof.EqAt
import PyProof.EqKinds
import PyProof.TupleCall
import PySem.Challenge.RW_deeprests_k45_whole_endless_roots_lead_o
set_option Elab.async false
set_option linter.all false
set_option maxRecDepth 100000
namespace L2
open PySem PySem.Spec PyProof.Rows
abbrev Key := Sum Int Str
def keyIs : Key → Value → Bool
  | .inl k, v => Value.isInt k v
  | .inr x, v => Value.isStrOf x v
def keyH (w : World) : Key → Int
  | .inl k => hashInt k
  | .inr x => hashStr w x
theorem keyIs_shape : ∀ {k : Key} {v : Value}, keyIs k v = true → (∃ i t, k = Sum.inl i ∧ v = Value.int i t) ∨ (∃ x t, k = Sum.inr x ∧ v = Value.str x t)
  | .inl i, v, h => by
    obtain ⟨t, e⟩ := Value.isInt_shape (k := i) (v := v) h
    exact .inl ⟨i, t, rfl, e⟩
  | .inr x, v, h => by
    obtain ⟨t, e⟩ := Value.isStrOf_shape (x := x) (v := v) h
    exact .inr ⟨x, t, rfl, e⟩
theorem key_ll (a b : Int) : decide ((Sum.inl a : Key) = Sum.inl b) = (a == b) := by
  by_cases e : a = b
  · subst e; simp
  · have h : ¬ (Sum.inl a : Key) = Sum.inl b := fun q => e (Sum.inl.inj q)
    rw [decide_eq_false h]
    exact (beq_eq_false_iff_ne.mpr e).symm
theorem key_rr (a b : Str) : decide ((Sum.inr a : Key) = Sum.inr b) = decide (a = b) := by
  by_cases e : a = b
  · subst e; simp
  · have h : ¬ (Sum.inr a : Key) = Sum.inr b := fun q => e (Sum.inr.inj q)
    rw [decide_eq_false h, decide_eq_false e]
theorem key_lr (a : Int) (b : Str) : decide ((Sum.inl a : Key) = Sum.inr b) = false := decide_eq_false (fun q => nomatch q)
theorem key_rl (a : Str) (b : Int) : decide ((Sum.inr a : Key) = Sum.inl b) = false := decide_eq_false (fun q => nomatch q)
def mixKind (prog : Program) (w : World) : PySem.KeyKind prog w Key where
  is := keyIs
  hash := keyH w
  inj := fun v a b ha hb => by
    rcases keyIs_shape ha with ⟨i, t, rfl, rfl⟩ | ⟨x, t, rfl, rfl⟩
    · rcases keyIs_shape hb with ⟨j, u, rfl, e⟩ | ⟨y, u, rfl, e⟩
      · injection e with e1 _; rw [e1]
      · exact nomatch e
    · rcases keyIs_shape hb with ⟨j, u, rfl, e⟩ | ⟨y, u, rfl, e⟩
      · exact nomatch e
      · injection e with e1 _; rw [e1]
  byValue := fun k v h => by
    rcases keyIs_shape h with ⟨i, t, rfl, rfl⟩ | ⟨x, t, rfl, rfl⟩ <;> rfl
  pyHash := fun hv h => by
    rcases keyIs_shape hv with ⟨i, t, rfl, rfl⟩ | ⟨x, t, rfl, rfl⟩
    · exact wpAny_pyHash_int h
    · exact wpAny_pyHash_str h
  eqBool := fun hu hv h => by
    rcases keyIs_shape hu with ⟨i, t, rfl, rfl⟩ | ⟨x, t, rfl, rfl⟩
    · rcases keyIs_shape hv with ⟨j, u, rfl, rfl⟩ | ⟨y, u, rfl, rfl⟩
      · rw [key_ll] at h; exact wpAny_eqBool_int h
      · rw [key_lr] at h; exact SeqAt.EqAt.int_str i t y u _ _ _ _ h
    · rcases keyIs_shape hv with ⟨j, u, rfl, rfl⟩ | ⟨y, u, rfl, rfl⟩
      · rw [key_rl] at h; exact SeqAt.EqAt.str_int x t j u _ _ _ _ h
      · rw [key_rr] at h; exact wpAny_eqBool_str h
  «strs» := fun k x t v h => by
    rcases keyIs_shape h with ⟨i, u, rfl, e⟩ | ⟨y, u, rfl, e⟩
    · exact nomatch e
    · injection e with e1 _
      subst e1
      cases v <;> rfl
end L2
namespace L2
open PySem PySem.Spec PyProof.Rows
inductive V where
  | non | bl (b : Bool) | int (i : Int) | str (x : Str) | byt (b : Array UInt8) | flt (b : UInt64) | ref (a : Addr) | ty (n : String)
  deriving DecidableEq
def RelV : V → Value → Prop
  | .non, u => u = Value.none
  | .bl b, u => u = Value.bool b
  | .int i, u => ∃ t, u = Value.int i t
  | .str x, u => ∃ t, u = Value.str x t
  | .byt b, u => ∃ t, u = Value.bytes b t
  | .flt b, u => ∃ t, u = Value.float b t
  | .ref a, u => u = Value.ref a
  | .ty n, u => u = Value.type n
abbrev Vals : List V → List Value → Prop := Paired RelV
theorem Vals.length {xs : List V} {us : List Value} (r : Vals xs us) : xs.length = us.length := Paired.length r
theorem Vals.get : ∀ {xs : List V} {us : List Value} {i : Nat} {x : V}, Vals xs us → xs[i]? = some x → ∃ u, us[i]? = some u ∧ RelV x u
  | _, _, _, _, .nil, e => by simp at e
  | _, _, 0, _, .cons r _, e => by simp at e; subst e; exact ⟨_, rfl, r⟩
  | _, _, i + 1, x, .cons _ t, e => by
    obtain ⟨u, h1, h2⟩ := Vals.get (i := i) (x := x) t (by simpa using e)
    exact ⟨u, by simpa using h1, h2⟩
theorem Vals.set {x : V} {u : Value} (r : RelV x u) : ∀ {xs : List V} {us : List Value} (i : Nat), Vals xs us → Vals (xs.set i x) (us.set i u)
  | _, _, _, .nil => .nil
  | _, _, 0, .cons _ t => .cons r t
  | _, _, i + 1, .cons q t => .cons q (Vals.set r i t)
theorem Vals.append : ∀ {xs ys : List V} {us ws : List Value}, Vals xs us → Vals ys ws → Vals (xs ++ ys) (us ++ ws)
  | _, _, _, _, .nil, s => s
  | _, _, _, _, .cons r t, s => .cons r (Vals.append t s)
theorem Vals.take : ∀ {xs : List V} {us : List Value} (n : Nat), Vals xs us → Vals (xs.take n) (us.take n)
  | _, _, 0, _ => .nil
  | _, _, _ + 1, .nil => .nil
  | _, _, n + 1, .cons r t => .cons r (Vals.take n t)
theorem Vals.drop : ∀ {xs : List V} {us : List Value} (n : Nat), Vals xs us → Vals (xs.drop n) (us.drop n)
  | _, _, 0, r => r
  | _, _, _ + 1, .nil => .nil
  | _, _, n + 1, .cons _ t => Vals.drop n t
def RelO : Option V → Option Value → Prop
  | some v, some u => RelV v u
  | none, none => True
  | _, _ => False
def KV {κ : Type} : List (κ × V) → List (κ × Value) → Prop := Paired fun (p : κ × V) (q : κ × Value) => p.1 = q.1 ∧ RelV p.2 q.2
def kV : Key → V
  | .inl i => .int i
  | .inr x => .str x
inductive HO where
  | lst (xs : List V)
  | tup (xs : List V)
  | dK (kvs : List (Key × V)) | dT (kvs : List (List Key × V))
  | set (S : Int → Bool) (n : Nat)
  | ins (C dx : Addr) (fs : List (Str × V))
  | own (x : Addr)
  | xd (fs : List (Str × V))
  | met (f x : Addr)
  | rng (lo hi : Int)
  | frz (o : Obj) (u : HO)
  | tbl (ps : Array Value)
  | ext (φ : Heap → Prop)
abbrev Hp := Addr → Option HO
def upd (H : Hp) (a : Addr) (o : HO) : Hp := fun b => if b = a then some o else H b
theorem upd_same {H : Hp} {a : Addr} {o : HO} : upd H a o a = some o := by unfold upd; rw [if_pos rfl]
theorem upd_ne {H : Hp} {a b : Addr} {o : HO} (h : b ≠ a) : upd H a o b = H b := by unfold upd; rw [if_neg h]
theorem ne_of_none {H : Hp} {a b : Addr} {o : HO} (h : H a = some o) (h' : H b = none) : a ≠ b := by
  intro e; subst e; rw [h] at h'; cases h'
section
variable (P : Program) (w : World)
def ObjOk (H : Hp) (h : Heap) (a : Addr) : HO → Prop
  | .lst xs => xs.length ≤ sizeLine ∧ ∃ (its : List Value) (n : Nat), Vals xs its ∧ h.get? a = some { cls := .type "list", data := .seq its.toArray n }
  | .tup xs => xs.length ≤ sizeLine ∧ ∃ its : List Value, Vals xs its ∧ IsTup h a its.toArray
  | .dK kvs => kvs.length ≤ sizeLine ∧ (a == sysModules) = false ∧ ∃ vs, KV kvs vs ∧ h.DictOf (mixKind P w) a vs
  | .dT kvs => kvs.length ≤ sizeLine ∧ (a == sysModules) = false ∧ ∃ xs : List (List Key × Addr × Value),
      Paired (fun (p : List Key × V) (q : List Key × Addr × Value) => p.1 = q.1 ∧ H q.2.1 = some (.tup (p.1.map kV)) ∧ RelV p.2 q.2.2) kvs xs ∧
      ∃ o es ep, h.get? a = some o ∧ o.ExactDict ∧ o.data = .dict es ep ∧ es.toList = xs.map (entryOfKey (tupleKind (mixKind P w))) ∧ (xs.map (·.1)).Nodup
  | .set S n => h.SetOf (intKind P w) a S n
  | .ins C dx fs => H dx = some (.own a) ∧ fs.length ≤ 1000 ∧ dx ≠ a ∧ h.get? a = some (PySem.W.instObj C dx) ∧
      ∃ mA, h.Ns1 dx mA ∧ (∀ f, RelO (fs.lookup f) (mA f)) ∧ PySem.Within mA (fs.map (·.1))
  | .own _ => ∃ o, h.get? a = some o
  | .xd fs => ∃ mA, h.Ns1 a mA ∧ ∀ f, RelO (fs.lookup f) (mA f)
  | .rng lo hi => ∃ t u v, h.get? a = some { cls := .type "range", data := .fields #[.int lo t, .int hi u, .int 1 v] }
  | .frz o u => h.get? a = some o ∧ ObjOk H h a u
  | .tbl ps => h.get? a = some { cls := .none, data := .fields ps }
  | .met f x => h.get? a = some (PySem.W.methodObj (.ref f) (.ref x))
  | .ext φ => φ h ∧ (∃ o, h.get? a = some o) ∧ ∀ h1 h2 : Heap, φ h1 → (∀ o, h1.get? a = some o → h2.get? a = some o) → φ h2
def HOk (H : Hp) (h : Heap) : Prop := ∀ a o, H a = some o → ObjOk P w H h a o
end
section
variable {P : Program} {w : World} {H H' : Hp} {h h' : Heap} {a : Addr} {o : HO}
theorem ObjOk.lt (x : ObjOk P w H h a o) : a < h.objs.size := by
  cases o with
  | lst xs => obtain ⟨_, _, _, _, e⟩ := x; exact Heap.lt_size e
  | tup xs => obtain ⟨_, _, _, p⟩ := x; exact p.lt
  | dK kvs => obtain ⟨_, _, _, _, o, _, _, e, _⟩ := x; exact Heap.lt_size e
  | dT kvs => obtain ⟨_, _, _, _, o, _, _, e, _⟩ := x; exact Heap.lt_size e
  | set S n => obtain ⟨o, _, _, _, e, _⟩ := x; exact Heap.lt_size e
  | ins C dx fs => obtain ⟨_, _, _, e, _⟩ := x; exact Heap.lt_size e
  | own y => obtain ⟨_, e⟩ := x; exact Heap.lt_size e
  | xd fs => obtain ⟨_, ⟨_, _, _, e, _⟩, _⟩ := x; exact Heap.lt_size e
  | rng lo hi => obtain ⟨_, _, _, e⟩ := x; exact Heap.lt_size e
  | frz ob u => obtain ⟨e, _⟩ := x; exact Heap.lt_size e
  | tbl ps => exact Heap.lt_size (show h.get? a = some _ from x)
  | met f y => exact Heap.lt_size (show h.get? a = some _ from x)
  | ext φ => obtain ⟨_, ⟨_, e⟩, _⟩ := x; exact Heap.lt_size e
theorem Paired.mapP {α β : Type} {F G : α → β → Prop} : ∀ {l₁ : List α} {l₂ : List β}, Paired F l₁ l₂ → (∀ a b, F a b → G a b) → Paired G l₁ l₂
  | _, _, .nil, _ => .nil
  | _, _, .cons r t, f => .cons (f _ _ r) (Paired.mapP t f)
theorem ObjOk.stay (x : ObjOk P w H h a o) (k : ∀ b u, (b = a ∨ H b = some (.own a)) → h.get? b = some u → h'.get? b = some u)
    (ho : ∀ b, H b = some (.own a) → H' b = some (.own a)) (ht : ∀ b xs, H b = some (.tup xs) → H' b = some (.tup xs)) : ObjOk P w H' h' a o := by
  induction o with
  | lst xs => obtain ⟨z, its, n, r, e⟩ := x; exact ⟨z, its, n, r, k _ _ (.inl rfl) e⟩
  | tup xs => obtain ⟨z, its, r, ob, e, c⟩ := x; exact ⟨z, its, r, ob, k _ _ (.inl rfl) e, c⟩
  | dK kvs => obtain ⟨z, y, vs, r, ob, es, ep, e, c⟩ := x; exact ⟨z, y, vs, r, ob, es, ep, k _ _ (.inl rfl) e, c⟩
  | dT kvs =>
    obtain ⟨z, y, xs, r, ob, es, ep, e, c⟩ := x
    exact ⟨z, y, xs, Paired.mapP r fun p q z => ⟨z.1, ht _ _ z.2.1, z.2.2⟩, ob, es, ep, k _ _ (.inl rfl) e, c⟩
  | set S n => obtain ⟨ob, es, ep, t, e, c⟩ := x; exact ⟨ob, es, ep, t, k _ _ (.inl rfl) e, c⟩
  | ins C dx fs =>
    obtain ⟨d, z, ne, e, mA, ⟨od, es, ep, e2, c⟩, r⟩ := x
    exact ⟨ho _ d, z, ne, k _ _ (.inl rfl) e, mA, ⟨od, es, ep, k _ _ (.inr d) e2, c⟩, r⟩
  | own y => obtain ⟨ob, e⟩ := x; exact ⟨ob, k _ _ (.inl rfl) e⟩
  | xd fs => obtain ⟨mA, ⟨od, es, ep, e, c⟩, r⟩ := x; exact ⟨mA, ⟨od, es, ep, k _ _ (.inl rfl) e, c⟩, r⟩
  | rng lo hi => obtain ⟨t, u, v, e⟩ := x; exact ⟨t, u, v, k _ _ (.inl rfl) e⟩
  | frz ob u ih => obtain ⟨e, q⟩ := x; exact ⟨k _ _ (.inl rfl) e, ih q⟩
  | tbl ps =>
    have e : h.get? a = some { cls := .none, data := .fields ps } := x
    show h'.get? a = some { cls := .none, data := .fields ps }
    exact k a _ (.inl rfl) e
  | met f y =>
    have e : h.get? a = some (PySem.W.methodObj (.ref f) (.ref y)) := x
    show h'.get? a = some (PySem.W.methodObj (.ref f) (.ref y))
    exact k a _ (.inl rfl) e
  | ext φ => obtain ⟨p, ⟨o, e⟩, st⟩ := x; exact ⟨st _ _ p fun o q => k _ _ (.inl rfl) q, ⟨o, k _ _ (.inl rfl) e⟩, st⟩
theorem HOk.lt (x : HOk P w H h) (e : H a = some o) : a < h.objs.size := (x a o e).lt
theorem HOk.fresh (x : HOk P w H h) (e : h.objs.size ≤ a) : H a = none := by
  cases q : H a with
  | none => rfl
  | some u => exact absurd (Nat.lt_of_lt_of_le (x.lt q) e) (Nat.lt_irrefl _)
theorem HOk.kept (x : HOk P w H h) (k : ∀ b u, h.get? b = some u → h'.get? b = some u) : HOk P w H h' := fun a o e =>
  (x a o e).stay (fun b u _ q => k b u q) (fun _ q => q) fun _ _ q => q
theorem HOk.laid (x : HOk P w H h) (k : ∀ b u, h.get? b = some u → h'.get? b = some u) (hp : h.objs.size ≤ a) (new : ObjOk P w (upd H a o) h' a o) : HOk P w (upd H a o) h' := fun b u e => by
  have hn := x.fresh hp
  by_cases hb : b = a
  · subst hb; rw [upd_same] at e; cases e; exact new
  · rw [upd_ne hb] at e
    exact (x b u e).stay (fun c v _ q => k c v q) (fun c q => by rw [upd_ne (ne_of_none q hn)]; exact q) fun c xs q => by rw [upd_ne (ne_of_none q hn)]; exact q
end
def Rd (H : Hp) (a : Addr) (u : HO) : Prop := H a = some u ∨ ∃ o, H a = some (.frz o u)
theorem Rd.ok {P : Program} {w : World} {H : Hp} {h : Heap} {a : Addr} {u : HO} (r : Rd H a u) (x : HOk P w H h) : ObjOk P w H h a u := by
  rcases r with r | ⟨o, r⟩
  · exact x a u r
  · obtain ⟨_, q⟩ := x a _ r
    exact q
def Mut : Option HO → Prop
  | some (.lst _) => True
  | some (.dK _) => True
  | some (.dT _) => True
  | some (.set _ _) => True
  | some (.ins _ _ _) => True
  | some (.ext _) => True
  | _ => False
section
variable {P : Program} {w : World} {H : Hp} {h h' : Heap} {x e : Addr} {o' : HO}
theorem HOk.write (ok : HOk P w H h) (mu : Mut (H x)) (he : e = x ∨ H e = some (.own x)) (k : ∀ b u, b ≠ e → h.get? b = some u → h'.get? b = some u) (heo : ∃ u, h'.get? e = some u)
    (new : ObjOk P w (upd H x o') h' x o') : HOk P w (upd H x o') h' := fun b u q => by
  have nown : ∀ c y, H c = some (.own y) → c ≠ x := fun c y r z => by subst z; rw [r] at mu; exact mu
  have ntup : ∀ c xs, H c = some (.tup xs) → c ≠ x := fun c xs r z => by subst z; rw [r] at mu; exact mu
  by_cases hb : b = x
  · subst hb; rw [upd_same] at q; cases q; exact new
  · rw [upd_ne hb] at q
    by_cases hbe : b = e
    · have q' : H b = some (.own x) := by
        rcases he with z | z
        · exact absurd (hbe.trans z) hb
        · rw [hbe]; exact z
      rw [q] at q'; cases q'
      obtain ⟨v, hv⟩ := heo
      exact ⟨v, by rw [hbe]; exact hv⟩
    · refine (ok b u q).stay (fun c v hc r => k c v ?_ r) (fun c r => by rw [upd_ne (nown c b r)]; exact r) fun c xs r => by rw [upd_ne (ntup c xs r)]; exact r
      rcases hc with rfl | hc
      · exact hbe
      · rintro rfl
        rcases he with z | z
        · exact nown c b hc z
        · rw [hc] at z; cases z; exact hb rfl
end
structure Un (fs ex : List Addr) (H H' : Hp) (h h' : Heap) : Prop where
  keep : ∀ b o, h.get? b = some o → H b = none → b ∉ fs → b ∉ ex → h'.get? b = some o
  slot : ∀ b o, h.get? b = some o → H b = none → b ∈ fs → b ∉ ex → ∃ sl, h'.get? b = some { o with slots := sl }
  free : ∀ b o, h.get? b = some o → H b = none → b ∉ ex → H' b = none
  there : ∀ b o, h.get? b = some o → b ∉ ex → ∃ o', h'.get? b = some o'
  tups : ∀ b xs, H b = some (.tup xs) → H' b = some (.tup xs)
  frzs : ∀ b o u, H b = some (.frz o u) → H' b = some (.frz o u)
  tbls : ∀ b ps, H b = some (.tbl ps) → ∃ more, H' b = some (.tbl (ps ++ more))
section
variable {fs fs' ex ex' : List Addr} {H H1 H2 : Hp} {h h1 h2 h' : Heap} {a x e : Addr} {o : HO}
theorem Un.any (u : Un fs ex H H1 h h1) {b : Addr} {ob : Obj} (q : h.get? b = some ob) (n : H b = none) (hx : b ∉ ex) : ∃ sl, h1.get? b = some { ob with slots := sl } := by
  by_cases hb : b ∈ fs
  · exact u.slot b ob q n hb hx
  · exact ⟨ob.slots, u.keep b ob q n hb hx⟩
theorem Un.kept (k : ∀ b u, h.get? b = some u → h'.get? b = some u) : Un fs ex H H h h' :=
  ⟨fun b ob q _ _ _ => k b ob q, fun b ob q _ _ _ => ⟨ob.slots, k b ob q⟩, fun _ _ _ n _ => n, fun b ob q _ => ⟨ob, k b ob q⟩, fun _ _ q => q, fun _ _ _ q => q, fun _ ps q => ⟨#[], by rw [q]; simp⟩⟩
theorem Un.refl : Un fs ex H H h h := Un.kept fun _ _ q => q
theorem Un.laid (k : ∀ b u, h.get? b = some u → h'.get? b = some u) (hp : h.objs.size ≤ a) (hn : H a = none) : Un fs ex H (upd H a o) h h' where
  keep := fun b u q _ _ _ => k b u q
  slot := fun b u q _ _ _ => ⟨u.slots, k b u q⟩
  free := fun b u q n _ => by rw [upd_ne (Nat.ne_of_lt (Nat.lt_of_lt_of_le (Heap.lt_size q) hp))]; exact n
  there := fun b u q _ => ⟨u, k b u q⟩
  tups := fun b xs q => by rw [upd_ne (ne_of_none q hn)]; exact q
  frzs := fun b u xs q => by rw [upd_ne (ne_of_none q hn)]; exact q
  tbls := fun b ps q => ⟨#[], by rw [upd_ne (ne_of_none q hn), q]; simp⟩
theorem Un.write (mu : Mut (H x)) (he : e = x ∨ H e = some (.own x)) (k : ∀ b u, b ≠ e → h.get? b = some u → h'.get? b = some u) (heo : ∃ u, h'.get? e = some u) : Un fs ex H (upd H x o) h h' := by
  have hx : ∀ b, H b = none → b ≠ x := fun b n z => by subst z; rw [n] at mu; exact mu
  have hb : ∀ b, H b = none → b ≠ e := fun b n z => by
    subst z
    rcases he with r | r
    · exact hx b n r
    · rw [n] at r; cases r
  have hm : ∀ b u, H b = some u → ¬ Mut (some u) → b ≠ x := fun b u q nm z => by subst z; rw [q] at mu; exact nm mu
  refine ⟨fun b u q n _ _ => k b u (hb b n) q, fun b u q n _ _ => ⟨u.slots, k b u (hb b n) q⟩, fun b u q n _ => by rw [upd_ne (hx b n)]; exact n, fun b u q _ => ?_,
    fun b xs q => by rw [upd_ne (hm b _ q fun z => z)]; exact q, fun b u xs q => by rw [upd_ne (hm b _ q fun z => z)]; exact q, fun b ps q => ⟨#[], by rw [upd_ne (hm b _ q fun z => z), q]; simp⟩⟩
  by_cases hbe : b = e
  · subst hbe; exact heo
  · exact ⟨u, k b u hbe q⟩
end
def trk (h : Heap) (H : Hp) : List Addr := (List.range h.objs.size).filter fun a => (H a).isSome
def hidT (h : Heap) (H : Hp) : Heap := PySem.W.hideAll h (trk h H)
theorem hidT_size (h : Heap) (H : Hp) : (hidT h H).objs.size = h.objs.size := PySem.W.hideAll_size _ _
theorem hidT_get {h : Heap} {H : Hp} {b : Addr} {o : Obj} (e : h.get? b = some o) (n : H b = none) : (hidT h H).get? b = some o :=
  PySem.W.hideAll_get _ e fun hm => by
    have q : (H b).isSome = true := (List.mem_filter.mp hm).2
    rw [n] at q; simp at q
theorem of_hidT {h : Heap} {H : Hp} {b : Addr} {o : Obj} (e : (hidT h H).get? b = some o) : h.get? b = some o ∧ H b = none := by
  have e' : h.get? b = some o := PySem.W.of_hideAll (trk h H) e
  refine ⟨e', ?_⟩
  cases q : H b with
  | none => rfl
  | some x =>
    have hm : b ∈ trk h H := List.mem_filter.mpr ⟨List.mem_range.mpr (Heap.lt_size e'), by simp [q]⟩
    have z : (hidT h H).get? b = none := PySem.W.hideAll_none (trk h H) hm
    rw [z] at e; cases e
def allNews (g h : Heap) (L : Addr) : List (Addr × Obj) := (List.range h.objs.size).filterMap fun a => if a = L ∨ (g.get? a).isSome = true then none else (h.get? a).map fun o => (a, o)
def rest (g h : Heap) (L d : Addr) : List (Addr × Obj) := (allNews g h L).filter fun p => decide (p.1 ≠ d)
end L2
namespace L2
open PySem PySem.Spec PyProof.Rows
structure Mod (K : PySem.W.Frag) (mg : Str → Option Value) (base : Heap) : Prop where
  kin : K.In base
  glob : base.Ns mainGlobals mg
  blt : ∃ mb, base.Ns builtinsNs mb ∧ ∀ x : Str, x ≠ "__name__" → mb x = bootBuiltins x
  nolimit : base.NoLimit
/-- the context: a def's body (or a comprehension's block) running. base: fixed through the whole law; s₀, H₀: the entry; outer: the frames whose slots others may change (a def's callers); stack: all frames that run;
   ex: iterators that were made ahead of the entry and are walked here (a comprehension's); fn: the names whose cells were made at the entry (a def: all; a comprehension's block: its own); calm: not within an except suite; pn: pins that every state bears; xe: what is wanted of an exception that leaves the code -/
structure Cx where
  prog : Program
  w : World
  K : PySem.W.Frag
  mg : Str → Option Value
  base : Heap
  A : Around
  N : List Str
  s₀ : Shared
  H₀ : Hp
  env : Env
  outer : List Env
  stack : List Env
  ex : List Addr
  fn : Str → Bool
  calm : Bool
  pn : List (Addr × Obj)
  xe : Value → Shared → Prop
def frs (l : List Env) : List Addr := l.filterMap (·.frame)
abbrev Cx.fs (X : Cx) : List Addr := frs X.outer
def Vis (sc : Scope) (x : Str) : Prop := sc.names.lookup x = some .local ∨ sc.names.lookup x = some .cell ∨ sc.names.lookup x = some .free
def Loc (sc : Scope) (x : Str) : Prop := sc.names.lookup x = some .local ∨ sc.names.lookup x = some .cell
def Look (env : Env) (h : Heap) (m : Str → Option Value) (x : Str) (u : Value) : Prop :=
  (env.kindOf x = some .local ∧ m x = some u) ∨ ((env.kindOf x = some .cell ∨ env.kindOf x = some .free) ∧ ∃ c, env.cells.lookup x = some c ∧ h.IsCell c (some u))
structure Cx.Ok (X : Cx) : Prop where
  mod : Mod X.K X.mg X.base
  kind : X.env.scope.kind = .function
  glob : X.env.globals = mainGlobals
  blt : X.env.builtins = builtinsNs
  above : X.s₀.heap.objs.size ≤ X.env.locals
  inj : ∀ x y c, X.env.cells.lookup x = some c → X.env.cells.lookup y = some c → x = y
  has : ∀ x, (X.env.kindOf x = some .cell ∨ X.env.kindOf x = some .free) → ∃ c, X.env.cells.lookup x = some c
  cab : ∀ x c, X.fn x = true → X.env.cells.lookup x = some c → X.s₀.heap.objs.size ≤ c
  hd : X.calm = true → X.A.handled = none
  frames : X.A.frames = some X.stack
  stk : X.stack = X.outer ∨ (X.stack = X.env :: X.outer ∧ X.env.frame = some X.env.locals)
  exf : ∀ b ∈ X.ex, b ≠ X.env.locals ∧ ∀ x c, X.env.cells.lookup x = some c → c ≠ b
  bs : ∀ b o, X.base.get? b = some o → X.s₀.heap.get? b = some o ∧ X.H₀ b = none
  bsz : X.base.objs.size ≤ X.s₀.heap.objs.size
  noex : ∀ b o, X.base.get? b = some o → b ∉ X.ex
  exfs : ∀ b ∈ X.ex, b ∉ X.fs
  funs : X.s₀.heap.FunFrames X.base X.outer
  frf : ∀ b ∈ X.fs, X.H₀ b = none
structure Inv (X : Cx) (pins : List (Addr × Obj)) (σ : List (Option V)) (H : Hp) (s : Shared) : Prop where
  ok : X.Ok
  os : s.os = X.s₀.os
  bare : AllBare s.gens
  base : Un X.fs X.ex X.H₀ H X.s₀.heap s.heap
  loc : ∃ m, s.heap.Ns X.env.locals m ∧ ∀ (i : Nat) (x : Str) (v : V), X.N[i]? = some x → σ[i]? = some (some v) → Vis X.env.scope x → ∃ u, RelV v u ∧ Look X.env s.heap m x u
  cell : ∀ x c, X.env.cells.lookup x = some c → ∃ v, s.heap.IsCell c v
  free : H X.env.locals = none
  freeC : ∀ x c, X.env.cells.lookup x = some c → H c = none
  pin : ∀ p ∈ X.pn ++ pins, s.heap.get? p.1 = some p.2 ∧ H p.1 = none ∧ p.1 ≠ X.env.locals ∧ p.1 ∉ X.fs ∧ ∀ v, p.2.data ≠ .cell v
  hok : HOk X.prog X.w H s.heap
  len : σ.length = X.N.length
section
variable {X : Cx} {pins : List (Addr × Obj)} {σ : List (Option V)} {H H' : Hp} {s : Shared} {h' : Heap}
theorem Cx.Ok.nofr (ok : X.Ok) {b : Addr} {o : Obj} (e : X.base.get? b = some o) : b ∉ X.fs := fun hb => by
  have := (ok.funs.mem hb).1
  rw [e] at this; cases this
theorem Inv.bs (I : Inv X pins σ H s) : ∀ b o, X.base.get? b = some o → s.heap.get? b = some o ∧ H b = none := fun b o e =>
  ⟨I.base.keep b o (I.ok.bs b o e).1 (I.ok.bs b o e).2 (I.ok.nofr e) (I.ok.noex b o e), I.base.free b o (I.ok.bs b o e).1 (I.ok.bs b o e).2 (I.ok.noex b o e)⟩
theorem Inv.bk (I : Inv X pins σ H s) : ∀ b o, X.base.get? b = some o → s.heap.get? b = some o := fun b o e => (I.bs b o e).1
theorem Inv.mod (I : Inv X pins σ H s) : Mod X.K X.mg X.base := I.ok.mod
theorem Inv.kIn (I : Inv X pins σ H s) : X.K.In s.heap := I.ok.mod.kin.keeps I.bk
theorem Inv.lt (I : Inv X pins σ H s) : X.env.locals < s.heap.objs.size := let ⟨_, hn, _⟩ := I.loc; hn.lt
theorem Inv.sz (I : Inv X pins σ H s) : X.s₀.heap.objs.size ≤ s.heap.objs.size := Nat.le_trans I.ok.above (Nat.le_of_lt I.lt)
theorem Inv.nofs (I : Inv X pins σ H s) {a : Addr} (h : s.heap.objs.size ≤ a) : a ∉ X.fs := fun hb => by
  obtain ⟨_, o, ho, _⟩ := I.ok.funs.mem hb
  exact absurd (Nat.lt_of_lt_of_le (Heap.lt_size ho) (Nat.le_trans I.sz h)) (Nat.lt_irrefl _)
theorem Inv.cne (I : Inv X pins σ H s) : ∀ x c, X.env.cells.lookup x = some c → c ≠ X.env.locals := fun x c e z => by
  obtain ⟨v, o, ho, hd⟩ := I.cell x c e
  obtain ⟨m, ⟨o', es, ep, ho', hd', _⟩, _⟩ := I.loc
  rw [z, ho'] at ho; cases ho; rw [hd'] at hd; cases hd
theorem Inv.funs (I : Inv X pins σ H s) : s.heap.FunFrames X.base X.outer := by
  have all : ∀ (l : List Env), (∀ b ∈ frs l, b ∈ X.fs) → X.s₀.heap.FunFrames X.base l → s.heap.FunFrames X.base l := by
    intro l
    induction l with
    | nil => intro _ _; trivial
    | cons env r ih =>
      intro hs hl
      obtain ⟨hk, ⟨L, o, hf, hn, ho, hd⟩, hr⟩ := hl
      have hL : L ∈ X.fs := hs L (by unfold frs; rw [List.filterMap_cons, hf]; exact List.mem_cons_self)
      obtain ⟨sl, e⟩ := I.base.slot L o ho (I.ok.frf L hL) hL fun z => I.ok.exfs L z hL
      exact ⟨hk, ⟨L, _, hf, hn, e, hd⟩, ih (fun b hb => hs b (by unfold frs; rw [List.filterMap_cons, hf]; exact List.mem_cons_of_mem _ hb)) hr⟩
  exact all X.outer (fun _ hb => hb) I.ok.funs
theorem Inv.stack (I : Inv X pins σ H s) : s.heap.FunFrames X.base X.stack := by
  rcases I.ok.stk with e | ⟨e, hf⟩
  · rw [e]; exact I.funs
  · rw [e]
    obtain ⟨m, hn, _⟩ := I.loc
    refine .cons (by rw [I.ok.kind]; decide) hf hn ?_ I.funs
    exact Heap.get?_none_of_le (Nat.le_trans I.ok.bsz I.ok.above)
theorem Inv.stkSub (I : Inv X pins σ H s) : ∀ b ∈ frs X.stack, b ∈ X.env.locals :: X.fs := fun b hb => by
  rcases I.ok.stk with e | ⟨e, hf⟩
  · rw [e] at hb; exact List.mem_cons_of_mem _ hb
  · rw [e] at hb
    unfold frs at hb
    rw [List.filterMap_cons, hf] at hb
    exact hb
theorem Inv.stkFree (I : Inv X pins σ H s) : ∀ b ∈ frs X.stack, H b = none := fun b hb => by
  rcases List.mem_cons.mp (I.stkSub b hb) with e | hb
  · rw [e]; exact I.free
  · obtain ⟨_, o, ho, _⟩ := I.ok.funs.mem hb
    exact I.base.free b o ho (I.ok.frf b hb) fun z => I.ok.exfs b z hb
theorem Inv.step {g' : Array GenState} {t' : Nat} {d' : Drawn} {ch : List Addr} (I : Inv X pins σ H s)
    (hch : ∀ b ∈ ch, (b ∈ X.ex ∨ X.s₀.heap.objs.size ≤ b) ∧ b ≠ X.env.locals ∧ (∀ x c, X.env.cells.lookup x = some c → c ≠ b) ∧ ∀ p ∈ X.pn ++ pins, p.1 ≠ b)
    (keep : ∀ b o, b ≠ X.env.locals → b ∉ X.fs → b ∉ ch → s.heap.get? b = some o → H b = none → h'.get? b = some o)
    (slot : ∀ b o, b ≠ X.env.locals → b ∈ X.fs → b ∉ ch → s.heap.get? b = some o → H b = none → ∃ sl, h'.get? b = some { o with slots := sl }) (free : ∀ b o, b ∉ ch → s.heap.get? b = some o → H b = none → H' b = none)
    (there : ∀ b o, b ∉ ch → s.heap.get? b = some o → ∃ o', h'.get? b = some o')
    (tups : ∀ b xs, H b = some (.tup xs) → H' b = some (.tup xs)) (frzs : ∀ b o u, H b = some (.frz o u) → H' b = some (.frz o u)) (tbls : ∀ b ps, H b = some (.tbl ps) → ∃ more, H' b = some (.tbl (ps ++ more)))
    (ns : ∀ m, s.heap.Ns X.env.locals m → h'.Ns X.env.locals m) (hok : HOk X.prog X.w H' h') (hg : AllBare g') :
    Inv X pins σ H' { s with heap := h', gens := g', drawn := d', toks := t' } := by
  have neL : ∀ b o, X.s₀.heap.get? b = some o → b ≠ X.env.locals := fun b o e => Nat.ne_of_lt (Nat.lt_of_lt_of_le (Heap.lt_size e) I.ok.above)
  have neC : ∀ b o, X.s₀.heap.get? b = some o → b ∉ X.ex → b ∉ ch := fun b o e hx hb => by
    rcases (hch b hb).1 with z | z
    · exact hx z
    · exact absurd (Nat.lt_of_lt_of_le (Heap.lt_size e) z) (Nat.lt_irrefl _)
  have cellK : ∀ x c, X.env.cells.lookup x = some c → ∀ v, s.heap.IsCell c v → h'.IsCell c v := fun x c e v ⟨o, ho, hd⟩ => by
    have nch : c ∉ ch := fun z => (hch c z).2.2.1 x c e rfl
    by_cases hc : c ∈ X.fs
    · obtain ⟨sl, q⟩ := slot c o (I.cne x c e) hc nch ho (I.freeC x c e)
      exact ⟨_, q, hd⟩
    · exact ⟨o, keep c o (I.cne x c e) hc nch ho (I.freeC x c e), hd⟩
  refine ⟨I.ok, I.os, hg, ⟨fun b o e n hb hx => ?_, fun b o e n hb hx => ?_, fun b o e n hx => ?_, fun b o e hx => ?_, fun b xs e => tups b xs (I.base.tups b xs e), fun b o xs e => frzs b o xs (I.base.frzs b o xs e), fun b ps e => ?_⟩, ?_, fun x c e => ?_, ?_, fun x c e => ?_, fun p hp => ?_, hok, I.len⟩
  · exact keep b o (neL b o e) hb (neC b o e hx) (I.base.keep b o e n hb hx) (I.base.free b o e n hx)
  · obtain ⟨sl, e1⟩ := I.base.slot b o e n hb hx
    obtain ⟨sl', e2⟩ := slot b _ (neL b o e) hb (neC b o e hx) e1 (I.base.free b o e n hx)
    exact ⟨sl', e2⟩
  · obtain ⟨o', e1⟩ := I.base.there b o e hx
    exact free b o' (neC b o e hx) e1 (I.base.free b o e n hx)
  · obtain ⟨o', e1⟩ := I.base.there b o e hx
    exact there b o' (neC b o e hx) e1
  · obtain ⟨m1, e1⟩ := I.base.tbls b ps e
    obtain ⟨m2, e2⟩ := tbls b _ e1
    exact ⟨m1 ++ m2, by rw [e2, Array.append_assoc]⟩
  · obtain ⟨m, hn, hl⟩ := I.loc
    refine ⟨m, ns m hn, fun i x v e1 e2 e3 => ?_⟩
    obtain ⟨u, r, l⟩ := hl i x v e1 e2 e3
    refine ⟨u, r, ?_⟩
    rcases l with l | ⟨k, c, e, z⟩
    · exact .inl l
    · exact .inr ⟨k, c, e, cellK x c e _ z⟩
  · obtain ⟨v, z⟩ := I.cell x c e
    exact ⟨v, cellK x c e v z⟩
  · obtain ⟨m, ⟨o, _, _, ho, _⟩, _⟩ := I.loc
    exact free _ o (fun z => (hch _ z).2.1 rfl) ho I.free
  · obtain ⟨v, o, ho, hd⟩ := I.cell x c e
    exact free c o (fun z => (hch c z).2.2.1 x c e rfl) ho (I.freeC x c e)
  · obtain ⟨e, n, ne, nf, d⟩ := I.pin p hp
    have nch : p.1 ∉ ch := fun z => (hch p.1 z).2.2.2 p hp rfl
    exact ⟨keep p.1 p.2 ne nf nch e n, free p.1 p.2 nch e n, ne, nf, d⟩
theorem Inv.un {t' : Nat} (I : Inv X pins σ H s) (u : Un X.fs [] H H' s.heap h') (hok : HOk X.prog X.w H' h') : Inv X pins σ H' { s with heap := h', toks := t' } := by
  obtain ⟨m, ⟨o, es, ep, ho, r⟩, _⟩ := id I.loc
  obtain ⟨sl, hL⟩ := u.any ho I.free (by simp)
  exact I.step (g' := s.gens) (d' := s.drawn) (ch := []) (fun _ z => nomatch z) (fun b o _ hb _ e n => u.keep b o e n hb (by simp)) (fun b o _ hb _ e n => u.slot b o e n hb (by simp)) (fun b o _ e n => u.free b o e n (by simp)) (fun b o _ e => u.there b o e (by simp)) u.tups u.frzs u.tbls (fun m' hm => by
    obtain ⟨o', es', ep', ho', r'⟩ := hm
    rw [ho] at ho'; cases ho'
    exact ⟨_, es', ep', hL, r'⟩) hok I.bare
theorem Inv.call {g' : Array GenState} {t' : Nat} {d' : Drawn} {ch : List Addr} (I : Inv X pins σ H s) (u : Un (frs X.stack) ch H H' s.heap h') (hok : HOk X.prog X.w H' h') (hg : AllBare g')
    (hch : ∀ b ∈ ch, (b ∈ X.ex ∨ X.s₀.heap.objs.size ≤ b) ∧ b ≠ X.env.locals ∧ (∀ x c, X.env.cells.lookup x = some c → c ≠ b) ∧ ∀ p ∈ X.pn ++ pins, p.1 ≠ b) :
    Inv X pins σ H' { s with heap := h', gens := g', drawn := d', toks := t' } := by
  obtain ⟨m, ⟨o, es, ep, ho, r⟩, _⟩ := id I.loc
  obtain ⟨sl, hL⟩ := u.any ho I.free fun z => (hch _ z).2.1 rfl
  exact I.step (ch := ch) hch (fun b o hL hb hc e n => u.keep b o e n (fun z => (List.mem_cons.mp (I.stkSub b z)).elim hL hb) hc) (fun b o _ _ hc e n => u.any e n hc) (fun b o hc e n => u.free b o e n hc) (fun b o hc e => u.there b o e hc) u.tups u.frzs u.tbls (fun m' hm => by
    obtain ⟨o', es', ep', ho', r'⟩ := hm
    rw [ho] at ho'; cases ho'
    exact ⟨_, es', ep', hL, r'⟩) hok hg
theorem Inv.turned {t' : Nat} {it : Addr} (I : Inv X pins σ H s) (k : ∀ b o, b ≠ it → s.heap.get? b = some o → h'.get? b = some o) (hn : H it = none) (hL : it ≠ X.env.locals)
    (h1 : it ∈ X.ex ∨ X.s₀.heap.objs.size ≤ it) (h2 : ∀ x c, X.env.cells.lookup x = some c → c ≠ it) (h3 : ∀ p ∈ X.pn ++ pins, p.1 ≠ it) : Inv X pins σ H { s with heap := h', toks := t' } := by
  have nit : ∀ b u, H b = some u → b ≠ it := fun b u e z => by rw [z, hn] at e; cases e
  refine I.step (g' := s.gens) (d' := s.drawn) (ch := [it]) (fun b hb => ?_) (fun b o _ _ hc e _ => k b o (fun z => hc (by simp [z])) e) (fun b o _ _ hc e _ => ⟨o.slots, k b o (fun z => hc (by simp [z])) e⟩) (fun _ _ _ _ n => n)
    (fun b o hc e => ⟨o, k b o (fun z => hc (by simp [z])) e⟩) (fun _ _ e => e) (fun _ _ _ e => e) (fun b ps e => ⟨#[], by rw [e]; simp⟩) (fun m hm => ?_) (fun b u e => ?_) I.bare
  · have e : b = it := by simpa using hb
    subst e
    exact ⟨h1, hL, h2, h3⟩
  · obtain ⟨o, es, ep, ho, r⟩ := hm
    exact ⟨o, es, ep, k _ o (Ne.symm hL) ho, r⟩
  · refine (I.hok b u e).stay (fun c v hc q => k c v ?_ q) (fun _ q => q) fun _ _ q => q
    rcases hc with z | z
    · rw [z]; exact nit b u e
    · exact nit c _ z
theorem Inv.tok (I : Inv X pins σ H s) (t : Nat) : Inv X pins σ H { s with toks := t } := I.un (h' := s.heap) (t' := t) Un.refl I.hok
theorem Inv.kept {t' : Nat} (I : Inv X pins σ H s) (k : ∀ b u, s.heap.get? b = some u → h'.get? b = some u) : Inv X pins σ H { s with heap := h', toks := t' } := I.un (Un.kept k) (I.hok.kept k)
theorem Inv.laid {a : Addr} {o : HO} {t' : Nat} (I : Inv X pins σ H s) (k : ∀ b u, s.heap.get? b = some u → h'.get? b = some u) (hp : s.heap.objs.size ≤ a) (new : ObjOk X.prog X.w (upd H a o) h' a o) :
    Inv X pins σ (upd H a o) { s with heap := h', toks := t' } := I.un (Un.laid k hp (I.hok.fresh hp)) (I.hok.laid k hp new)
theorem Inv.write {x e : Addr} {o : HO} {t' : Nat} (I : Inv X pins σ H s) (mu : Mut (H x)) (he : e = x ∨ H e = some (.own x)) (k : ∀ b u, b ≠ e → s.heap.get? b = some u → h'.get? b = some u) (heo : ∃ u, h'.get? e = some u)
    (new : ObjOk X.prog X.w (upd H x o) h' x o) : Inv X pins σ (upd H x o) { s with heap := h', toks := t' } := I.un (Un.write mu he k heo) (I.hok.write mu he k heo new)
theorem Inv.pins_of {pins' : List (Addr × Obj)} (I : Inv X pins σ H s) (h : ∀ p ∈ pins', s.heap.get? p.1 = some p.2 ∧ H p.1 = none ∧ p.1 ≠ X.env.locals ∧ p.1 ∉ X.fs ∧ ∀ v, p.2.data ≠ .cell v) : Inv X pins' σ H s :=
  ⟨I.ok, I.os, I.bare, I.base, I.loc, I.cell, I.free, I.freeC, fun p hp => (List.mem_append.mp hp).elim (fun z => I.pin p (List.mem_append_left _ z)) (h p), I.hok, I.len⟩
theorem nodup_ix {N : List Str} (hN : N.Nodup) {i j : Nat} {x : Str} (a : N[i]? = some x) (b : N[j]? = some x) : i = j := by
  obtain ⟨h1, e1⟩ := List.getElem?_eq_some_iff.mp a
  obtain ⟨h2, e2⟩ := List.getElem?_eq_some_iff.mp b
  exact (List.getElem_inj hN).mp (e1.trans e2.symm)
theorem store_ok2 {M : Model} {A : Around} {E : Value → Shared → Prop} {i : Nat} {x : Str} {v : V} {u : Value} {Q : Unit → Shared → Prop} (I : Inv X pins σ H s) (hN : X.N.Nodup) (hi : X.N[i]? = some x) (hx : Loc X.env.scope x) (r : RelV v u)
    (h : ∀ s', Inv X pins (σ.set i (some v)) H s' → (∃ a, Heap.SameBut a s.heap s'.heap ∧ (a = X.env.locals ∨ X.env.cells.lookup x = some a)) → Q () s') (hf : X.fn x = true ∨ X.env.scope.names.lookup x = some .local := by first | exact .inl rfl | exact .inr rfl | assumption) : wpAny M A (storeName X.env x u) Q E s := by
  obtain ⟨m, hn, hl⟩ := id I.loc
  have hcls : (X.env.scope.kind == .class || (X.env.scope.kind == .module && X.env.locals != X.env.globals)) = false := by rw [I.ok.kind]; rfl
  have hiσ : i < σ.length := by rw [I.len]; exact (List.getElem?_eq_some_iff.mp hi).1
  have cne := I.cne
  have tracked : ∀ {a : Addr} {h' : Heap}, (∃ o, s.heap.get? a = some o ∧ H a = none) → Heap.SameBut a s.heap h' → HOk X.prog X.w H h' := fun {a h'} ha hs b ob e => by
    obtain ⟨_, _, hfree⟩ := ha
    refine (I.hok b ob e).stay (fun c w' hc q => (hs.2 c ?_).trans q) (fun _ q => q) fun _ _ q => q
    rintro rfl
    rcases hc with rfl | hc
    · rw [hfree] at e; cases e
    · rw [hfree] at hc; cases hc
  rcases hx with hk | hk
  · refine wpAny_storeName_local hk hn (fun h' hn' hs => ?_) hcls
    obtain ⟨oL, _, _, hoL, _⟩ := id hn
    refine h _ ⟨I.ok, I.os, I.bare, ⟨fun b o e n hb hx => ?_, fun b o e n hb hx => ?_, I.base.free, fun b o e hx => ?_, I.base.tups, I.base.frzs, I.base.tbls⟩, ⟨_, hn', fun j y v' e1 e2 e3 => ?_⟩, fun y c e => ?_, I.free, I.freeC, fun p hp => ?_, tracked ⟨oL, hoL, I.free⟩ hs, by simpa using I.len⟩ ⟨_, hs, .inl rfl⟩
    · exact (hs.2 b (Nat.ne_of_lt (Nat.lt_of_lt_of_le (Heap.lt_size e) I.ok.above))).trans (I.base.keep b o e n hb hx)
    · obtain ⟨sl, e1⟩ := I.base.slot b o e n hb hx
      exact ⟨sl, (hs.2 b (Nat.ne_of_lt (Nat.lt_of_lt_of_le (Heap.lt_size e) I.ok.above))).trans e1⟩
    · obtain ⟨o', e1⟩ := I.base.there b o e hx
      exact ⟨o', (hs.2 b (Nat.ne_of_lt (Nat.lt_of_lt_of_le (Heap.lt_size e) I.ok.above))).trans e1⟩
    · by_cases hj : j = i
      · subst hj
        rw [hi] at e1; cases e1
        rw [List.getElem?_set_self hiσ] at e2
        cases e2
        exact ⟨u, r, .inl ⟨hk, by simp⟩⟩
      · rw [List.getElem?_set_ne (Ne.symm hj)] at e2
        obtain ⟨u', r', q⟩ := hl j y v' e1 e2 e3
        refine ⟨u', r', ?_⟩
        rcases q with ⟨k, e⟩ | ⟨k, c, e, z⟩
        · refine .inl ⟨k, ?_⟩
          have : y ≠ x := fun e => hj (nodup_ix hN e1 (e ▸ hi))
          simp [this, e]
        · exact .inr ⟨k, c, e, z.sameBut hs (cne y c e)⟩
    · obtain ⟨w', z⟩ := I.cell y c e
      exact ⟨w', z.sameBut hs (cne y c e)⟩
    · obtain ⟨e, n, ne, nf, d⟩ := I.pin p hp
      exact ⟨(hs.2 p.1 ne).trans e, n, ne, nf, d⟩
  · have hfn : X.fn x = true := by
      rcases hf with z | z
      · exact z
      · rw [z] at hk; cases hk
    obtain ⟨c, hc⟩ := I.ok.has x (.inl hk)
    obtain ⟨w', z⟩ := I.cell x c hc
    refine wpAny_storeName_cell I.ok.kind hk hc z (fun h' hc' hs => ?_)
    obtain ⟨oc, hoc, hocd⟩ := id z
    refine h { s with heap := h' } ⟨I.ok, I.os, I.bare, ⟨fun b o e n hb hx => ?_, fun b o e n hb hx => ?_, I.base.free, fun b o e hx => ?_, I.base.tups, I.base.frzs, I.base.tbls⟩, ⟨m, hn.sameBut hs (Ne.symm (cne x c hc)), fun j y v' e1 e2 e3 => ?_⟩, fun y c' e => ?_, I.free, I.freeC, fun p hp => ?_, tracked ⟨oc, hoc, I.freeC x c hc⟩ hs, by simpa using I.len⟩ ⟨c, hs, .inr hc⟩
    · exact (hs.2 b (Nat.ne_of_lt (Nat.lt_of_lt_of_le (Heap.lt_size e) (I.ok.cab x c hfn hc)))).trans (I.base.keep b o e n hb hx)
    · obtain ⟨sl, e1⟩ := I.base.slot b o e n hb hx
      exact ⟨sl, (hs.2 b (Nat.ne_of_lt (Nat.lt_of_lt_of_le (Heap.lt_size e) (I.ok.cab x c hfn hc)))).trans e1⟩
    · obtain ⟨o', e1⟩ := I.base.there b o e hx
      exact ⟨o', (hs.2 b (Nat.ne_of_lt (Nat.lt_of_lt_of_le (Heap.lt_size e) (I.ok.cab x c hfn hc)))).trans e1⟩
    · by_cases hj : j = i
      · subst hj
        rw [hi] at e1; cases e1
        rw [List.getElem?_set_self hiσ] at e2
        cases e2
        exact ⟨u, r, .inr ⟨.inl hk, c, hc, hc'⟩⟩
      · rw [List.getElem?_set_ne (Ne.symm hj)] at e2
        obtain ⟨u', r', q⟩ := hl j y v' e1 e2 e3
        refine ⟨u', r', ?_⟩
        rcases q with q | ⟨k, c', e, z'⟩
        · exact .inl q
        · refine .inr ⟨k, c', e, z'.sameBut hs ?_⟩
          rintro rfl
          exact hj (nodup_ix hN e1 (I.ok.inj _ _ _ e hc ▸ hi))
    · by_cases hcc : c' = c
      · subst hcc; exact ⟨_, hc'⟩
      · obtain ⟨w2, z2⟩ := I.cell y c' e
        exact ⟨w2, z2.sameBut hs hcc⟩
    · obtain ⟨e, n, ne, nf, d⟩ := I.pin p hp
      refine ⟨(hs.2 p.1 ?_).trans e, n, ne, nf, d⟩
      intro q
      rw [q, hoc] at e
      have q' : oc = p.2 := Option.some.inj e
      exact d w' (by rw [← q']; exact hocd)
theorem store_ok {M : Model} {A : Around} {E : Value → Shared → Prop} {i : Nat} {x : Str} {v : V} {u : Value} {Q : Unit → Shared → Prop} (I : Inv X pins σ H s) (hN : X.N.Nodup) (hi : X.N[i]? = some x) (hx : Loc X.env.scope x) (r : RelV v u)
    (h : ∀ s', Inv X pins (σ.set i (some v)) H s' → Q () s') (hf : X.fn x = true ∨ X.env.scope.names.lookup x = some .local := by first | exact .inl rfl | exact .inr rfl | assumption) : wpAny M A (storeName X.env x u) Q E s :=
  store_ok2 I hN hi hx r (fun s' I' _ => h s' I') hf
theorem Inv.call' {s' : Shared} {ch : List Addr} (I : Inv X pins σ H s) (ho : s'.os = s.os) (u : Un (frs X.stack) ch H H' s.heap s'.heap) (hok : HOk X.prog X.w H' s'.heap) (hg : AllBare s'.gens)
    (hch : ∀ b ∈ ch, (b ∈ X.ex ∨ X.s₀.heap.objs.size ≤ b) ∧ b ≠ X.env.locals ∧ (∀ x c, X.env.cells.lookup x = some c → c ≠ b) ∧ ∀ p ∈ X.pn ++ pins, p.1 ≠ b) : Inv X pins σ H' s' := by
  obtain ⟨h', g', d', t', o'⟩ := s'
  have e : o' = s.os := ho
  subst e
  exact I.call (g' := g') (t' := t') (d' := d') u hok hg hch
end
abbrev XK := Value → Option Addr → Hp → Prop
abbrev St := List (Option V)
abbrev VK := V → Hp → Prop
abbrev TE := St → Hp → VK → Prop
abbrev TT := St → Hp → (Bool → Hp → Prop) → Prop
abbrev TA := St → Hp → (List V → Hp → Prop) → Prop
structure Ends where
  nx : St → Hp → Prop
  rt : VK
  bk : St → Hp → Prop := fun _ _ => False
  ct : St → Hp → Prop := fun _ _ => False
abbrev TS := Ends → St → Hp → Prop
def EP (X : Cx) (pins : List (Addr × Obj)) (σ : St) (Q : VK) (u : Value) (s' : Shared) : Prop := ∃ v H', Inv X pins σ H' s' ∧ RelV v u ∧ Q v H'
def TP (X : Cx) (pins : List (Addr × Obj)) (σ : St) (Q : Bool → Hp → Prop) (b : Bool) (s' : Shared) : Prop := ∃ H', Inv X pins σ H' s' ∧ Q b H'
def AP (X : Cx) (pins : List (Addr × Obj)) (σ : St) (Q : List V → Hp → Prop) (us : List Value) (s' : Shared) : Prop := ∃ vs H', Inv X pins σ H' s' ∧ Vals vs us ∧ Q vs H'
def SP (X : Cx) (pins : List (Addr × Obj)) (D : Ends) (f : Flow) (s' : Shared) : Prop :=
  match f with
  | .next => ∃ σ' H', Inv X pins σ' H' s' ∧ D.nx σ' H'
  | .brk => ∃ σ' H', Inv X pins σ' H' s' ∧ D.bk σ' H'
  | .cont => ∃ σ' H', Inv X pins σ' H' s' ∧ D.ct σ' H'
  | .ret u => ∃ v σ' H', Inv X pins σ' H' s' ∧ RelV v u ∧ D.rt v H'
def PE (X : Cx) (e : Expr) (t : TE) : Prop :=
  ∀ (pins : List (Addr × Obj)) (s : Shared) (σ : St) (H : Hp) (Q : VK), Inv X pins σ H s → t σ H Q → wpAny (model X.prog X.w) X.A (eval e X.env) (EP X pins σ Q) X.xe s
def PT (X : Cx) (e : Expr) (t : TT) : Prop :=
  ∀ (pins : List (Addr × Obj)) (s : Shared) (σ : St) (H : Hp) (Q : Bool → Hp → Prop), Inv X pins σ H s → t σ H Q → wpAny (model X.prog X.w) X.A (isTrue e X.env (eval e X.env)) (TP X pins σ Q) X.xe s
def PW (X : Cx) (e : Expr) (t : TT) : Prop :=
  ∀ (whole : Sem Value) (pins : List (Addr × Obj)) (s : Shared) (σ : St) (H : Hp) (Q : Bool → Hp → Prop), Inv X pins σ H s → t σ H Q → wpAny (model X.prog X.w) X.A (isTrue e X.env whole) (TP X pins σ Q) X.xe s
theorem PW.pt {X : Cx} {e : Expr} {t : TT} (h : PW X e t) : PT X e t := h _
def PA (X : Cx) (es : List Expr) (t : TA) : Prop :=
  ∀ (pos : Pos) (pins : List (Addr × Obj)) (s : Shared) (σ : St) (H : Hp) (Q : List V → Hp → Prop), Inv X pins σ H s → t σ H Q → wpAny (model X.prog X.w) X.A (spliced (backTo pos (starEach es X.env))) (AP X pins σ Q) X.xe s
def PS (X : Cx) (st : Stmt) (t : TS) : Prop :=
  ∀ (pins : List (Addr × Obj)) (s : Shared) (σ : St) (H : Hp) (D : Ends), Inv X pins σ H s → t D σ H → wpAny (model X.prog X.w) X.A (exec st X.env) (SP X pins D) X.xe s
def PSs (X : Cx) (st : List Stmt) (t : TS) : Prop :=
  ∀ (pins : List (Addr × Obj)) (s : Shared) (σ : St) (H : Hp) (D : Ends), Inv X pins σ H s → t D σ H → wpAny (model X.prog X.w) X.A (execs st X.env) (SP X pins D) X.xe s
theorem thn {α : Type} {t : Sem α} {Q Q' : α → Shared → Prop} {M : Model} {A : Around} {E : Value → Shared → Prop} {s : Shared} (h : wpAny M A t Q E s) (hQ : ∀ a s, Q a s → Q' a s) : wpAny M A t Q' E s := wpAny_mono h hQ fun _ _ x => x
end L2
namespace L2
open PySem PySem.Spec PyProof.Rows
section
variable {X : Cx}
def tVar (i : Nat) : TE := fun σ H Q => ∃ v, σ[i]? = some (some v) ∧ Q v H
def tC (v : V) : TE := fun _ H Q => Q v H
theorem pe_var {i : Nat} {x : Str} {pos : Pos} (hN : X.N[i]? = some x) (hv : Vis X.env.scope x) (hd : (x == ("__debug__" : Str)) = false := by decide) (hcd : (x == ("__classdict__" : Str)) = false := by decide) : PE X (.Name x pos) (tVar i) := by
  intro pins s σ H Q I h
  obtain ⟨v, e, h⟩ := h
  obtain ⟨m, hn, hl⟩ := I.loc
  obtain ⟨u, r, l⟩ := hl i x v hN e hv
  have fin : EP X pins σ Q u s := ⟨v, H, I, r, h⟩
  rcases l with ⟨hk, hm⟩ | ⟨hk, c, hc, hcell⟩
  · exact wpAny_Name (wpAny_loadName_local I.ok.kind hk hn hm fin) hd
  · rcases hk with hk | hk
    · exact wpAny_Name (wpAny_loadName_cell I.ok.kind hk hc hcell fin) hd
    · exact wpAny_Name (wpAny_loadName_free I.ok.kind hk hc hcell fin hcd) hd
theorem pe_int {i j pos} : PE X (.Constant (.int i) j pos) (tC (.int i)) := fun _ _ _ H _ I h => wpAny_Constant_int ⟨.int i, H, I.tok _, ⟨_, rfl⟩, h⟩
theorem pe_bl {b j pos} : PE X (.Constant (.bool b) j pos) (tC (.bl b)) := fun _ _ _ H _ I h => Constant_bool ⟨.bl b, H, I, rfl, h⟩
theorem pe_non {j pos} : PE X (.Constant .none j pos) (tC .non) := fun _ _ _ H _ I h => Constant_none ⟨.non, H, I, rfl, h⟩
theorem pe_str {x j pos} : PE X (.Constant (.str x) j pos) (tC (.str x)) := fun _ _ _ H _ I h => Calls.Constant_str ⟨.str x, H, I.tok _, ⟨_, rfl⟩, h⟩
def Gl (X : Cx) (x : Str) : Prop := X.env.kindOf x = some .globalImplicit
theorem ld_glob {E : Value → Shared → Prop} {pins : List (Addr × Obj)} {s : Shared} {σ : St} {H : Hp} {x : Str} {u : Value} {pos : Pos} {Q : Value → Shared → Prop} (I : Inv X pins σ H s) (hg : Gl X x) (hm : X.mg x = some u) (h : Q u s)
    (hd : (x == ("__debug__" : Str)) = false := by decide) : wpAny (model X.prog X.w) X.A (eval (.Name x pos) X.env) Q E s :=
  Calls.Name_function_global I.ok.kind hg (Calls.loadGlobal_global (by rw [I.ok.glob]; exact I.mod.glob.keeps I.bk) hm h) hd
theorem ld_blt {E : Value → Shared → Prop} {pins : List (Addr × Obj)} {s : Shared} {σ : St} {H : Hp} {x : Str} {u : Value} {pos : Pos} {Q : Value → Shared → Prop} (I : Inv X pins σ H s) (hg : Gl X x) (hm : X.mg x = none) (hv : bootBuiltins x = some u) (h : Q u s)
    (hn : x ≠ "__name__" := by decide) (hd : (x == ("__debug__" : Str)) = false := by decide) : wpAny (model X.prog X.w) X.A (eval (.Name x pos) X.env) Q E s := by
  obtain ⟨mb, h1, h2⟩ := I.mod.blt
  exact Calls.Name_function_global I.ok.kind hg (Calls.loadGlobal_builtin (by rw [I.ok.glob]; exact I.mod.glob.keeps I.bk) hm (by rw [I.ok.blt]; exact h1.keeps I.bk) ((h2 x hn).trans hv) h) hd
theorem pe_glob {x : Str} {v : V} {u : Value} {pos : Pos} (hg : Gl X x) (hm : X.mg x = some u) (r : RelV v u) (hd : (x == ("__debug__" : Str)) = false := by decide) : PE X (.Name x pos) (tC v) :=
  fun _ _ _ H _ I h => ld_glob I hg hm ⟨v, H, I, r, h⟩ hd
theorem pe_bltn {x : Str} {v : V} {u : Value} {pos : Pos} (hg : Gl X x) (hm : X.mg x = none) (hv : bootBuiltins x = some u) (r : RelV v u) (hn : x ≠ "__name__" := by decide) (hd : (x == ("__debug__" : Str)) = false := by decide) : PE X (.Name x pos) (tC v) :=
  fun _ _ _ H _ I h => ld_blt I hg hm hv ⟨v, H, I, r, h⟩ hn hd
def t2I (ta tb : TE) (k : Int → Int → Hp → Prop) : St → Hp → Prop := fun σ H => ta σ H fun x H1 => tb σ H1 fun y H2 => ∃ i j, x = .int i ∧ y = .int j ∧ k i j H2
def tAdd (ta tb : TE) : TE := fun σ H Q => t2I ta tb (fun i j H2 => Q (.int (i + j)) H2) σ H
def tSub (ta tb : TE) : TE := fun σ H Q => t2I ta tb (fun i j H2 => Q (.int (i - j)) H2) σ H
def tMul (ta tb : TE) : TE := fun σ H Q => t2I ta tb (fun i j H2 => (-(2 ^ 64) < i ∧ i < 2 ^ 64) ∧ Q (.int (i * j)) H2) σ H
variable {a b : Expr} {ta tb : TE} {pos : Pos}
def PC (X : Cx) (op : CmpOp) (a b : Expr) (t : TE) : Prop :=
  ∀ (pins : List (Addr × Obj)) (s : Shared) (σ : St) (H : Hp) (Q : VK), Inv X pins σ H s → t σ H Q →
    wpAny (model X.prog X.w) X.A (eval a X.env) (fun v s₁ => wpAny (model X.prog X.w) X.A (eval b X.env) (fun u s₂ => wpAny (model X.prog X.w) X.A (compareOp op v u) (EP X pins σ Q) X.xe s₂) X.xe s₁) X.xe s
def tCmp (p : Int → Int → Bool) (ta tb : TE) : TE := fun σ H Q => t2I ta tb (fun i j H2 => Q (.bl (p i j)) H2) σ H
abbrev tLt : TE → TE → TE := tCmp fun i j => decide (i < j)
abbrev tLe : TE → TE → TE := tCmp fun i j => decide (i ≤ j)
abbrev tGt : TE → TE → TE := tCmp fun i j => decide (j < i)
abbrev tGe : TE → TE → TE := tCmp fun i j => decide (j ≤ i)
abbrev tEqI : TE → TE → TE := tCmp fun i j => decide (i = j)
abbrev tNeI : TE → TE → TE := tCmp fun i j => !decide (i = j)
def tIsN (ta : TE) : TE := fun σ H Q => ta σ H fun x H1 => Q (.bl (decide (x = .non))) H1
def tNotN (ta : TE) : TE := fun σ H Q => ta σ H fun x H1 => Q (.bl (!decide (x = .non))) H1
def tB (t : TE) : TT := fun σ H Q => t σ H fun x H1 => ∃ c, x = .bl c ∧ Q c H1
theorem pt_val {e : Expr} {t : TE} (h : PE X e t) (he : ∀ whole, isTrue e X.env whole = (do let v ← whole; standAt e.pos; holding [v] (truthy v)) := by intro _; rfl) : PT X e (tB t) := by
  intro pins s σ H Q I hw
  refine isTrue_plain (thn (h pins s σ H _ I hw) fun v s1 ⟨x, H1, I1, r1, q1⟩ => ?_) (he _)
  obtain ⟨d, rfl, q⟩ := q1
  cases r1
  exact wpAny_truthy_bool ⟨H1, I1, q⟩
variable {tA tB' : TT} {rest : List Expr}
def tAnd (t u : TT) : TT := fun σ H Q => t σ H fun c H1 => if c = true then u σ H1 Q else Q false H1
def tOr (t u : TT) : TT := fun σ H Q => t σ H fun c H1 => if c = true then Q true H1 else u σ H1 Q
def tNot (t : TT) : TT := fun σ H Q => t σ H fun c H1 => Q (!c) H1
theorem pw_and1 (ha : PT X a tA) : PW X (.BoolOp .And [a] pos) tA := by
  intro wh pins s σ H Q I h
  refine isTrue_and (thn (ha pins s σ H Q I h) fun c s1 e => ?_)
  cases c with
  | true => exact isTrue_and_nil e
  | false => exact e
theorem pw_or1 (ha : PT X a tA) : PW X (.BoolOp .Or [a] pos) tA := by
  intro wh pins s σ H Q I h
  refine isTrue_or (thn (ha pins s σ H Q I h) fun c s1 e => ?_)
  cases c with
  | false => exact isTrue_or_nil e
  | true => exact e
theorem pw_and (ha : PT X a tA) (hb : PW X (.BoolOp .And (b :: rest) pos) tB') : PW X (.BoolOp .And (a :: b :: rest) pos) (tAnd tA tB') := by
  intro wh pins s σ H Q I h
  refine isTrue_and (thn (ha pins s σ H _ I h) fun c s1 ⟨H1, I1, q1⟩ => ?_)
  cases c with
  | true => exact hb wh pins s1 σ H1 Q I1 q1
  | false => exact ⟨H1, I1, q1⟩
theorem pw_or (ha : PT X a tA) (hb : PW X (.BoolOp .Or (b :: rest) pos) tB') : PW X (.BoolOp .Or (a :: b :: rest) pos) (tOr tA tB') := by
  intro wh pins s σ H Q I h
  refine isTrue_or (thn (ha pins s σ H _ I h) fun c s1 ⟨H1, I1, q1⟩ => ?_)
  cases c with
  | true => exact ⟨H1, I1, q1⟩
  | false => exact hb wh pins s1 σ H1 Q I1 q1
theorem pt_not (ha : PT X a tA) : PT X (.UnaryOp .Not a pos) (tNot tA) := by
  intro pins s σ H Q I h
  exact isTrue_not (ha pins s σ H (fun c H1 => Q (!c) H1) I h)
def tAndV (ta tb : TE) : TE := fun σ H Q => ta σ H fun x H1 => ∃ c, x = .bl c ∧ if c = true then tb σ H1 Q else Q (.bl false) H1
def tOrV (ta tb : TE) : TE := fun σ H Q => ta σ H fun x H1 => ∃ c, x = .bl c ∧ if c = true then Q (.bl true) H1 else tb σ H1 Q
def tNotV (ta : TE) : TE := fun σ H Q => ta σ H fun x H1 => ∃ c, x = .bl c ∧ Q (.bl (!c)) H1
theorem pe_one {op} {t : TE} (h : PE X a t) : PE X (.BoolOp op [a] pos) t := fun pins s σ H Q I hw => BoolOp_one (h pins s σ H Q I hw)
theorem pe_and (ha : PE X a ta) (hb : PE X (.BoolOp .And (b :: rest) pos) tb) : PE X (.BoolOp .And (a :: b :: rest) pos) (tAndV ta tb) := by
  intro pins s σ H Q I h
  refine BoolOp_and (thn (ha pins s σ H _ I h) fun v s1 ⟨x, H1, I1, r1, q1⟩ => ?_)
  obtain ⟨c, rfl, q1⟩ := q1
  cases r1
  refine wpAny_truthy_bool ?_
  cases c with
  | true => exact hb pins s1 σ H1 Q I1 q1
  | false => exact ⟨.bl false, H1, I1, rfl, q1⟩
def tIf (t : TT) (ta tb : TE) : TE := fun σ H Q => t σ H fun c H1 => if c = true then ta σ H1 Q else tb σ H1 Q
end
end L2
namespace L2
open PySem PySem.Spec PyProof.Rows
def SqL (K : PySem.W.Frag) (H : Hp) (a : Addr) (xs : List V) : Prop :=
  Rd H a (.lst xs) ∨
    ∃ (o : Obj) (its : Array Value) (n : Nat), K.lookup a = some o ∧ o.cls = .type "list" ∧ o.dict = none ∧ o.data = .seq its n ∧ its.size ≤ sizeLine ∧ Vals xs its.toList
def SqT (K : PySem.W.Frag) (H : Hp) (a : Addr) (xs : List V) : Prop :=
  Rd H a (.tup xs) ∨
    ∃ (o : Obj) (its : Array Value) (n : Nat), K.lookup a = some o ∧ o.cls = .type "tuple" ∧ o.data = .seq its n ∧ its.size ≤ sizeLine ∧ Vals xs its.toList
def absV : Value → Option V
  | .none => some .non
  | .bool b => some (.bl b)
  | .int i _ => some (.int i)
  | .str x _ => some (.str x)
  | .bytes b _ => some (.byt b)
  | .float b _ => some (.flt b)
  | .ref a => some (.ref a)
  | .type n => some (.ty n)
  | _ => none
theorem RelV.abs {x : V} {u : Value} (r : RelV x u) : absV u = some x := by
  cases x with
  | non => cases r; rfl
  | bl _ => cases r; rfl
  | int _ => obtain ⟨t, rfl⟩ := r; rfl
  | str _ => obtain ⟨t, rfl⟩ := r; rfl
  | byt _ => obtain ⟨t, rfl⟩ := r; rfl
  | flt _ => obtain ⟨t, rfl⟩ := r; rfl
  | ref _ => cases r; rfl
  | ty _ => cases r; rfl
theorem RelV.inj {x y : V} {u : Value} (r : RelV x u) (q : RelV y u) : x = y := Option.some.inj (r.abs.symm.trans q.abs)
theorem Vals.inj : ∀ {xs ys : List V} {us : List Value}, Vals xs us → Vals ys us → xs = ys
  | _, _, _, .nil, .nil => rfl
  | _, _, _, .cons r t, .cons r' t' => by rw [r.inj r', Vals.inj t t']
section
variable {X : Cx} {pins : List (Addr × Obj)} {σ : St} {H : Hp} {s : Shared} {a : Addr} {xs ys : List V}
theorem SqL.of {K : PySem.W.Frag} (h : H a = some (.lst xs)) : SqL K H a xs := .inl (.inl h)
theorem SqT.of {K : PySem.W.Frag} (h : H a = some (.tup xs)) : SqT K H a xs := .inl (.inl h)
theorem Inv.list (I : Inv X pins σ H s) (h : SqL X.K H a xs) : ∃ its : List Value, Vals xs its ∧ PlainL s.heap a its.toArray ∧ xs.length ≤ sizeLine := by
  rcases h with h | ⟨o, its, n, hk, hc, hd, hs, hz, r⟩
  · obtain ⟨z, its, n, r, e⟩ := h.ok I.hok
    exact ⟨its, r, ⟨_, n, e, rfl, rfl, rfl⟩, z⟩
  · refine ⟨its.toList, r, ⟨o, n, I.kIn a o hk, hc, hd, by simpa using hs⟩, ?_⟩
    have e := r.length
    simp only [Array.length_toList] at e
    omega
theorem Inv.tuple (I : Inv X pins σ H s) (h : SqT X.K H a xs) : ∃ its : List Value, Vals xs its ∧ IsTup s.heap a its.toArray ∧ xs.length ≤ sizeLine := by
  rcases h with h | ⟨o, its, n, hk, hc, hs, hz, r⟩
  · obtain ⟨z, its, r, p⟩ := h.ok I.hok
    exact ⟨its, r, p, z⟩
  · refine ⟨its.toList, r, ⟨o, I.kIn a o hk, hc, n, by simpa using hs⟩, ?_⟩
    have e := r.length
    simp only [Array.length_toList] at e
    omega
theorem Inv.list_inj (I : Inv X pins σ H s) (h : SqL X.K H a xs) (h' : SqL X.K H a ys) : xs = ys := by
  obtain ⟨its, r, ⟨o, n, e, _, _, d⟩, _⟩ := I.list h
  obtain ⟨its', r', ⟨o', n', e', _, _, d'⟩, _⟩ := I.list h'
  rw [e] at e'; cases e'
  rw [d] at d'
  injection d' with d1 _
  have : its = its' := by simpa using congrArg Array.toList d1
  subst this
  exact r.inj r'
end
abbrev Cx.wish (X : Cx) (E : Value → Shared → Prop) : Cx := { X with xe := E }
abbrev Cx.nox (X : Cx) : Cx := X.wish fun _ _ => False
theorem Cx.Ok.wish {X : Cx} (ok : X.Ok) (E : Value → Shared → Prop) : (X.wish E).Ok :=
  ⟨ok.mod, ok.kind, ok.glob, ok.blt, ok.above, ok.inj, ok.has, ok.cab, ok.hd, ok.frames, ok.stk, ok.exf, ok.bs, ok.bsz, ok.noex, ok.exfs, ok.funs, ok.frf⟩
theorem Cx.Ok.unwish {X : Cx} {E : Value → Shared → Prop} (ok : (X.wish E).Ok) : X.Ok :=
  ⟨ok.mod, ok.kind, ok.glob, ok.blt, ok.above, ok.inj, ok.has, ok.cab, ok.hd, ok.frames, ok.stk, ok.exf, ok.bs, ok.bsz, ok.noex, ok.exfs, ok.funs, ok.frf⟩
section
variable {X : Cx} {pins : List (Addr × Obj)} {σ : St} {H : Hp} {s : Shared} {E : Value → Shared → Prop}
theorem Inv.wish (I : Inv X pins σ H s) (E : Value → Shared → Prop) : Inv (X.wish E) pins σ H s := ⟨I.ok.wish E, I.os, I.bare, I.base, I.loc, I.cell, I.free, I.freeC, I.pin, I.hok, I.len⟩
theorem Inv.unwish (I : Inv (X.wish E) pins σ H s) : Inv X pins σ H s := ⟨I.ok.unwish, I.os, I.bare, I.base, I.loc, I.cell, I.free, I.freeC, I.pin, I.hok, I.len⟩
theorem SP.unwish {D : Ends} {f : Flow} {s' : Shared} (h : SP (X.wish E) pins D f s') : SP X pins D f s' := by
  cases f with
  | next => obtain ⟨σ', H', I, q⟩ := h; exact ⟨σ', H', I.unwish, q⟩
  | brk => obtain ⟨σ', H', I, q⟩ := h; exact ⟨σ', H', I.unwish, q⟩
  | cont => obtain ⟨σ', H', I, q⟩ := h; exact ⟨σ', H', I.unwish, q⟩
  | ret u => obtain ⟨v, σ', H', I, r, q⟩ := h; exact ⟨v, σ', H', I.unwish, r, q⟩
theorem PSs.nox {st : List Stmt} {t : TS} (h : PSs X.nox st t) : PSs X st t := fun pins s σ H D I hw =>
  wpAny_mono (h pins s σ H D (I.wish _) hw) (fun _ _ q => q.unwish) fun _ _ z => False.elim z
end
section
variable {X : Cx} {st : Stmt} {rest : List Stmt} {t u : TS} {e : Expr} {te : TE} {pos : Pos}
def tNext : TS := fun D σ H => D.nx σ H
def tSeq (t u : TS) : TS := fun D σ H => t { D with nx := u D } σ H
theorem pss_nil : PSs X [] tNext := fun _ _ σ H _ I h => wpAny_execs_nil ⟨σ, H, I, h⟩
theorem pss_cons (h1 : PS X st t) (h2 : PSs X rest u) : PSs X (st :: rest) (tSeq t u) := by
  intro pins s σ H D I h
  refine wpAny_execs_cons (thn (h1 pins s σ H { D with nx := u D } I h) fun f s1 q => ?_)
  cases f with
  | next =>
    obtain ⟨σ', H', I', q⟩ := q
    exact h2 pins s1 σ' H' D I' q
  | ret v => exact q
  | brk => exact q
  | cont => exact q
theorem pss_one (h1 : PS X st t) : PSs X [st] t := by
  intro pins s σ H D I h
  refine wpAny_execs_cons (thn (h1 pins s σ H D I h) fun f s1 q => ?_)
  cases f with
  | next => exact wpAny_execs_nil q
  | ret v => exact q
  | brk => exact q
  | cont => exact q
def tBreak : TS := fun D σ H => D.bk σ H
def tCont : TS := fun D σ H => D.ct σ H
theorem Inv.quiet {pins : List (Addr × Obj)} {σ : St} {H : Hp} {s : Shared} (I : Inv X pins σ H s) : interactive X.env = false := by simp [interactive, I.ok.kind]
def tDrop (te : TE) : TS := fun D σ H => te σ H fun _ H1 => D.nx σ H1
theorem ps_expr (he : PE X e te) (hs : swapsWith e none pos.line X.env = pure false := by rfl) : PS X (.Expr e pos) (tDrop te) := by
  intro pins s σ H D I h
  exact wpAny_Expr_any (thn (he pins s σ H _ I h) fun v s1 ⟨x, H1, I1, r1, q1⟩ => ⟨σ, H1, I1, q1⟩) I.quiet hs
def tRet (te : TE) : TS := fun D σ H => te σ H D.rt
theorem ps_ret (he : PE X e te) : PS X (.Return (some e) pos) (tRet te) := by
  intro pins s σ H D I h
  exact wpAny_Return_some (thn (he pins s σ H _ I h) fun v s1 ⟨x, H1, I1, r1, q1⟩ => ⟨x, σ, H1, I1, r1, q1⟩)
def tRetN : TS := fun D _ H => D.rt .non H
def tIfS (c : TT) (t u : TS) : TS := fun D σ H => c σ H fun b H1 => if b = true then t D σ H1 else u D σ H1
theorem ps_if {c : Expr} {a b : List Stmt} {tc : TT} (hc : PT X c tc) (ha : PSs X a t) (hb : PSs X b u) : PS X (.If c a b pos) (tIfS tc t u) := by
  intro pins s σ H D I h
  refine wpAny_If (thn (hc pins s σ H _ I h) fun d s1 ⟨H1, I1, q1⟩ => ?_)
  cases d with
  | true => exact ha pins s1 σ H1 D I1 q1
  | false => exact hb pins s1 σ H1 D I1 q1
def tNever : TS := fun _ _ _ => False
theorem ps_never : PS X st tNever := fun _ _ _ _ _ _ h => h.elim
end
abbrev TG := V → St → Hp → (St → Hp → Prop) → Prop
abbrev TGs := List V → St → Hp → (St → Hp → Prop) → Prop
def PG (X : Cx) (target : Expr) (t : TG) : Prop :=
  ∀ (pins : List (Addr × Obj)) (s : Shared) (σ : St) (H : Hp) (v : V) (u : Value) (Q : St → Hp → Prop), Inv X pins σ H s → RelV v u → t v σ H Q →
    wpAny (model X.prog X.w) X.A (assign target X.env u) (fun _ s' => ∃ σ' H', Inv X pins σ' H' s' ∧ Q σ' H') X.xe s
def PGs (X : Cx) (ts : List Expr) (t : TGs) : Prop :=
  ∀ (pins : List (Addr × Obj)) (s : Shared) (σ : St) (H : Hp) (vs : List V) (us : List Value) (Q : St → Hp → Prop), Inv X pins σ H s → Vals vs us → t vs σ H Q →
    wpAny (model X.prog X.w) X.A (assignInOrder ((assignEach ts X.env).map (·.2)) us) (fun _ s' => ∃ σ' H', Inv X pins σ' H' s' ∧ Q σ' H') X.xe s
abbrev TSet := V → V → V → Hp → (Hp → Prop) → Prop
def PSet (X : Cx) (t : TSet) : Prop :=
  ∀ (pins : List (Addr × Obj)) (s : Shared) (σ : St) (H : Hp) (o i v : V) (ov iv u : Value) (Q : Hp → Prop), Inv X pins σ H s → RelV o ov → RelV i iv → RelV v u → t o i v H Q →
    wpAny (model X.prog X.w) X.A (setItem ov iv u) (fun _ s' => ∃ H', Inv X pins σ H' s' ∧ Q H') X.xe s
abbrev TIp := V → V → Hp → VK → Prop
def PIp (X : Cx) (op : Operator) (t : TIp) : Prop :=
  ∀ (pins : List (Addr × Obj)) (s : Shared) (σ : St) (H : Hp) (x y : V) (v u : Value) (Q : VK), Inv X pins σ H s → RelV x v → RelV y u → t x y H Q →
    wpAny (model X.prog X.w) X.A (inplaceOp op v u) (EP X pins σ Q) X.xe s
section
variable {X : Cx} {pos : Pos}
def gName (i : Nat) : TG := fun v σ H Q => Q (σ.set i (some v)) H
theorem pg_name {i : Nat} {x : Str} (hN : X.N.Nodup) (hi : X.N[i]? = some x) (hx : Loc X.env.scope x) (hf : X.fn x = true ∨ X.env.scope.names.lookup x = some .local := by first | exact .inl rfl | exact .inr rfl | assumption) : PG X (.Name x pos) (gName i) := by
  intro pins s σ H v u Q I r h
  exact wpAny_assign_Name (store_ok I hN hi hx r (fun s' I' => ⟨_, H, I', h⟩) hf)
def gNil : TGs := fun vs σ H Q => vs = [] ∧ Q σ H
def gCons (t : TG) (u : TGs) : TGs := fun vs σ H Q => ∃ v r, vs = v :: r ∧ t v σ H fun σ' H' => u r σ' H' Q
theorem pgs_nil : PGs X [] gNil := by
  intro pins s σ H vs us Q I r h
  obtain ⟨e, h⟩ := h
  subst e
  cases r
  exact assignInOrder_nil ⟨σ, H, I, h⟩
theorem pgs_cons {e : Expr} {es : List Expr} {t : TG} {u : TGs} (h1 : PG X e t) (h2 : PGs X es u)
    (hs : (assignEach (e :: es) X.env).map (·.2) = assign e X.env :: (assignEach es X.env).map (·.2) := by rfl) : PGs X (e :: es) (gCons t u) := by
  intro pins s σ H vs us Q I r h
  obtain ⟨v, vr, e1, h⟩ := h
  subst e1
  cases r with
  | cons r rr =>
    rw [hs]
    refine assignInOrder_cons (thn (h1 pins s σ H _ _ _ I r h) fun _ s1 ⟨σ1, H1, I1, q1⟩ => ?_)
    exact h2 pins s1 σ1 H1 _ _ Q I1 rr q1
def gTup (K : PySem.W.Frag) (n : Nat) (t : TGs) : TG := fun v σ H Q => ∃ a xs, v = .ref a ∧ SqT K H a xs ∧ xs.length = n ∧ t xs σ H Q
theorem pg_tup {es : List Expr} {k : Nat} {t : TGs} {n : Nat} (hc : X.calm = true) (h : PGs X es t)
    (hn : (assignEach es X.env).length = n := by rfl) (hst : (assignEach es X.env).findIdx? (·.1) = none := by rfl) : PG X (.Tuple es k pos) (gTup X.K n t) := by
  intro pins s σ H v u Q I r hw
  obtain ⟨a, xs, e1, hq, hl, hw⟩ := hw
  subst e1
  cases r
  obtain ⟨its, rv, ht, hz⟩ := I.tuple hq
  refine assign_Tuple_tuple (I.ok.hd hc) ht (by simp [hn, ← hl, rv.length]) hst fun h' hx => ?_
  have I1 : Inv X pins σ H { s with heap := h' } := I.kept (t' := s.toks) fun b o e => hx b o (Nat.ne_of_lt (Heap.lt_size e)) e
  exact h pins _ σ H xs _ Q I1 (by simpa using rv) hw
def gSub (to ti : TE) (t : TSet) : TG := fun v σ H Q => to σ H fun o H1 => ti σ H1 fun i H2 => t o i v H2 fun H3 => Q σ H3
theorem pg_sub {o i : Expr} {to ti : TE} {t : TSet} (ho : PE X o to) (hi : PE X i ti) (hs : PSet X t)
    (ha : ∀ v, assign (.Subscript o i pos) X.env v = (do
      let ov ← holding [v] (eval o X.env)
      let iv ← holding [v, ov] (eval i X.env)
      standAt pos
      holding [v, ov, iv] (setItem ov iv v)
      release [v, ov, iv] []) := by intro _; rfl) : PG X (.Subscript o i pos) (gSub to ti t) := by
  intro pins s σ H v u Q I r h
  rw [ha]
  refine wpAny_bind (wpAny_holding (thn (ho pins s σ H _ I h) fun ov s1 ⟨x, H1, I1, r1, q1⟩ => ?_))
  refine wpAny_bind (wpAny_holding (thn (hi pins s1 σ H1 _ I1 q1) fun iv s2 ⟨y, H2, I2, r2, q2⟩ => ?_))
  refine wpAny_bind (wpAny_standAt (wpAny_bind (wpAny_holding (thn (hs pins s2 σ H2 x y v ov iv u _ I2 r1 r2 r q2) fun _ s3 ⟨H3, I3, q3⟩ => ?_))))
  exact wpAny_release ⟨σ, H3, I3, q3⟩
def tAsg (te : TE) (g : TG) : TS := fun D σ H => te σ H fun x H1 => g x σ H1 D.nx
theorem ps_asg {tg e : Expr} {te : TE} {g : TG} (he : PE X e te) (hg : PG X tg g) (hs : swapsWithSole [tg] e pos.line X.env = pure false := by rfl) (hw : swappedStores [tg] e X.env = pure none := by rfl)
    (h1 : (assignEach [tg] X.env).map (·.2) = [assign tg X.env] := by rfl) : PS X (.Assign [tg] e pos) (tAsg te g) := by
  intro pins s σ H D I h
  refine wpAny_Assign_stores (thn (he pins s σ H _ I h) fun v s1 ⟨x, H1, I1, r1, q1⟩ => ?_) hs hw
  rw [h1]
  exact thn (hg pins s1 σ H1 x v _ I1 r1 q1) fun _ s2 q => q
theorem ps_set {i : Nat} {x : Str} {e : Expr} {te : TE} {pos' : Pos} (hN : X.N.Nodup) (hi : X.N[i]? = some x) (hx : Loc X.env.scope x) (he : PE X e te) (hs : swapsWith e (some (.Name x pos')) pos.line X.env = pure false := by rfl) (hf : X.fn x = true ∨ X.env.scope.names.lookup x = some .local := by first | exact .inl rfl | exact .inr rfl | assumption) :
    PS X (.Assign [.Name x pos'] e pos) (tAsg te (gName i)) := by
  intro pins s σ H D I h
  refine wpAny_Assign_Name (thn (he pins s σ H _ I h) fun v s1 ⟨y, H1, I1, r1, q1⟩ => ?_) hs
  exact store_ok I1 hN hi hx r1 (fun s2 I2 => ⟨_, H1, I2, q1⟩) hf
def tPar (i j : Nat) (ta : TA) : TS := fun D σ H => ta σ H fun vs H1 => ∃ v w, vs = [v, w] ∧ D.nx ((σ.set i (some v)).set j (some w)) H1
def tAug (i : Nat) (te : TE) (ti : TIp) : TS := fun D σ H => ∃ x, σ[i]? = some (some x) ∧ te σ H fun y H1 => ti x y H1 fun z H2 => D.nx (σ.set i (some z)) H2
theorem ps_aug {i : Nat} {x : Str} {e : Expr} {te : TE} {op : Operator} {ti : TIp} {pos' : Pos} (hN : X.N.Nodup) (hi : X.N[i]? = some x) (hx : Loc X.env.scope x) (he : PE X e te) (ho : PIp X op ti) (hf : X.fn x = true ∨ X.env.scope.names.lookup x = some .local := by first | exact .inl rfl | exact .inr rfl | assumption) :
    PS X (.AugAssign (.Name x pos') op e pos) (tAug i te ti) := by
  intro pins s σ H D I h
  obtain ⟨v, e1, h⟩ := h
  obtain ⟨m, hn, hl⟩ := I.loc
  have vis : Vis X.env.scope x := by rcases hx with k | k; exact .inl k; exact .inr (.inl k)
  obtain ⟨u, r, l⟩ := hl i x v hi e1 vis
  refine wpAny_AugAssign_Name ?_
  have go : wpAny (model X.prog X.w) X.A (eval e X.env) (fun w s₂ => wpAny (model X.prog X.w) X.A (inplaceOp op u w) (fun r s₃ => wpAny (model X.prog X.w) X.A (storeName X.env x r) (fun _ => SP X pins D .next) X.xe s₃) X.xe s₂) X.xe s := by
    refine thn (he pins s σ H _ I h) fun w s1 ⟨y, H1, I1, r1, q1⟩ => ?_
    refine thn (ho pins s1 σ H1 v y u w _ I1 r r1 q1) fun z s2 ⟨zv, H2, I2, r2, q2⟩ => ?_
    exact store_ok I2 hN hi hx r2 (fun s3 I3 => ⟨_, H2, I3, q2⟩) hf
  rcases l with ⟨hk, hm⟩ | ⟨hk, c, hc, hcell⟩
  · exact wpAny_loadName_local I.ok.kind hk hn hm go
  · rcases hk with hk | hk
    · exact wpAny_loadName_cell I.ok.kind hk hc hcell go
    · rcases hx with k | k
      · have : X.env.scope.names.lookup x = some .free := hk
        rw [k] at this; cases this
      · have : X.env.scope.names.lookup x = some .free := hk
        rw [k] at this; cases this
def tAugS (to ti te : TE) (tget : V → V → Hp → VK → Prop) (tip : TIp) (tset : TSet) : TS := fun D σ H => to σ H fun o H1 => ti σ H1 fun i H2 => tget o i H2 fun x H3 => te σ H3 fun y H4 => tip x y H4 fun z H5 => tset o i z H5 fun H6 => D.nx σ H6
def PGet (X : Cx) (t : V → V → Hp → VK → Prop) : Prop :=
  ∀ (pins : List (Addr × Obj)) (s : Shared) (σ : St) (H : Hp) (o i : V) (ov iv : Value) (Q : VK), Inv X pins σ H s → RelV o ov → RelV i iv → t o i H Q →
    wpAny (model X.prog X.w) X.A (getItem ov iv) (EP X pins σ Q) X.xe s
theorem ps_augS {o i e : Expr} {to ti te : TE} {tget : V → V → Hp → VK → Prop} {tip : TIp} {tset : TSet} {op : Operator} {tpos : Pos} (ho : PE X o to) (hi : PE X i ti) (hg : PGet X tget) (he : PE X e te) (hp : PIp X op tip) (hs : PSet X tset)
    (ha : ∀ ov iv new, augStore i ov iv new = (do holding [new, ov, iv] (setItem ov iv new); release [new, ov, iv] []; pure .next) := by intros; rfl) : PS X (.AugAssign (.Subscript o i tpos) op e pos) (tAugS to ti te tget tip tset) := by
  intro pins s σ H D I h
  refine wpAny_AugAssign_SubscriptAny (thn (ho pins s σ H _ I h) fun ov s1 ⟨x1, H1, I1, r1, q1⟩ => ?_) ha
  refine thn (hi pins s1 σ H1 _ I1 q1) fun iv s2 ⟨x2, H2, I2, r2, q2⟩ => ?_
  refine thn (hg pins s2 σ H2 x1 x2 ov iv _ I2 r1 r2 q2) fun old s3 ⟨x3, H3, I3, r3, q3⟩ => ?_
  refine thn (he pins s3 σ H3 _ I3 q3) fun v s4 ⟨x4, H4, I4, r4, q4⟩ => ?_
  refine thn (hp pins s4 σ H4 x3 x4 old v _ I4 r3 r4 q4) fun new s5 ⟨x5, H5, I5, r5, q5⟩ => ?_
  exact thn (hs pins s5 σ H5 x1 x2 x5 ov iv new _ I5 r1 r2 r5 q5) fun _ s6 ⟨H6, I6, q6⟩ => ⟨σ, H6, I6, q6⟩
def ipI (f : Int → Int → Int) : TIp := fun x y H Q => ∃ i j, x = .int i ∧ y = .int j ∧ Q (.int (f i j)) H
theorem ip_add : PIp X .Add (ipI fun i j => i + j) := by
  intro pins s σ H x y v u Q I r1 r2 h
  obtain ⟨i, j, e1, e2, q⟩ := h
  subst e1; subst e2
  obtain ⟨t, rfl⟩ := r1
  obtain ⟨t', rfl⟩ := r2
  exact iadd_int ⟨.int _, H, I.tok _, ⟨_, rfl⟩, q⟩
end
section
variable {X : Cx} {pos : Pos}
def tWhile (c : TT) (tb : TS) : TS := fun D σ H => ∃ W : Nat → St → Hp → Prop, (∃ m, W m σ H) ∧ ∀ m σ H, W m σ H →
  c σ H fun b H1 => if b = true then ∃ N : St → Hp → Prop, (∀ σ' H', N σ' H' → ∃ m', m' < m ∧ W m' σ' H') ∧ tb { D with nx := N, ct := N, bk := D.nx } σ H1 else D.nx σ H1
theorem ps_while {c : Expr} {body : List Stmt} {tc : TT} {tb : TS} (hp : PassesOwn (model X.prog X.w) X.A X.env X.xe) (hc : PT X c tc) (hb : PSs X body tb) : PS X (.While c body [] pos) (tWhile tc tb) := by
  intro pins s σ H D I h
  obtain ⟨W, ⟨m0, w0⟩, turn⟩ := h
  refine wpAny_While (codeAny_whileLoop (fun n s' => ∃ σ' H', Inv X pins σ' H' s' ∧ W n σ' H') ?_ m0 ⟨σ, H, I, w0⟩)
  rintro n s1 ⟨σ1, H1, I1, w1⟩
  refine wpAny_passesOwn hp (thn (hc pins s1 σ1 H1 _ I1 (turn n σ1 H1 w1)) fun b s2 ⟨H2, I2, q2⟩ => ?_)
  cases b with
  | true =>
    obtain ⟨N, hN, q2⟩ := q2
    rw [if_pos rfl]
    refine wpAny_passesOwn hp (thn (hb pins s2 σ1 H2 _ I2 q2) fun f s3 q3 => ?_)
    cases f with
    | next =>
      obtain ⟨σ3, H3, I3, n3⟩ := q3
      obtain ⟨m', hm, w3⟩ := hN σ3 H3 n3
      exact ⟨m', hm, σ3, H3, I3, w3⟩
    | cont =>
      obtain ⟨σ3, H3, I3, n3⟩ := q3
      obtain ⟨m', hm, w3⟩ := hN σ3 H3 n3
      exact ⟨m', hm, σ3, H3, I3, w3⟩
    | brk => exact q3
    | ret v => exact q3
  | false =>
    rw [if_neg Bool.false_ne_true]
    exact wpAny_execs_nil ⟨σ1, H2, I2, q2⟩
end
structure It where
  go : Nat → Hp → Prop
  yld : Nat → Hp → V → Hp → Prop
  stop : Nat → Hp → Prop
def FpOk (X : Cx) (pins : List (Addr × Obj)) (H : Hp) (b : Addr) : Prop :=
  H b = none ∧ b ≠ X.env.locals ∧ b ∉ X.fs ∧ (b ∈ X.ex ∨ X.s₀.heap.objs.size ≤ b) ∧ (∀ x c, X.env.cells.lookup x = some c → c ≠ b) ∧ ∀ p ∈ X.pn ++ pins, p.1 ≠ b
theorem Inv.fpOk {X : Cx} {pins : List (Addr × Obj)} {σ : St} {H H' : Hp} {s : Shared} {b : Addr} (I : Inv X pins σ H s) (hb : s.heap.objs.size ≤ b) (hn : H' b = none) : FpOk X pins H' b := by
  refine ⟨hn, Nat.ne_of_gt (Nat.lt_of_lt_of_le I.lt hb), I.nofs hb, .inr (Nat.le_trans I.sz hb), fun x c e z => ?_, fun p hp z => ?_⟩
  · obtain ⟨v, q⟩ := I.cell x c e
    exact absurd (Nat.lt_of_lt_of_le q.lt (by rw [z]; exact hb)) (Nat.lt_irrefl _)
  · exact absurd (Nat.lt_of_lt_of_le (Heap.lt_size (I.pin p hp).1) (by rw [z]; exact hb)) (Nat.lt_irrefl _)
structure Turn (P : Program) (w : World) (K : PySem.W.Frag) (tg : Expr) (J : It) (fp : List Addr) (it : Addr) (tn : Nat → Heap → Prop) : Prop where
  mem : it ∈ fp
  obj : ∀ i h, tn i h → ∀ b ∈ fp, ∃ o, h.get? b = some o ∧ ∀ v, o.data ≠ .cell v
  keep : ∀ i h h', tn i h → (∀ b ∈ fp, ∀ o, h.get? b = some o → h'.get? b = some o) → tn i h'
  item : ∀ (X : Cx), X.prog = P → X.w = w → X.K = K → X.calm = true → ∀ (i : Nat) (pins : List (Addr × Obj)) (s : Shared) (σ : St) (H : Hp) (E : Value → Shared → Prop), Inv X pins σ H s → (∀ b ∈ fp, FpOk X pins H b) → tn i s.heap → J.go i H →
    wpAny (model P w) X.A (pyNext (.ref it)) (fun r s1 => ∃ u, r = some u ∧
      wpAny (model P w) X.A (letOwnedTupleGo tg (.ref it) u) (fun _ s2 => ∃ x H', Inv X pins σ H' s2 ∧ RelV x u ∧ J.yld i H x H' ∧ tn (i + 1) s2.heap ∧ ∀ b ∈ fp, H' b = none) E s1) E s
  done : ∀ (X : Cx), X.prog = P → X.w = w → X.K = K → X.calm = true → ∀ (i : Nat) (pins : List (Addr × Obj)) (s : Shared) (σ : St) (H : Hp) (E : Value → Shared → Prop), Inv X pins σ H s → (∀ b ∈ fp, FpOk X pins H b) → tn i s.heap → J.stop i H →
    wpAny (model P w) X.A (pyNext (.ref it)) (fun r s1 => r = none ∧ Inv X pins σ H s1) E s
  self : ∀ (A : Around) (i : Nat) (s : Shared) (Q : Value → Shared → Prop) (E : Value → Shared → Prop), tn i s.heap → Q (.ref it) s → wpAny (model P w) A (pyIter (.ref it)) Q E s
abbrev TI := St → Hp → (It → Hp → Prop) → Prop
def PIE (X : Cx) (pins : List (Addr × Obj)) (σ : St) (tg : Expr) (R : It → Hp → Prop) (itv : Value) (s2 : Shared) : Prop :=
  ∃ (it : Addr) (fp : List Addr) (tn : Nat → Heap → Prop) (J : It) (H' : Hp), itv = .ref it ∧ Inv X pins σ H' s2 ∧ Turn X.prog X.w X.K tg J fp it tn ∧ tn 0 s2.heap ∧ (∀ b ∈ fp, FpOk X pins H' b) ∧ R J H'
def PI (X : Cx) (tg iter : Expr) (wi : TI) : Prop :=
  ∀ (pins : List (Addr × Obj)) (s : Shared) (σ : St) (H : Hp) (R : It → Hp → Prop), Inv X pins σ H s → wi σ H R →
    wpAny (model X.prog X.w) X.A (eval iter X.env) (fun v s1 => wpAny (model X.prog X.w) X.A (pyIter v) (PIE X pins σ tg R) X.xe s1) X.xe s
theorem go_of {M : Model} {A : Around} {E : Value → Shared → Prop} {s : Shared} {tg : Expr} {it : Addr} {u : Value} {o : Obj} {n : String} {vs : Array Value} {Q : Unit → Shared → Prop} (ho : s.heap.get? it = some o) (hc : o.cls = .type n) (hd : o.data = .fields vs)
    (hn : ["enumerate", "zip", "dict_itemiterator", "dict_reverseitemiterator", "odict_iterator", "itertools.zip_longest", "itertools.pairwise"].contains n = false) (hQ : Q () s) : wpAny M A (letOwnedTupleGo tg (.ref it) u) Q E s := by
  unfold letOwnedTupleGo
  cases tg <;> first
    | exact wpAny_pure hQ
    | (cases u <;> first
        | exact wpAny_pure hQ
        | (refine wpAny_bind (wpAny_load ho ?_)
           rw [hc, hd]
           show wpAny M A (if (["enumerate", "zip", "dict_itemiterator", "dict_reverseitemiterator", "odict_iterator", "itertools.zip_longest", "itertools.pairwise"].contains n && vs[0]? == some (rawInt _)) = true then _ else _) Q E s
           rw [if_neg (by intro h; rw [hn, Bool.false_and] at h; cases h)]
           exact wpAny_pure hQ))
def Itl (K : PySem.W.Frag) (a : Addr) : It :=
  ⟨fun i H => ∃ xs x, SqL K H a xs ∧ xs[i]? = some x, fun i H x H' => H' = H ∧ ∀ xs, SqL K H a xs → xs[i]? = some x, fun i H => ∃ xs, SqL K H a xs ∧ xs.length ≤ i⟩
def Itt (K : PySem.W.Frag) (a : Addr) : It :=
  ⟨fun i H => ∃ xs x, SqT K H a xs ∧ xs[i]? = some x, fun i H x H' => H' = H ∧ ∀ xs, SqT K H a xs → xs[i]? = some x, fun i H => ∃ xs, SqT K H a xs ∧ xs.length ≤ i⟩
def Itr (lo : Int) (n : Nat) : It := ⟨fun i _ => i < n, fun i H x H' => H' = H ∧ x = .int (lo + i), fun i _ => n ≤ i⟩
theorem turn_list {P : Program} {w : World} {K : PySem.W.Frag} {tg : Expr} (a it : Addr) : Turn P w K tg (Itl K a) [it] it (fun i h => h.IsListIter it a i) where
  mem := by simp
  obj := fun i h st b hb => by
    have e : b = it := by simpa using hb
    subst e
    obtain ⟨o, e, c, d⟩ := st
    exact ⟨o, e, fun v z => by rw [d] at z; cases z⟩
  keep := fun i h h' st k => st.at fun o e => k it (by simp) o e
  item := by
    intro X hP hw hK hc i pins s σ H E I hf st hg
    subst hP hw hK
    obtain ⟨xs, x, hq, hx⟩ := hg
    obtain ⟨its, rv, p, hz⟩ := I.list hq
    obtain ⟨u, hu, ru⟩ := rv.get hx
    obtain ⟨f0, f1, f2, f3, f4, f5⟩ := hf it (by simp)
    refine wpAny_pyNext_list_item st p.isList (x := u) (by simpa using hu) fun h' st' sb => ?_
    have I1 : Inv X pins σ H { s with heap := h' } := I.turned (t' := s.toks) (fun b o hb e => (sb.2 b hb).trans e) f0 f1 f3 f4 f5
    obtain ⟨o, e, c, d⟩ := id st'
    exact ⟨u, rfl, go_of (s := { s with heap := h' }) e c d (by decide) ⟨x, H, I1, ru, ⟨rfl, fun ys hy => by rw [I.list_inj hy hq]; exact hx⟩, st', fun b hb => (hf b hb).1⟩⟩
  done := by
    intro X hP hw hK hc i pins s σ H E I hf st hg
    subst hP hw hK
    obtain ⟨xs, hq, hx⟩ := hg
    obtain ⟨its, rv, p, hz⟩ := I.list hq
    obtain ⟨f0, f1, f2, f3, f4, f5⟩ := hf it (by simp)
    have hl := rv.length
    exact wpAny_pyNext_list_end (I.ok.hd hc) st p.isList (by simp; omega) fun h' eb => ⟨rfl, I.turned (t' := s.toks) (fun b o hb e => eb b o hb e) f0 f1 f3 f4 f5⟩
  self := fun _ _ _ _ _ st h => wpAny_pyIter_listiter st h
theorem turn_range {P : Program} {w : World} {K : PySem.W.Frag} {tg : Expr} (it : Addr) (lo : Int) (n : Nat) : Turn P w K tg (Itr lo n) [it] it (fun i h => IsRangeIter h it (lo + (i : Nat) * 1) ((n : Int) - (i : Nat)) 1) where
  mem := by simp
  obj := fun i h st b hb => by
    have e : b = it := by simpa using hb
    subst e
    exact ⟨_, st, fun v z => by
      have z' : Data.fields _ = Data.cell v := z
      cases z'⟩
  keep := fun i h h' st k => k it (by simp) _ st
  item := by
    intro X hP hw hK hc i pins s σ H E I hf st hg
    subst hP hw hK
    obtain ⟨f0, f1, f2, f3, f4, f5⟩ := hf it (by simp)
    have W := Walks.range (prog := X.prog) (w := X.w) (I.ok.hd hc) it lo 1 n
    refine W.item i s _ _ hg st fun v h' tk hv st' kk => ?_
    obtain ⟨t, rfl⟩ := hv
    have I1 : Inv X pins σ H { s with heap := h', toks := tk } := I.turned (fun b o hb e => kk b o (by simpa using hb) e) f0 f1 f3 f4 f5
    refine ⟨_, rfl, go_of (s := { s with heap := h', toks := tk }) (n := "range_iterator") st' rfl rfl (by decide) ⟨.int (lo + i), H, I1, ⟨t, ?_⟩, ⟨rfl, rfl⟩, st', fun b hb => (hf b hb).1⟩⟩
    rw [Int.mul_one]
  done := by
    intro X hP hw hK hc i pins s σ H E I hf st hg
    subst hP hw hK
    obtain ⟨f0, f1, f2, f3, f4, f5⟩ := hf it (by simp)
    exact wpAny_pyNext_range_end (I.ok.hd hc) st (by have : n ≤ i := hg; omega) fun h' eb => ⟨rfl, I.turned (t' := s.toks) (fun b o hb e => eb b o hb e) f0 f1 f3 f4 f5⟩
  self := fun _ _ _ _ _ st h => wpAny_pyIter_rangeiter st h
end L2
namespace L2
open PySem PySem.Spec PyProof.Rows
section
variable {X : Cx} {tg : Expr}
def iList (K : PySem.W.Frag) (tl : TE) : TI := fun σ H R => tl σ H fun x H1 => ∃ a, x = .ref a ∧ (∃ xs, SqL K H1 a xs) ∧ R (Itl K a) H1
def iTup (K : PySem.W.Frag) (tl : TE) : TI := fun σ H R => tl σ H fun x H1 => ∃ a, x = .ref a ∧ (∃ xs, SqT K H1 a xs) ∧ R (Itt K a) H1
theorem pi_list {l : Expr} {tl : TE} (hl : PE X l tl) : PI X tg l (iList X.K tl) := by
  intro pins s σ H R I h
  refine thn (hl pins s σ H _ I h) fun v s1 ⟨x, H1, I1, r1, q1⟩ => ?_
  obtain ⟨a, e, ⟨xs, hq⟩, q⟩ := q1
  subst e
  cases r1
  obtain ⟨its, rv, p, hz⟩ := I1.list hq
  refine wpAny_pyIter_list p.isList ?_
  refine ⟨s1.heap.objs.size, [s1.heap.objs.size], _, _, H1, rfl, I1.kept (t' := s1.toks) fun b o e => Heap.get?_push_of_some _ e, turn_list a _, ⟨_, Heap.get?_push_size _ rfl, rfl, rfl⟩, fun b hb => ?_, q⟩
  have e : b = s1.heap.objs.size := by simpa using hb
  subst e
  exact I1.fpOk (Nat.le_refl _) (I1.hok.fresh (Nat.le_refl _))
theorem range_it {pins : List (Addr × Obj)} {σ : St} {H : Hp} {s : Shared} {R : It → Hp → Prop} {E : Value → Shared → Prop} {lo hi : Int} {t u v : Tok} {tk : Nat} (I : Inv X pins σ H s) (h1 : -(2 ^ 62) ≤ lo) (h2 : lo < 2 ^ 62) (h3 : -(2 ^ 62) ≤ hi) (h4 : hi < 2 ^ 62)
    (q : R (Itr lo (hi - lo).toNat) H) : wpAny (model X.prog X.w) X.A (pyIter (.ref s.heap.objs.size)) (PIE X pins σ tg R) E { s with heap := s.heap.push { cls := .type "range", data := .fields #[.int lo t, .int hi u, .int 1 v] }, toks := tk } := by
  refine wpAny_pyIter_range (IsRange.new ..) (small_one h1 h2 h3 h4) ?_
  have I1 : Inv X pins σ H { s with heap := s.heap.push { cls := .type "range", data := .fields #[.int lo t, .int hi u, .int 1 v] }, toks := tk } := I.kept fun b o e => Heap.get?_push_of_some _ e
  refine ⟨(s.heap.push { cls := .type "range", data := .fields #[.int lo t, .int hi u, .int 1 v] }).objs.size, [(s.heap.push { cls := .type "range", data := .fields #[.int lo t, .int hi u, .int 1 v] }).objs.size], _, _, H, rfl,
    I1.kept (t' := tk) fun b o e => Heap.get?_push_of_some _ e, turn_range _ lo (hi - lo).toNat, ?_, fun b hb => ?_, q⟩
  · have e1 : lo + ((0 : Nat) : Int) * 1 = lo := by simp
    have e2 : (((hi - lo).toNat : Nat) : Int) - ((0 : Nat) : Int) = Builtin.Range.rangeSize lo hi 1 := by rw [rangeSize_one]; split <;> omega
    show IsRangeIter _ _ (lo + ((0 : Nat) : Int) * 1) ((((hi - lo).toNat : Nat) : Int) - ((0 : Nat) : Int)) 1
    rw [e1, e2]
    exact Heap.get?_push_size _ rfl
  · have e : b = (s.heap.push { cls := .type "range", data := .fields #[.int lo t, .int hi u, .int 1 v] }).objs.size := by simpa using hb
    subst e
    exact I1.fpOk (Nat.le_refl _) (I1.hok.fresh (Nat.le_refl _))
def iRng1 (ta : TA) : TI := fun σ H R => ta σ H fun vs H1 => ∃ j : Int, vs = [.int j] ∧ -(2 ^ 62) ≤ j ∧ j < 2 ^ 62 ∧ R (Itr 0 j.toNat) H1
def iRng2 (ta : TA) : TI := fun σ H R => ta σ H fun vs H1 => ∃ i j : Int, vs = [.int i, .int j] ∧ (-(2 ^ 62) ≤ i ∧ i < 2 ^ 62 ∧ -(2 ^ 62) ≤ j ∧ j < 2 ^ 62) ∧ R (Itr i (j - i).toNat) H1
theorem pi_range1 {a : Expr} {ta : TA} {p pos : Pos} (hg : Gl X "range") (hm : X.mg "range" = none) (ha : PA X [a] ta) (hs : starEach [a] X.env = [(false, eval a X.env)] := by rfl) : PI X tg (.Call (.Name "range" p) [a] [] pos) (iRng1 ta) := by
  intro pins s σ H R I h
  refine Call_ (ld_blt I hg hm boot_range (PyProof.Rows.callWith_type1 (thn (ha pos pins s σ H _ I h) fun us s1 ⟨vs, H1, I1, r1, q1⟩ => ?_) hs rfl))
  obtain ⟨j, e, q1, q2, q⟩ := q1
  subst e
  cases r1 with
  | cons r rr =>
    cases rr
    obtain ⟨t, rfl⟩ := r
    exact call_range_1 (range_it I1 (by omega) (by omega) q1 q2 (by simpa using q))
theorem pi_range2 {a b : Expr} {ta : TA} {p pos : Pos} (hg : Gl X "range") (hm : X.mg "range" = none) (ha : PA X [a, b] ta) (hs : starEach [a, b] X.env = [(false, eval a X.env), (false, eval b X.env)] := by rfl) (hs2 : starEach [b] X.env = [(false, eval b X.env)] := by rfl) :
    PI X tg (.Call (.Name "range" p) [a, b] [] pos) (iRng2 ta) := by
  intro pins s σ H R I h
  refine Call_ (ld_blt I hg hm boot_range (PyProof.Rows.callWith_type1 (thn (ha pos pins s σ H _ I h) fun us s1 ⟨vs, H1, I1, r1, q1⟩ => ?_) (by rw [hs, hs2]) (by rw [hs2]; rfl)))
  obtain ⟨i, j, e, ⟨q1, q2, q3, q4⟩, q⟩ := q1
  subst e
  cases r1 with
  | cons r rr =>
    cases rr with
    | cons r' rr =>
      cases rr
      obtain ⟨t, rfl⟩ := r
      obtain ⟨t', rfl⟩ := r'
      exact call_range_2 (range_it I1 q1 q2 q3 q4 q)
def tFor (wi : TI) (g : TG) (tb : TS) : TS := fun D σ H => wi σ H fun J H1 => ∃ W : Nat → Nat → St → Hp → Prop, (∃ m, W 0 m σ H1) ∧ ∀ i m σ H, W i m σ H →
  (J.stop i H ∧ D.nx σ H) ∨ (J.go i H ∧ ∃ N : St → Hp → Prop, (∀ σ' H', N σ' H' → ∃ m', m' < m ∧ W (i + 1) m' σ' H') ∧ ∀ x H', J.yld i H x H' → g x σ H' fun σ2 H2 => tb { D with nx := N, ct := N, bk := D.nx } σ2 H2)
def pinsAt (fp : List Addr) (h : Heap) : List (Addr × Obj) := fp.filterMap fun b => (h.get? b).map fun o => (b, o)
theorem mem_pinsAt {fp : List Addr} {h : Heap} {b : Addr} {o : Obj} (hb : b ∈ fp) (e : h.get? b = some o) : (b, o) ∈ pinsAt fp h := List.mem_filterMap.mpr ⟨b, hb, by rw [e]; rfl⟩
theorem of_pinsAt {fp : List Addr} {h : Heap} {p : Addr × Obj} (hp : p ∈ pinsAt fp h) : p.1 ∈ fp ∧ h.get? p.1 = some p.2 := by
  obtain ⟨b, hb, e⟩ := List.mem_filterMap.mp hp
  cases q : h.get? b with
  | none => rw [q] at e; cases e
  | some o =>
    rw [q] at e
    have e' : (b, o) = p := Option.some.inj e
    subst e'
    exact ⟨hb, q⟩
theorem Inv.pinned {pins : List (Addr × Obj)} {σ : St} {H : Hp} {s : Shared} {fp : List Addr} (I : Inv X pins σ H s) (hf : ∀ b ∈ fp, FpOk X pins H b) (ho : ∀ b ∈ fp, ∃ o, s.heap.get? b = some o ∧ ∀ v, o.data ≠ .cell v) : Inv X (pins ++ pinsAt fp s.heap) σ H s :=
  I.pins_of fun p hp => (List.mem_append.mp hp).elim (fun z => I.pin p (List.mem_append_right _ z)) fun z => by
    obtain ⟨hb, e⟩ := of_pinsAt z
    obtain ⟨f0, f1, f2, _⟩ := hf p.1 hb
    obtain ⟨o, e', d⟩ := ho p.1 hb
    rw [e] at e'; cases e'
    exact ⟨e, f0, f1, f2, d⟩
theorem Inv.unpinned {pins pl : List (Addr × Obj)} {σ : St} {H : Hp} {s : Shared} (I : Inv X (pins ++ pl) σ H s) : Inv X pins σ H s := I.pins_of fun p hp => I.pin p (List.mem_append_right _ (List.mem_append_left _ hp))
theorem ps_for {iter : Expr} {body : List Stmt} {wi : TI} {g : TG} {tb : TS} {pos : Pos} (hp : PassesOwn (model X.prog X.w) X.A X.env X.xe) (hc : X.calm = true) (hi : PI X tg iter wi) (hg : PG X tg g) (hb : PSs X body tb)
    (hs : ∀ x, foldedSetIterable iter X.env x = pure x := by intro _; rfl) : PS X (.For tg iter body [] pos) (tFor wi g tb) := by
  intro pins s σ H D I h
  refine wpAny_For (thn (hi pins s σ H _ I h) fun v s1 h1 => thn h1 fun itv s2 h2 => ?_) hs
  obtain ⟨it, fp, tn, J, H2, e, I2, T, st2, f2, W, ⟨m0, w0⟩, turn⟩ := h2
  subst e
  have stat : ∀ {H' : Hp}, (∀ b ∈ fp, H' b = none) → ∀ b ∈ fp, FpOk X pins H' b := fun hn b hb => ⟨hn b hb, (f2 b hb).2⟩
  refine codeAny_forLoop_any (fun n s' => ∃ i σ' H', Inv X pins σ' H' s' ∧ tn i s'.heap ∧ (∀ b ∈ fp, H' b = none) ∧ W i n σ' H') ?_ m0 ⟨0, σ, H2, I2, st2, fun b hb => (f2 b hb).1, w0⟩
  rintro n s3 ⟨i, σ3, H3, I3, st3, fr3, w3⟩
  rcases turn i n σ3 H3 w3 with ⟨stop, qn⟩ | ⟨go, N, hN, step⟩
  · refine wpAny_passesOwn hp (thn (T.done X rfl rfl rfl hc i pins s3 σ3 H3 X.xe I3 (stat fr3) st3 stop) fun r s4 ⟨hr, I4⟩ => ?_)
    subst hr
    exact wpAny_execs_nil ⟨σ3, H3, I4, qn⟩
  · refine wpAny_passesOwn hp (thn (T.item X rfl rfl rfl hc i pins s3 σ3 H3 X.xe I3 (stat fr3) st3 go) fun r s4 ⟨u, hr, h4⟩ => ?_)
    subst hr
    refine wpAny_passesOwn hp (thn h4 fun _ s5 ⟨x, H5, I5, r5, y5, st5, fr5⟩ => ?_)
    have I5' := I5.pinned (stat fr5) (T.obj _ _ st5)
    refine wpAny_passesOwn hp (thn (hg _ s5 σ3 H5 x u _ I5' r5 (step x H5 y5)) fun _ s6 ⟨σ6, H6, I6, q6⟩ => ?_)
    refine wpAny_passesOwn hp (thn (hb _ s6 σ6 H6 _ I6 q6) fun f s7 q7 => ?_)
    have again : ∀ {σ7 : St} {H7 : Hp}, Inv X (pins ++ pinsAt fp s5.heap) σ7 H7 s7 → N σ7 H7 → ∃ m, m < n ∧ ∃ i σ' H', Inv X pins σ' H' s7 ∧ tn i s7.heap ∧ (∀ b ∈ fp, H' b = none) ∧ W i m σ' H' := fun {σ7 H7} I7 n7 => by
      obtain ⟨m', hm, w7⟩ := hN σ7 H7 n7
      refine ⟨m', hm, i + 1, σ7, H7, I7.unpinned, T.keep _ _ _ st5 fun b hb o e => (I7.pin (b, o) (List.mem_append_right _ (List.mem_append_right _ (mem_pinsAt hb e)))).1, fun b hb => ?_, w7⟩
      obtain ⟨o, e, d⟩ := T.obj _ _ st5 b hb
      exact (I7.pin (b, o) (List.mem_append_right _ (List.mem_append_right _ (mem_pinsAt hb e)))).2.1
    cases f with
    | next => obtain ⟨σ7, H7, I7, n7⟩ := q7; exact again I7 n7
    | cont => obtain ⟨σ7, H7, I7, n7⟩ := q7; exact again I7 n7
    | brk => obtain ⟨σ7, H7, I7, q7⟩ := q7; exact ⟨σ7, H7, I7.unpinned, q7⟩
    | ret v => obtain ⟨x7, σ7, H7, I7, r7, q7⟩ := q7; exact ⟨x7, σ7, H7, I7.unpinned, r7, q7⟩
end
theorem for_list {K : PySem.W.Frag} {a : Addr} {xs : List V} {g : TG} {tb : TS} {D : Ends} {σ : St} {H : Hp} (Pv : Nat → St → Hp → Prop) (h0 : Pv 0 σ H) (hl : ∀ i σ H, i ≤ xs.length → Pv i σ H → SqL K H a xs)
    (hs : ∀ i x σ H, xs[i]? = some x → Pv i σ H → g x σ H fun σ2 H2 => tb { D with nx := Pv (i + 1), ct := Pv (i + 1), bk := D.nx } σ2 H2) (hd : ∀ σ H, Pv xs.length σ H → D.nx σ H) :
    ∃ W : Nat → Nat → St → Hp → Prop, (∃ m, W 0 m σ H) ∧ ∀ i m σ H, W i m σ H →
      ((Itl K a).stop i H ∧ D.nx σ H) ∨ ((Itl K a).go i H ∧ ∃ N : St → Hp → Prop, (∀ σ' H', N σ' H' → ∃ m', m' < m ∧ W (i + 1) m' σ' H') ∧ ∀ x H', (Itl K a).yld i H x H' → g x σ H' fun σ2 H2 => tb { D with nx := N, ct := N, bk := D.nx } σ2 H2) := by
  refine ⟨fun i m σ H => m = xs.length - i ∧ i ≤ xs.length ∧ Pv i σ H, ⟨xs.length, by simp, Nat.zero_le _, h0⟩, ?_⟩
  rintro i m σ H ⟨rfl, hi, p⟩
  have q := hl i σ H hi p
  by_cases hlt : i < xs.length
  · refine .inr ⟨⟨xs, xs[i], q, by simp [hlt]⟩, Pv (i + 1), fun σ' H' p' => ⟨xs.length - (i + 1), by omega, rfl, hlt, p'⟩, fun x H' y => ?_⟩
    obtain ⟨e, y⟩ := y
    subst e
    exact hs i x σ _ (y xs q) p
  · have e : i = xs.length := by omega
    subst e
    exact .inl ⟨⟨xs, q, Nat.le_refl _⟩, hd σ H p⟩
theorem for_range {lo : Int} {n : Nat} {g : TG} {tb : TS} {D : Ends} {σ : St} {H : Hp} (Pv : Nat → St → Hp → Prop) (h0 : Pv 0 σ H)
    (hs : ∀ i σ H, i < n → Pv i σ H → g (.int (lo + i)) σ H fun σ2 H2 => tb { D with nx := Pv (i + 1), ct := Pv (i + 1), bk := D.nx } σ2 H2) (hd : ∀ σ H, Pv n σ H → D.nx σ H) :
    ∃ W : Nat → Nat → St → Hp → Prop, (∃ m, W 0 m σ H) ∧ ∀ i m σ H, W i m σ H →
      ((Itr lo n).stop i H ∧ D.nx σ H) ∨ ((Itr lo n).go i H ∧ ∃ N : St → Hp → Prop, (∀ σ' H', N σ' H' → ∃ m', m' < m ∧ W (i + 1) m' σ' H') ∧ ∀ x H', (Itr lo n).yld i H x H' → g x σ H' fun σ2 H2 => tb { D with nx := N, ct := N, bk := D.nx } σ2 H2) := by
  refine ⟨fun i m σ H => m = n - i ∧ i ≤ n ∧ Pv i σ H, ⟨n, by simp, Nat.zero_le _, h0⟩, ?_⟩
  rintro i m σ H ⟨rfl, hi, p⟩
  by_cases hlt : i < n
  · refine .inr ⟨hlt, Pv (i + 1), fun σ' H' p' => ⟨n - (i + 1), by omega, rfl, hlt, p'⟩, fun x H' y => ?_⟩
    obtain ⟨e, y⟩ := y
    subst e y
    exact hs i σ _ hlt p
  · have e : i = n := by omega
    subst e
    exact .inl ⟨Nat.le_refl _, hd σ H p⟩
end L2
namespace L2
open PySem PySem.Spec PyProof.Rows
abbrev R2 := V → V → Hp → VK → Prop
def OpR (X : Cx) (f : Value → Value → Sem Value) (r : R2) : Prop :=
  ∀ (pins : List (Addr × Obj)) (s : Shared) (σ : St) (H : Hp) (x y : V) (v u : Value) (Q : VK), Inv X pins σ H s → RelV x v → RelV y u → r x y H Q →
    wpAny (model X.prog X.w) X.A (f v u) (EP X pins σ Q) X.xe s
def UnR (X : Cx) (f : Value → Sem Value) (r : V → Hp → VK → Prop) : Prop :=
  ∀ (pins : List (Addr × Obj)) (s : Shared) (σ : St) (H : Hp) (x : V) (v : Value) (Q : VK), Inv X pins σ H s → RelV x v → r x H Q →
    wpAny (model X.prog X.w) X.A (f v) (EP X pins σ Q) X.xe s
def CallR (X : Cx) (f : Value) (r : List V → Hp → VK → Prop) : Prop :=
  ∀ (pins : List (Addr × Obj)) (s : Shared) (σ : St) (H : Hp) (xs : List V) (us : List Value) (Q : VK), Inv X pins σ H s → Vals xs us → r xs H Q →
    wpAny (model X.prog X.w) X.A (call f us) (EP X pins σ Q) X.xe s
def TruR (X : Cx) (r : V → Hp → (Bool → Hp → Prop) → Prop) : Prop :=
  ∀ (pins : List (Addr × Obj)) (s : Shared) (σ : St) (H : Hp) (x : V) (v : Value) (Q : Bool → Hp → Prop), Inv X pins σ H s → RelV x v → r x H Q →
    wpAny (model X.prog X.w) X.A (truthy v) (TP X pins σ Q) X.xe s
def tOp (r : R2) (ta tb : TE) : TE := fun σ H Q => ta σ H fun x H1 => tb σ H1 fun y H2 => r x y H2 Q
def tUn (r : V → Hp → VK → Prop) (ta : TE) : TE := fun σ H Q => ta σ H fun x H1 => r x H1 Q
def rI (C : Int → Int → Prop) (g : Int → Int → V) : R2 := fun x y H Q => ∃ i j, x = .int i ∧ y = .int j ∧ C i j ∧ Q (g i j) H
def rI0 (g : Int → Int → V) : R2 := fun x y H Q => ∃ i j, x = .int i ∧ y = .int j ∧ Q (g i j) H
def rU (g : Int → V) : V → Hp → VK → Prop := fun x H Q => ∃ i, x = .int i ∧ Q (g i) H
section
variable {X : Cx} {a b c : Expr} {ta tb tc : TE} {pos : Pos}
theorem binT (ha : PE X a ta) (hb : PE X b tb) {pins : List (Addr × Obj)} {s : Shared} {σ : St} {H : Hp} {R : V → V → Hp → Prop} (I : Inv X pins σ H s)
    (h : ta σ H fun x H1 => tb σ H1 fun y H2 => R x y H2) {Q : Value → Shared → Prop} {f : Value → Value → Sem Value}
    (hf : ∀ v u s2 x y H2, Inv X pins σ H2 s2 → RelV x v → RelV y u → R x y H2 → wpAny (model X.prog X.w) X.A (f v u) Q X.xe s2) :
    wpAny (model X.prog X.w) X.A (eval a X.env) (fun v s₁ => wpAny (model X.prog X.w) X.A (eval b X.env) (fun u s₂ => wpAny (model X.prog X.w) X.A (f v u) Q X.xe s₂) X.xe s₁) X.xe s := by
  refine thn (ha pins s σ H _ I h) fun v s1 ⟨x, H1, I1, r1, q1⟩ => ?_
  refine thn (hb pins s1 σ H1 _ I1 q1) fun u s2 ⟨y, H2, I2, r2, q2⟩ => ?_
  exact hf v u s2 x y H2 I2 r1 r2 q2
theorem pe_op {op : Operator} {r : R2} (ho : OpR X (binaryOp op) r) (ha : PE X a ta) (hb : PE X b tb) : PE X (.BinOp a op b pos) (tOp r ta tb) := by
  intro pins s σ H Q I h
  exact wpAny_BinOp (binT ha hb I h fun v u s2 x y H2 I2 rx ry q => ho pins s2 σ H2 x y v u Q I2 rx ry q)
theorem pe_un {op : UnaryOp} {r : V → Hp → VK → Prop} (ho : UnR X (unaryOp op) r) (ha : PE X a ta) : PE X (.UnaryOp op a pos) (tUn r ta) := by
  intro pins s σ H Q I h
  exact UnaryOp_ (thn (ha pins s σ H _ I h) fun v s1 ⟨x, H1, I1, r1, q1⟩ => ho pins s1 σ H1 x v Q I1 r1 q1)
theorem opI {f : Value → Value → Sem Value} {C : Int → Int → Prop} {g : Int → Int → Int}
    (rule : ∀ (i j : Int) (t u : Tok) (s : Shared) (Q : Value → Shared → Prop) (E : Value → Shared → Prop), C i j → Q (.int (g i j) s.toks) { s with toks := s.toks + 1 } → wpAny (model X.prog X.w) X.A (f (.int i t) (.int j u)) Q E s) :
    OpR X f (rI C fun i j => .int (g i j)) := by
  intro pins s σ H x y v u Q I rx ry h
  obtain ⟨i, j, rfl, rfl, hc, q⟩ := h
  obtain ⟨t, rfl⟩ := rx
  obtain ⟨t', rfl⟩ := ry
  exact rule i j t t' s _ _ hc ⟨.int (g i j), H, I.tok _, ⟨_, rfl⟩, q⟩
theorem opI0 {f : Value → Value → Sem Value} {g : Int → Int → Int}
    (rule : ∀ (i j : Int) (t u : Tok) (s : Shared) (Q : Value → Shared → Prop) (E : Value → Shared → Prop), Q (.int (g i j) s.toks) { s with toks := s.toks + 1 } → wpAny (model X.prog X.w) X.A (f (.int i t) (.int j u)) Q E s) :
    OpR X f (rI0 fun i j => .int (g i j)) := by
  intro pins s σ H x y v u Q I rx ry h
  obtain ⟨i, j, rfl, rfl, q⟩ := h
  obtain ⟨t, rfl⟩ := rx
  obtain ⟨t', rfl⟩ := ry
  exact rule i j t t' s _ _ ⟨.int (g i j), H, I.tok _, ⟨_, rfl⟩, q⟩
theorem opB0 {f : Value → Value → Sem Value} {g : Int → Int → Bool}
    (rule : ∀ (i j : Int) (t u : Tok) (s : Shared) (Q : Value → Shared → Prop) (E : Value → Shared → Prop), Q (.bool (g i j)) s → wpAny (model X.prog X.w) X.A (f (.int i t) (.int j u)) Q E s) :
    OpR X f (rI0 fun i j => .bl (g i j)) := by
  intro pins s σ H x y v u Q I rx ry h
  obtain ⟨i, j, rfl, rfl, q⟩ := h
  obtain ⟨t, rfl⟩ := rx
  obtain ⟨t', rfl⟩ := ry
  exact rule i j t t' s _ _ ⟨.bl (g i j), H, I, rfl, q⟩
def CDiv (i j : Int) : Prop := 0 < j ∧ j < 1073741824
def CDivN (i j : Int) : Prop := j ≠ 0 ∧ j.natAbs < 1073741824
def CPow (i j : Int) : Prop := 0 ≤ j ∧ j ≤ 1000000 ∧ i.natAbs < 2 ^ 64
def CMul (i j : Int) : Prop := (-(2 ^ 64) < i ∧ i < 2 ^ 64) ∨ (-(2 ^ 64) < j ∧ j < 2 ^ 64)
theorem op_add : OpR X (binaryOp .Add) (rI0 fun i j => .int (i + j)) := opI0 fun _ _ _ _ _ _ _ q => add_int q
theorem op_sub : OpR X (binaryOp .Sub) (rI0 fun i j => .int (i - j)) := opI0 fun _ _ _ _ _ _ _ q => sub_int q
theorem op_mod : OpR X (binaryOp .Mod) (rI (fun _ j => 0 < j) fun i j => .int (i % j)) := opI fun i j _ _ _ _ _ hc q => by
  have h1 : (0 : Int) < j := hc
  exact mod_int' (by omega) (by rw [Int.fmod_eq_emod_of_nonneg i (by omega)]; exact q)
theorem op_pow : OpR X (binaryOp .Pow) (rI CPow fun i j => .int (i ^ j.toNat)) := opI fun _ _ _ _ _ _ _ hc q => pow_int_small hc.1 hc.2.1 hc.2.2 q
theorem unI {f : Value → Sem Value} {g : Int → Int}
    (rule : ∀ (i : Int) (t : Tok) (s : Shared) (Q : Value → Shared → Prop) (E : Value → Shared → Prop), Q (.int (g i) s.toks) { s with toks := s.toks + 1 } → wpAny (model X.prog X.w) X.A (f (.int i t)) Q E s) :
    UnR X f (rU fun i => .int (g i)) := by
  intro pins s σ H x v Q I rx h
  obtain ⟨i, rfl, q⟩ := h
  obtain ⟨t, rfl⟩ := rx
  exact rule i t s _ _ ⟨.int (g i), H, I.tok _, ⟨_, rfl⟩, q⟩
theorem un_neg : UnR X (unaryOp .USub) (rU fun i => .int (-i)) := unI fun _ _ _ _ _ q => neg_int q
end
def scal : V → V → Bool
  | .non, .non => true | .non, .int _ => true | .int _, .non => true | .non, .bl _ => true | .bl _, .non => true | .non, .str _ => true | .str _, .non => true
  | .int _, .int _ => true | .bl _, .bl _ => true | .str _, .str _ => true | .byt _, .byt _ => true
  | .int _, .str _ => true | .str _, .int _ => true | .bl _, .str _ => true | .str _, .bl _ => true
  | _, _ => false
def rEq : R2 := fun x y H Q => scal x y = true ∧ Q (.bl (decide (x = y))) H
def rNe : R2 := fun x y H Q => scal x y = true ∧ Q (.bl (!decide (x = y))) H
theorem dec_int {i j : Int} : decide (V.int i = V.int j) = (i == j) := by
  rw [Bool.eq_iff_iff]
  simp
theorem dec_bl {i j : Bool} : decide (V.bl i = V.bl j) = (i == j) := by
  rw [Bool.eq_iff_iff]
  simp
theorem dec_str {i j : Str} : decide (V.str i = V.str j) = (i == j) := by
  rw [Bool.eq_iff_iff]
  simp
theorem dec_byt {i j : Array UInt8} : decide (V.byt i = V.byt j) = (i.toList == j.toList) := by
  rw [Bool.eq_iff_iff]
  cases i
  cases j
  simp
section
variable {X : Cx} {a b c : Expr} {ta tb tc : TE} {pos : Pos}
theorem fin_bl {pins : List (Addr × Obj)} {σ : St} {H : Hp} {s : Shared} {Q : VK} {k k' : Bool} (I : Inv X pins σ H s) (q : Q (.bl k) H) (e : k = k') : EP X pins σ Q (.bool k') s := by
  subst e
  exact ⟨.bl k, H, I, rfl, q⟩
theorem op_eq : OpR X (compareOp .Eq) rEq := by
  intro pins s σ H x y v u Q I rx ry h
  obtain ⟨hs, q⟩ := h
  cases x with
  | non =>
    cases rx
    cases y with
    | non => cases ry; exact PySem.EqNone.eq_none_none (fin_bl I q (by simp))
    | bl j => cases ry; exact PySem.EqNone.eq_none_bool (fin_bl I q (by simp))
    | int j => obtain ⟨t', rfl⟩ := ry; exact PySem.EqNone.eq_none_int (fin_bl I q (by simp))
    | str j => obtain ⟨t', rfl⟩ := ry; exact PySem.EqNone.eq_none_str (fin_bl I q (by simp))
    | _ => exact absurd (show false = true from hs) Bool.false_ne_true
  | bl i =>
    cases rx
    cases y with
    | non => cases ry; exact PySem.EqNone.eq_bool_none (fin_bl I q (by simp))
    | bl j => cases ry; exact eq_bool (fin_bl I q dec_bl)
    | str j => obtain ⟨t', rfl⟩ := ry; exact PySem.EqMixed.eq_bool_str (fin_bl I q (by simp))
    | _ => exact absurd (show false = true from hs) Bool.false_ne_true
  | int i =>
    obtain ⟨t, rfl⟩ := rx
    cases y with
    | non => cases ry; exact PySem.EqNone.eq_int_none (fin_bl I q (by simp))
    | int j => obtain ⟨t', rfl⟩ := ry; exact eq_int (fin_bl I q dec_int)
    | str j => obtain ⟨t', rfl⟩ := ry; exact PySem.EqMixed.eq_int_str (fin_bl I q (by simp))
    | _ => exact absurd (show false = true from hs) Bool.false_ne_true
  | str i =>
    obtain ⟨t, rfl⟩ := rx
    cases y with
    | non => cases ry; exact PySem.EqNone.eq_str_none (fin_bl I q (by simp))
    | bl j => cases ry; exact PySem.EqMixed.eq_str_bool (fin_bl I q (by simp))
    | int j => obtain ⟨t', rfl⟩ := ry; exact PySem.EqMixed.eq_str_int (fin_bl I q (by simp))
    | str j => obtain ⟨t', rfl⟩ := ry; exact eq_str (fin_bl I q dec_str)
    | _ => exact absurd (show false = true from hs) Bool.false_ne_true
  | byt i =>
    obtain ⟨t, rfl⟩ := rx
    cases y with
    | byt j => obtain ⟨t', rfl⟩ := ry; exact PySem.W.eq_bytes (fin_bl I q dec_byt)
    | _ => exact absurd (show false = true from hs) Bool.false_ne_true
  | _ => cases y <;> exact absurd (show false = true from hs) Bool.false_ne_true
theorem op_ne : OpR X (compareOp .NotEq) rNe := by
  intro pins s σ H x y v u Q I rx ry h
  obtain ⟨hs, q⟩ := h
  cases x with
  | non =>
    cases rx
    cases y with
    | non => cases ry; exact PySem.EqNone.ne_none_none (fin_bl I q (by simp))
    | bl j => cases ry; exact PySem.EqNone.ne_none_bool (fin_bl I q (by simp))
    | int j => obtain ⟨t', rfl⟩ := ry; exact PySem.EqNone.ne_none_int (fin_bl I q (by simp))
    | str j => obtain ⟨t', rfl⟩ := ry; exact PySem.EqNone.ne_none_str (fin_bl I q (by simp))
    | _ => exact absurd (show false = true from hs) Bool.false_ne_true
  | bl i =>
    cases rx
    cases y with
    | non => cases ry; exact PySem.EqNone.ne_bool_none (fin_bl I q (by simp))
    | bl j => cases ry; exact ne_bool (fin_bl I q (congrArg not dec_bl))
    | str j => obtain ⟨t', rfl⟩ := ry; exact PySem.EqMixed.ne_bool_str (fin_bl I q (by simp))
    | _ => exact absurd (show false = true from hs) Bool.false_ne_true
  | int i =>
    obtain ⟨t, rfl⟩ := rx
    cases y with
    | non => cases ry; exact PySem.EqNone.ne_int_none (fin_bl I q (by simp))
    | int j => obtain ⟨t', rfl⟩ := ry; exact ne_int (fin_bl I q (congrArg not dec_int))
    | str j => obtain ⟨t', rfl⟩ := ry; exact PySem.EqMixed.ne_int_str (fin_bl I q (by simp))
    | _ => exact absurd (show false = true from hs) Bool.false_ne_true
  | str i =>
    obtain ⟨t, rfl⟩ := rx
    cases y with
    | non => cases ry; exact PySem.EqNone.ne_str_none (fin_bl I q (by simp))
    | bl j => cases ry; exact PySem.EqMixed.ne_str_bool (fin_bl I q (by simp))
    | int j => obtain ⟨t', rfl⟩ := ry; exact PySem.EqMixed.ne_str_int (fin_bl I q (by simp))
    | str j => obtain ⟨t', rfl⟩ := ry; exact ne_str (fin_bl I q (congrArg not dec_str))
    | _ => exact absurd (show false = true from hs) Bool.false_ne_true
  | byt i =>
    obtain ⟨t, rfl⟩ := rx
    cases y with
    | byt j => obtain ⟨t', rfl⟩ := ry; exact PySem.W.ne_bytes (fin_bl I q (congrArg not dec_byt))
    | _ => exact absurd (show false = true from hs) Bool.false_ne_true
  | _ => cases y <;> exact absurd (show false = true from hs) Bool.false_ne_true
theorem op_lt : OpR X (compareOp .Lt) (rI0 fun i j => .bl (decide (i < j))) := opB0 fun _ _ _ _ _ _ _ q => lt_int q
theorem op_le : OpR X (compareOp .LtE) (rI0 fun i j => .bl (decide (i ≤ j))) := opB0 fun _ _ _ _ _ _ _ q => le_int q
theorem op_gt : OpR X (compareOp .Gt) (rI0 fun i j => .bl (decide (j < i))) := opB0 fun _ _ _ _ _ _ _ q => gt_int q
theorem op_ge : OpR X (compareOp .GtE) (rI0 fun i j => .bl (decide (j ≤ i))) := opB0 fun _ _ _ _ _ _ _ q => ge_int q
theorem op_isN : OpR X (compareOp .Is) (fun x y H Q => y = .non ∧ Q (.bl (decide (x = .non))) H) := by
  intro pins s σ H x y v u Q I rx ry h
  obtain ⟨rfl, q⟩ := h
  cases ry
  refine is_none_gen (fin_bl I q ?_)
  cases x <;> first
    | (cases rx; rfl)
    | (obtain ⟨t, rfl⟩ := rx; rfl)
theorem op_notN : OpR X (compareOp .IsNot) (fun x y H Q => y = .non ∧ Q (.bl (!decide (x = .non))) H) := by
  intro pins s σ H x y v u Q I rx ry h
  obtain ⟨rfl, q⟩ := h
  cases ry
  refine isnot_none_gen (fin_bl I q ?_)
  cases x <;> first
    | (cases rx; rfl)
    | (obtain ⟨t, rfl⟩ := rx; rfl)
def isObj : HO → Bool
  | .lst _ => true
  | .ins _ _ _ => true
  | _ => false
theorem nomark (b : Expr) {op : CmpOp} (h : op ≠ .In := by decide) (h2 : op ≠ .NotIn := by decide) : behindInMarks op b = false := by
  have e1 : (op == CmpOp.In) = false := by cases op <;> first | rfl | exact absurd rfl h
  have e2 : (op == CmpOp.NotIn) = false := by cases op <;> first | rfl | exact absurd rfl h2
  cases b <;> simp [behindInMarks, e1, e2]
theorem pe_cmpR {op : CmpOp} {r : R2} (ho : OpR X (compareOp op) r) (ha : PE X a ta) (hb : PE X b tb) (hm : behindInMarks op b = false) : PE X (.Compare a [op] [b] pos) (tOp r ta tb) := by
  intro pins s σ H Q I h
  exact wpAny_Compare1 (binT ha hb I h fun v u s2 x y H2 I2 rx ry q => ho pins s2 σ H2 x y v u Q I2 rx ry q) hm
def tTest (t : TE) : TT := fun σ H Q => t σ H fun x H' => ∃ k, x = .bl k ∧ Q k H'
theorem pt_cmpR {op : CmpOp} {r : R2} (ho : OpR X (compareOp op) r) (ha : PE X a ta) (hb : PE X b tb) (hm : behindInMarks op b = false) : PT X (.Compare a [op] [b] pos) (tTest (tOp r ta tb)) := by
  intro pins s σ H Q I h
  refine wpAny_isTrue_Compare1 (thn (ha pins s σ H _ I h) fun v s1 ⟨x, H1, I1, r1, q1⟩ => thn (hb pins s1 σ H1 _ I1 q1) fun u s2 ⟨y, H2, I2, r2, q2⟩ =>
    thn (ho pins s2 σ H2 x y v u _ I2 r1 r2 q2) fun c s3 ⟨z, H3, I3, r3, k, e, q3⟩ => ?_) hm
  subst e
  cases r3
  exact wpAny_truthy_bool ⟨H3, I3, q3⟩
def tChain (r r' : R2) (ta tb tc : TE) : TE := fun σ H Q => ta σ H fun x H1 => tb σ H1 fun y H2 => r x y H2 fun z H3 => ∃ k, z = .bl k ∧
  (if k = true then tc σ H3 fun w' H4 => r' y w' H4 Q else Q (.bl false) H3)
def TruV (K : PySem.W.Frag) (x : V) (H : Hp) (k : Bool) : Prop :=
  match x with
  | .non => k = false
  | .bl b => k = b
  | .int i => k = (i != 0)
  | .str y => y.length ≤ sizeLine ∧ k = ((y.length : Int) != 0)
  | .byt y => y.size ≤ sizeLine ∧ k = ((y.size : Int) != 0)
  | .ref p => (∃ xs, SqL K H p xs ∧ k = !xs.isEmpty) ∨ (∃ xs, SqT K H p xs ∧ k = !xs.isEmpty) ∨ ∃ kvs, H p = some (.dK kvs) ∧ k = !kvs.isEmpty
  | _ => False
theorem line63 : (sizeLine : Nat) < 2 ^ 63 := by rw [sizeLine_eq]; decide
def PlainIxT (b : Expr) : Prop := ∀ o i, subscripted b false o i = operate [o, i] (getItem o i)
theorem vals1 {x : V} {us : List Value} (r : Vals [x] us) : ∃ u, us = [u] ∧ RelV x u := by
  cases r with
  | cons r1 r2 => cases r2; exact ⟨_, rfl, r1⟩
theorem vals2 {x y : V} {us : List Value} (r : Vals [x, y] us) : ∃ u w', us = [u, w'] ∧ RelV x u ∧ RelV y w' := by
  cases r with
  | cons r1 r2 =>
    cases r2 with
    | cons r3 r4 => cases r4; exact ⟨_, _, rfl, r1, r3⟩
theorem call_max2 (hc : X.calm = true) : CallR X (.builtin "max") (fun xs H Q => ∃ i j, xs = [.int i, .int j] ∧ Q (.int (if j > i then j else i)) H) := by
  intro pins s σ H xs us Q I r h
  obtain ⟨i, j, rfl, q⟩ := h
  obtain ⟨u, w', rfl, ⟨t, rfl⟩, ⟨t', rfl⟩⟩ := vals2 r
  refine max_two_ints (I.ok.hd hc) fun h' tk k => ⟨_, H, I.kept k, ?_, q⟩
  by_cases hj : j > i
  · rw [if_pos hj, if_pos hj]; exact ⟨_, rfl⟩
  · rw [if_neg hj, if_neg hj]; exact ⟨_, rfl⟩
theorem call_min2 (hc : X.calm = true) : CallR X (.builtin "min") (fun xs H Q => ∃ i j, xs = [.int i, .int j] ∧ Q (.int (if j < i then j else i)) H) := by
  intro pins s σ H xs us Q I r h
  obtain ⟨i, j, rfl, q⟩ := h
  obtain ⟨u, w', rfl, ⟨t, rfl⟩, ⟨t', rfl⟩⟩ := vals2 r
  refine min_two_ints (I.ok.hd hc) fun h' tk k => ⟨_, H, I.kept k, ?_, q⟩
  by_cases hj : j < i
  · rw [if_pos hj, if_pos hj]; exact ⟨_, rfl⟩
  · rw [if_neg hj, if_neg hj]; exact ⟨_, rfl⟩
theorem call_int1 : CallR X (.type "int") (fun xs H Q => (∃ i, xs = [.int i] ∧ Q (.int i) H) ∨ ∃ k, xs = [.bl k] ∧ Q (.int (if k then 1 else 0)) H) := by
  intro pins s σ H xs us Q I r h
  rcases h with ⟨i, rfl, q⟩ | ⟨k, rfl, q⟩
  · obtain ⟨u, rfl, t, rfl⟩ := vals1 r
    exact call_int_int ⟨.int i, H, I, ⟨_, rfl⟩, q⟩
  · obtain ⟨u, rfl, r1⟩ := vals1 r
    cases r1
    exact call_int_bool ⟨.int (if k then 1 else 0), H, I.tok _, ⟨_, rfl⟩, q⟩
def LenV (K : PySem.W.Frag) (x : V) (H : Hp) (n : Nat) : Prop :=
  match x with
  | .str y => y.length ≤ sizeLine ∧ n = y.length
  | .byt y => y.size ≤ sizeLine ∧ n = y.size
  | .ref p => (∃ xs, SqL K H p xs ∧ n = xs.length) ∨ ∃ xs, SqT K H p xs ∧ n = xs.length
  | _ => False
end
end L2
namespace L2
open PySem PySem.Spec PyProof.Rows
structure ObjM (h : Heap) (x dx C : Addr) (mA : Str → Option Value) : Prop where
  obj : h.get? x = some (PySem.W.instObj C dx)
  ns : h.Ns1 dx mA
  ne : dx ≠ x
theorem lookIn_ns {h : Heap} {dx : Addr} {mA : Str → Option Value} (n : h.Ns1 dx mA) : ∃ od, h.get? dx = some od ∧ ∀ name, PySem.W.lookIn name od = some (mA name) := by
  obtain ⟨o, es, ep, ho, hd, hk, _, hm⟩ := n
  refine ⟨o, ho, fun name => ?_⟩
  have e := hm name
  unfold nsFind findBy at e
  rw [← Array.find?_toList] at e
  unfold PySem.W.lookIn
  rw [hd]
  dsimp only
  split
  · rename_i y q
    rw [q] at e
    exact congrArg some e
  · rename_i q
    rw [q] at e
    have a : es.toList.any (·.refKey) = false := by
      rw [List.any_eq_false]
      intro y hy
      obtain ⟨z, t, hkey⟩ := hk y (Array.mem_toList_iff.mp hy)
      simp [DictEntry.refKey, hkey]
    have a' : ¬ es.toList.any (·.refKey) = true := by rw [a]; exact Bool.false_ne_true
    rw [if_neg a']
    exact congrArg some e
theorem ObjM.look {h : Heap} {x dx C : Addr} {mA : Str → Option Value} (I : ObjM h x dx C mA) : ∃ od, PySem.W.InstAt h x (PySem.W.instObj C dx) C (some od) ∧ ∀ name, PySem.W.lookIn name od = some (mA name) :=
  let ⟨od, ho, hl⟩ := lookIn_ns I.ns
  ⟨od, ⟨I.obj, rfl, rfl, ho⟩, hl⟩
section
variable {prog : Program} {w : World} {A : Around} {E : Value → Shared → Prop} {s : Shared} {K : PySem.W.Frag} {x dx C f : Addr} {mA : Str → Option Value} {name : Str} {v : Value}
end
def putF (f : Str) (v : V) : List (Str × V) → List (Str × V)
  | [] => [(f, v)]
  | (g, x) :: r => if g = f then (g, v) :: r else (g, x) :: putF f v r
section
variable {P : Program} {w : World} {H H' : Hp} {h h' : Heap} {a C dx : Addr} {fs fs' : List (Str × V)}
theorem ins_get (hok : HOk P w H h) (e : H a = some (.ins C dx fs)) : ∃ mA, ObjM h a dx C mA ∧ (∀ f, RelO (fs.lookup f) (mA f)) ∧ PySem.Within mA (fs.map (·.1)) ∧ fs.length ≤ 1000 ∧ H dx = some (.own a) := by
  obtain ⟨d, z, ne, ob, mA, n, r, q⟩ := (show ObjOk P w H h a (.ins C dx fs) from hok a _ e)
  exact ⟨mA, ⟨ob, n, ne⟩, r, q, z, d⟩
end
structure Cls (K : PySem.W.Frag) (C : Addr) : Prop where
  pg : PySem.W.plainGet K C Str.empty = true
  hd : PySem.W.hasDictIn K C = true
  po : PySem.W.plainOver K C = true
  sa : PySem.W.findIn K (.ref C) "__setattr__" = some (some (.builtin "object.__setattr__"))
theorem Cls.get {K : PySem.W.Frag} {C : Addr} (c : Cls K C) (f : Str) : PySem.W.plainGet K C f = true := c.pg
def NoAttr (K : PySem.W.Frag) (C : Addr) (f : Str) : Prop := PySem.W.findIn K (.ref C) f = some none
structure Con (K : PySem.W.Frag) (C : Addr) (f : Str) (v : V) (u : Value) : Prop where
  at_ : PySem.W.findIn K (.ref C) f = some (some u)
  rel : RelV v u
  get : PySem.W.specialIn K u "__get__" = some none
  cp : PySem.W.copiedNames.contains f = false
structure Meth (K : PySem.W.Frag) (C : Addr) (m : Str) (f : Addr) : Prop where
  at_ : PySem.W.findIn K (.ref C) m = some (some (.ref f))
  fn : PySem.W.isFn K (.ref f) = true
  kp : PySem.W.keepIn K (.ref f) = true
section
variable {X : Cx} {pins : List (Addr × Obj)} {σ : St} {H : Hp} {s : Shared} {a C dx : Addr} {fs : List (Str × V)} {f : Str} {v : V} {A : Around} {E : Value → Shared → Prop}
end
def tFld (K : PySem.W.Frag) (ta : TE) (f : Str) : TE := fun σ H Q => ta σ H fun x H1 => ∃ a C dx fs v, x = .ref a ∧ H1 a = some (.ins C dx fs) ∧ Cls K C ∧ NoAttr K C f ∧ fs.lookup f = some v ∧ Q v H1
def tCon (K : PySem.W.Frag) (ta : TE) (f : Str) : TE := fun σ H Q => ta σ H fun x H1 => ∃ a C dx fs v u, x = .ref a ∧ H1 a = some (.ins C dx fs) ∧ Cls K C ∧ Con K C f v u ∧ fs.lookup f = none ∧ Q v H1
def sFld (K : PySem.W.Frag) (ta tv : TE) (f : Str) : TS := fun D σ H => tv σ H fun y H1 => ta σ H1 fun x H2 => ∃ a C dx fs, x = .ref a ∧ H2 a = some (.ins C dx fs) ∧ Cls K C ∧ NoAttr K C f ∧ fs.length < 1000 ∧
  D.nx σ (upd H2 a (.ins C dx (putF f y fs)))
def InOp (X : Cx) (op : Operator) (rd : V → V → Hp → VK → Prop) : Prop :=
  ∀ (pins : List (Addr × Obj)) (s : Shared) (σ : St) (H : Hp) (x y : V) (u v : Value) (Q : VK), Inv X pins σ H s → RelV x u → RelV y v → rd x y H Q → wpAny (model X.prog X.w) X.A (inplaceOp op u v) (EP X pins σ Q) X.xe s
def sFldAug (K : PySem.W.Frag) (ta tv : TE) (rd : V → V → Hp → VK → Prop) (f : Str) : TS := fun D σ H => ta σ H fun x H1 => ∃ a C dx fs v, x = .ref a ∧ H1 a = some (.ins C dx fs) ∧ Cls K C ∧ NoAttr K C f ∧ fs.lookup f = some v ∧
  tv σ H1 fun y H2 => rd v y H2 fun z H3 => ∃ dx' fs', H3 a = some (.ins C dx' fs') ∧ fs'.length < 1000 ∧ D.nx σ (upd H3 a (.ins C dx' (putF f z fs')))
section
variable {X : Cx} {o e value : Expr} {f : Str} {pos pos' tpos : Pos} {ta tv : TE}
def rAdd : V → V → Hp → VK → Prop := fun x y H Q => ∃ i j, x = .int i ∧ y = .int j ∧ Q (.int (i + j)) H
def rSub : V → V → Hp → VK → Prop := fun x y H Q => ∃ i j, x = .int i ∧ y = .int j ∧ Q (.int (i - j)) H
end
section
variable {X : Cx} {pins : List (Addr × Obj)} {σ : St} {H : Hp} {s : Shared} {A : Around} {E : Value → Shared → Prop} {Q : Value → Shared → Prop} {c : Value} {b : Bool}
inductive TyOf (K : PySem.W.Frag) (H : Hp) : V → Value → Prop where
  | non : TyOf K H .non (.type "NoneType")
  | bl (x : Bool) : TyOf K H (.bl x) (.type "bool")
  | int (i : Int) : TyOf K H (.int i) (.type "int")
  | str (x : Str) : TyOf K H (.str x) (.type "str")
  | flt (x : UInt64) : TyOf K H (.flt x) (.type "float")
  | lst {a : Addr} {xs : List V} (e : H a = some (.lst xs)) : TyOf K H (.ref a) (.type "list")
  | frz {a : Addr} {o : Obj} {xs : List V} (e : H a = some (.frz o (.lst xs))) : TyOf K H (.ref a) (.type "list")
  | tup {a : Addr} {xs : List V} (e : H a = some (.tup xs)) : TyOf K H (.ref a) (.type "tuple")
  | dK {a : Addr} {kvs : List (Key × V)} (e : H a = some (.dK kvs)) : TyOf K H (.ref a) (.type "dict")
  | dT {a : Addr} {kvs : List (List Key × V)} (e : H a = some (.dT kvs)) : TyOf K H (.ref a) (.type "dict")
  | ins {a C dx : Addr} {fs : List (Str × V)} (e : H a = some (.ins C dx fs)) (cl : Cls K C) (ha : PySem.W.findIn K (.ref C) "__class__" = some (some (.builtin "object.__class__")))
      (hn : PySem.W.specialIn K (.builtin "object.__class__") "__get__" = some (some (.builtin "getset_descriptor.__get__"))) (htk : PySem.W.takesIn K (.builtin "object.__class__") = some true)
      (hm : PySem.W.mroIn K C (.type "object") = some true) : TyOf K H (.ref a) (.ref C)
theorem isinst_ok {x : V} {u t : Value} (I : Inv X pins σ H s) (rx : RelV x u) (ty : TyOf X.K H x t) (e : PySem.W.kitOne X.K t c = some b) (h : ∀ tk, Q (.bool b) { s with toks := tk }) :
    wpAny (model X.prog X.w) A (call (.builtin "isinstance") [u, c]) Q E s := by
  cases ty with
  | non => cases (show u = Value.none from rx); exact PySem.W.kia_one PySem.W.kitx_none I.kIn True.intro e (fun z => nomatch z) h
  | bl y => cases (show u = Value.bool y from rx); exact PySem.W.kia_one PySem.W.kitx_bool I.kIn True.intro e (fun z => nomatch z) h
  | int i => obtain ⟨t, q⟩ := (show ∃ t, u = Value.int i t from rx); cases q; exact PySem.W.kia_one PySem.W.kitx_int I.kIn True.intro e (fun z => nomatch z) h
  | str y => obtain ⟨t, q⟩ := (show ∃ t, u = Value.str y t from rx); cases q; exact PySem.W.kia_one PySem.W.kitx_str I.kIn True.intro e (fun z => nomatch z) h
  | flt y => obtain ⟨t, q⟩ := (show ∃ t, u = Value.float y t from rx); cases q; exact PySem.W.kia_one PySem.W.kitx_float I.kIn True.intro e (fun z => nomatch z) h
  | @lst a xs ea =>
    cases (show u = Value.ref a from rx)
    obtain ⟨_, _, n, _, h1⟩ := (show ObjOk X.prog X.w H s.heap a (.lst xs) from I.hok a _ ea)
    exact PySem.W.kia_one PySem.W.kitx_list I.kIn ⟨_, h1, rfl⟩ e (fun z => nomatch z) h
  | @frz a ob xs ea =>
    cases (show u = Value.ref a from rx)
    obtain ⟨_, _, _, n, _, h1⟩ := (show ObjOk X.prog X.w H s.heap a (.frz ob (.lst xs)) from I.hok a _ ea)
    exact PySem.W.kia_one PySem.W.kitx_list I.kIn ⟨_, h1, rfl⟩ e (fun z => nomatch z) h
  | @tup a xs ea =>
    cases (show u = Value.ref a from rx)
    obtain ⟨_, _, _, p⟩ := (show ObjOk X.prog X.w H s.heap a (.tup xs) from I.hok a _ ea)
    obtain ⟨o, h1, h2, _⟩ := p
    exact PySem.W.kia_one PySem.W.kitx_tuple I.kIn ⟨o, h1, h2⟩ e (fun z => nomatch z) h
  | @dK a kvs ea =>
    cases (show u = Value.ref a from rx)
    obtain ⟨_, _, vs, _, p⟩ := (show ObjOk X.prog X.w H s.heap a (.dK kvs) from I.hok a _ ea)
    obtain ⟨o, es, ep, h1, h2, _⟩ := p
    exact PySem.W.kia_one PySem.W.kitx_dict I.kIn ⟨o, h1, h2.1⟩ e (fun z => nomatch z) h
  | @dT a kvs ea =>
    cases (show u = Value.ref a from rx)
    obtain ⟨_, _, xs, _, o, es, ep, h1, h2, _⟩ := (show ObjOk X.prog X.w H s.heap a (.dT kvs) from I.hok a _ ea)
    exact PySem.W.kia_one PySem.W.kitx_dict I.kIn ⟨o, h1, h2.1⟩ e (fun z => nomatch z) h
  | @ins a C dx fs ea cl ha hn htk hm =>
    cases (show u = Value.ref a from rx)
    obtain ⟨mA, O, _⟩ := ins_get I.hok ea
    obtain ⟨od, J, _⟩ := O.look
    exact PySem.W.kia_one (PySem.W.kitx_own (cl.get _) cl.hd ha hn htk hm) I.kIn J e (fun z => nomatch z) h
end
end L2
namespace L2
open PySem PySem.Spec PyProof.Rows
structure Room (k : Nat) (A : Around) : Prop where
  hd : A.handled = none
  dp : A.depth + 3 * k + 5 < recursionLimit
  un : A.units + 16 * k + 200 < cLine
theorem Room.mono {j k : Nat} {A : Around} (r : Room k A) (h : j ≤ k) : Room j A := ⟨r.hd, by have := r.dp; omega, by have := r.un; omega⟩
theorem Room.deeper {k : Nat} {A : Around} (r : Room (k + 1) A) (env : Env) : Room k (A.deeper env) :=
  ⟨r.hd, by have := r.dp; show A.depth + 1 + 3 * k + 5 < _; omega, by have := r.un; show A.units + 3 + 16 * k + 200 < _; omega⟩
theorem Room.depth {k : Nat} {A : Around} (r : Room k A) : A.depth < recursionLimit := by have := r.dp; omega
theorem Room.units {k : Nat} {A : Around} (r : Room k A) : A.units + 64 < cLine := by have := r.un; omega
def tNil : TA := fun _ H Q => Q [] H
def tCons (ta : TE) (tr : TA) : TA := fun σ H Q => ta σ H fun x H1 => tr σ H1 fun xs H2 => Q (x :: xs) H2
section
variable {X : Cx} {e : Expr} {es : List Expr} {te : TE} {t : TA} {pos : Pos}
theorem pa_nil : PA X [] tNil := fun _ _ _ _ H Q I h => Calls.spliced_nil ⟨[], H, I, .nil, h⟩
theorem pa_cons (ha : PE X e te) (hr : PA X es t) (hs : starEach (e :: es) X.env = (false, eval e X.env) :: starEach es X.env := by rfl) : PA X (e :: es) (tCons te t) := by
  intro pos pins s σ H Q I h
  rw [hs]
  show wpAny _ _ (spliced ((false, eval e X.env) :: backTo pos (starEach es X.env))) _ _ s
  refine Calls.spliced_cons (thn (ha pins s σ H _ I h) fun u s1 ⟨x, H1, I1, r1, q1⟩ => ?_)
  exact thn (hr pos pins s1 σ H1 _ I1 q1) fun us s2 ⟨xs, H2, I2, r2, q2⟩ => ⟨x :: xs, H2, I2, .cons r1 r2, q2⟩
def tTup (t : TA) : TE := fun σ H Q => t σ H fun xs H1 => xs.length ≤ sizeLine ∧ ∀ p, H1 p = none → Q (.ref p) (upd H1 p (.tup xs))
def tLst (t : TA) : TE := fun σ H Q => t σ H fun xs H1 => xs.length ≤ sizeLine ∧ ∀ p, H1 p = none → Q (.ref p) (upd H1 p (.lst xs))
theorem pe_tup {x1} (h : PA X es t) : PE X (.Tuple es x1 pos) (tTup t) := by
  intro pins s σ H Q I hq
  refine wpAny_Tuple_spliced (thn (h pos pins s σ H _ I hq) fun us s1 ⟨xs, H1, I1, r, z, q⟩ => ⟨by rw [← r.length]; exact z, ?_⟩)
  have hf : H1 s1.heap.objs.size = none := I1.hok.fresh (Nat.le_refl _)
  refine ⟨.ref s1.heap.objs.size, upd H1 s1.heap.objs.size (.tup xs), I1.laid (t' := s1.toks) (fun b u e => Heap.get?_push_of_some _ e) (Nat.le_refl _) ?_, rfl, q _ hf⟩
  exact ⟨z, us, r, ⟨_, Heap.get?_push_size _ rfl, rfl, _, rfl⟩⟩
theorem pe_lst (h : PA X es t) : PE X (.List es pos) (tLst t) := by
  intro pins s σ H Q I hq
  refine wpAny_List_spliced (thn (h pos pins s σ H _ I hq) fun us s1 ⟨xs, H1, I1, r, z, q⟩ => ⟨by rw [← r.length]; exact z, ?_⟩)
  have hf : H1 s1.heap.objs.size = none := I1.hok.fresh (Nat.le_refl _)
  refine ⟨.ref s1.heap.objs.size, upd H1 s1.heap.objs.size (.lst xs), I1.laid (t' := s1.toks) (fun b u e => Heap.get?_push_of_some _ e) (Nat.le_refl _) ?_, rfl, q _ hf⟩
  exact ⟨z, us, 0, r, Heap.get?_push_size _ rfl⟩
end
abbrev Sp := List V → Hp → VK → XK → Prop
abbrev CXT := List Env → Hp → Shared → XK → Value → Shared → Prop
structure Env0 (P : Program) (w : World) (K : PySem.W.Frag) (mg : Str → Option Value) (base : Heap) (A : Around) (outer : List Env) (s : Shared) (H : Hp) : Prop where
  frames : A.frames = some outer
  mod : Mod K mg base
  bs : ∀ b o, base.get? b = some o → s.heap.get? b = some o ∧ H b = none
  bsz : base.objs.size ≤ s.heap.objs.size
  funs : s.heap.FunFrames base outer
  frf : ∀ b ∈ frs outer, H b = none
  hok : HOk P w H s.heap
  bare : AllBare s.gens
def CE (outer : List Env) (P : Program) (w : World) (H : Hp) (s : Shared) (Q : VK) (u : Value) (s' : Shared) : Prop :=
  ∃ v H', s'.os = s.os ∧ AllBare s'.gens ∧ Un (frs outer) [] H H' s.heap s'.heap ∧ HOk P w H' s'.heap ∧ RelV v u ∧ Q v H'
def CR (CX : CXT) (outer : List Env) (P : Program) (w : World) (H : Hp) (s : Shared) (Q : VK) (E : XK) (r : Result) (s' : Shared) : Prop :=
  match r with
  | .ok (.ret u) => CE outer P w H s Q u s'
  | .ok _ => False
  | .error e => CX outer H s E e s'
structure FnOk (P : Program) (w : World) (K : PySem.W.Frag) (mg : Str → Option Value) (base : Heap) (CX : CXT) (k : Nat) (f : Addr) (fd : FuncData) (ps : List Str) (sp : Sp) : Prop where
  len : ∀ vs H Q E, sp vs H Q E → vs.length = ps.length
  run : ∀ (A : Around) (outer : List Env) (s : Shared) (H : Hp) (args : Args) (us : List Value) (vs : List V) (Q : VK) (E : XK), Room k A → Env0 P w K mg base A outer s H → BindsTo s fd args (ps.zip us) → Vals vs us → sp vs H Q E →
    codeAny (model P w) A (.call (.ref f) args) (CR CX outer P w H s Q E) s
section
variable {X : Cx} {pins : List (Addr × Obj)} {σ : St} {H : Hp} {s s' : Shared}
theorem Inv.env0 (I : Inv X pins σ H s) : Env0 X.prog X.w X.K X.mg X.base X.A X.stack s H :=
  ⟨I.ok.frames, I.ok.mod, I.bs, Nat.le_trans I.ok.bsz I.sz, I.stack, I.stkFree, I.hok, I.bare⟩
theorem Inv.after {Q : VK} {u : Value} (I : Inv X pins σ H s) (h : CE X.stack X.prog X.w H s Q u s') : EP X pins σ Q u s' := by
  obtain ⟨v, H', os, bare, un, hok, r, q⟩ := h
  obtain ⟨hh, g, d, t, os'⟩ := s'
  obtain rfl : os' = s.os := os
  exact ⟨v, H', I.call (h' := hh) (g' := g) (d' := d) (t' := t) (ch := []) un hok bare (fun b z => absurd z (by simp)), r, q⟩
end
def tCall (sp : Sp) (dvs : List V) (E : XK) (t : TA) : TE := fun σ H Q => t σ H fun vs H1 => sp (vs ++ dvs) H1 Q E
def tMeth (C : Addr) (m : Str) (sp : Sp) (dvs : List V) (E : XK) (ta : TE) (t : TA) : TE := fun σ H Q => ta σ H fun x H1 => ∃ a dx fs, x = .ref a ∧ H1 a = some (.ins C dx fs) ∧ fs.lookup m = none ∧
  t σ H1 fun vs H2 => sp (x :: (vs ++ dvs)) H2 Q E
def tMake (C : Addr) (sp : Sp) (dvs : List V) (E : XK) (t : TA) : TE := fun σ H Q => t σ H fun vs H1 => ∀ x dx, H1 x = none → H1 dx = none → dx ≠ x →
  sp (.ref x :: (vs ++ dvs)) (upd (upd H1 dx (.own x)) x (.ins C dx [])) (fun v H2 => v = .non ∧ Q (.ref x) H2) E
def Binds (K : PySem.W.Frag) (fd : FuncData) (ps : List Str) (ds : List Value) : Prop :=
  ∀ (s : Shared) (us : List Value), K.In s.heap → (us ++ ds).length = ps.length → BindsTo s fd ⟨us, []⟩ (ps.zip (us ++ ds))
theorem Binds.all {K : PySem.W.Frag} {fd : FuncData} {ps : List Str} (h : ∀ us : List Value, us.length = ps.length → bindArgs fd ⟨us, []⟩ = pure (ps.zip us)) : Binds K fd ps [] := fun s us _ hl => by
  rw [List.append_nil] at hl ⊢
  exact .of_eq (h us hl)
def Passes (CX : CXT) (X : Cx) (E : XK) : Prop := ∀ (pins : List (Addr × Obj)) (σ : St) (H : Hp) (s : Shared) (e : Value) (s' : Shared), Inv X pins σ H s → CX X.stack H s E e s' → X.xe e s'
section
variable {X : Cx} {CX : CXT} {k : Nat} {f C : Addr} {fd : FuncData} {ps : List Str} {sp : Sp} {dvs : List V} {ds : List Value} {E : XK} {x m : Str} {p pos apos : Pos} {e o : Expr} {es : List Expr} {ta : TE} {t : TA}
theorem run_fn {pins : List (Addr × Obj)} {σ : St} {H : Hp} {s : Shared} {Q : VK} {us : List Value} {vs : List V} (F : FnOk X.prog X.w X.K X.mg X.base CX k f fd ps sp) (hr : Room k X.A) (hb : Binds X.K fd ps ds) (hd : Vals dvs ds) (hx : Passes CX X E)
    (I : Inv X pins σ H s) (r : Vals vs us) (h : sp (vs ++ dvs) H Q E) : wpAny (model X.prog X.w) X.A (call (.ref f) us) (EP X pins σ Q) X.xe s := by
  have r2 : Vals (vs ++ dvs) (us ++ ds) := r.append hd
  have hl : (us ++ ds).length = ps.length := by rw [← r2.length]; exact F.len _ _ _ _ h
  refine wpAny_call (codeAny_mono (F.run X.A X.stack s H ⟨us, []⟩ (us ++ ds) (vs ++ dvs) Q E hr I.env0 (hb s us I.kIn hl) r2 h) fun r s' hq => ?_)
  cases r with
  | error e => exact hx pins σ H s e s' I hq
  | ok fl =>
    cases fl with
    | ret u => exact I.after hq
    | next => exact False.elim hq
    | brk => exact False.elim hq
    | cont => exact False.elim hq
theorem pe_call (F : FnOk X.prog X.w X.K X.mg X.base CX k f fd ps sp) (hr : Room k X.A) (hg : Gl X x) (hm : X.mg x = some (.ref f)) (hk : PySem.W.keepIn X.K (.ref f) = true) (hb : Binds X.K fd ps ds) (hd : Vals dvs ds) (hx : Passes CX X E)
    (ha : PA X (e :: es) t) (hdb : (x == ("__debug__" : Str)) = false := by decide) (he : starEach (e :: es) X.env = (false, eval e X.env) :: starEach es X.env := by rfl) (hpl : (backTo pos (starEach es X.env)).any (·.1) = false := by rfl) :
    PE X (.Call (.Name x p) (e :: es) [] pos) (tCall sp dvs E t) := by
  intro pins s σ H Q I h
  refine wpAny_Call_Name_kw (ld_glob I hg hm ?_ hdb)
  refine PySem.W.callWith_K (h₀ := X.base) I.ok.mod.kin hk (thn (ha pos pins s σ H _ I h) fun us s1 ⟨vs, H1, I1, r, q⟩ => ⟨I1.kIn, ?_⟩) he hpl
  exact run_fn F hr hb hd hx I1 r q
structure Mk (K : PySem.W.Frag) (C f : Addr) : Prop where
  makes : PySem.W.makesIn K C = true
  init : PySem.W.findIn K (.ref C) "__init__" = some (some (.ref f))
  fn : PySem.W.isFn K (.ref f) = true
  kp : PySem.W.keepIn K (.ref C) = true
end
def PK (X : Cx) (kws : List Keyword) (t : TA) : Prop :=
  ∀ (pos : Pos) (pins : List (Addr × Obj)) (s : Shared) (σ : St) (H : Hp) (Q : List V → Hp → Prop), Inv X pins σ H s → t σ H Q → wpAny (model X.prog X.w) X.A (evalAll ((backToKw pos (keywordEach kws X.env)).map (·.2))) (AP X pins σ Q) X.xe s
section
variable {X : Cx} {CX : CXT} {k : Nat} {f C : Addr} {fd : FuncData} {ps ks : List Str} {sp : Sp} {E : XK} {x m : Str} {p pos apos kpos : Pos} {e o : Expr} {es : List Expr} {kws : List Keyword} {te ta : TE} {t tk : TA} {nm : Option Str}
structure KBinds (K : PySem.W.Frag) (fd : FuncData) (ps ks : List Str) (g : List Value → List Value → List Value) (gV : List V → List V → List V) : Prop where
  to : ∀ (s : Shared) (us ws : List Value), K.In s.heap → (g us ws).length = ps.length → BindsTo s fd ⟨us, ks.zip ws⟩ (ps.zip (g us ws))
  rel : ∀ {vs : List V} {us : List Value} {zs : List V} {ws : List Value}, Vals vs us → Vals zs ws → Vals (gV vs zs) (g us ws)
def tCallK (sp : Sp) (gV : List V → List V → List V) (E : XK) (t tk : TA) : TE := fun σ H Q => t σ H fun vs H1 => tk σ H1 fun zs H2 => sp (gV vs zs) H2 Q E
variable {g : List Value → List Value → List Value} {gV : List V → List V → List V}
end
structure FnScope (N P : List Str) (sc : Scope) : Prop where
  kind : sc.kind = .function
  co : sc.isCoroutine = false
  gen : sc.isGenerator = false
  nd : N.Nodup
  pre : N.take P.length = P
  par : ∀ x ∈ P, sc.names.lookup x = some .local ∨ sc.names.lookup x = some .cell
  nofree : ∀ y ∈ sc.names, y.2 ≠ .free
theorem bindL_out {kindOf : Str → Option NameKind} {x : Str} : ∀ {binds : List (Str × Value)} {m : Str → Option Value}, (∀ v, (x, v) ∉ binds) → bindL kindOf binds m x = m x
  | [], _, _ => rfl
  | (n, v) :: r, m, h => by
    unfold bindL
    rw [bindL_out fun w hw => h w (List.mem_cons_of_mem _ hw)]
    split
    · have : x ≠ n := by rintro rfl; exact h v List.mem_cons_self
      simp [this]
    · rfl
theorem bindC_out {kindOf : Str → Option NameKind} {x : Str} : ∀ {binds : List (Str × Value)} {m : Str → Option Value}, (∀ v, (x, v) ∉ binds) → bindC kindOf binds m x = m x
  | [], _, _ => rfl
  | (n, v) :: r, m, h => by
    unfold bindC
    rw [bindC_out fun w hw => h w (List.mem_cons_of_mem _ hw)]
    split
    · rfl
    · have : x ≠ n := by rintro rfl; exact h v List.mem_cons_self
      simp [this]
theorem bindL_get {kindOf : Str → Option NameKind} {x : Str} {v : Value} : ∀ {P : List Str} {vs : List Value} {i : Nat} {m : Str → Option Value}, P.Nodup → P[i]? = some x → vs[i]? = some v → kindOf x = some .local →
    bindL kindOf (P.zip vs) m x = some v
  | [], _, _, _, _, h, _, _ => by simp at h
  | _ :: _, [], _, _, _, _, h, _ => by simp at h
  | p :: P, w :: vs, 0, m, nd, h1, h2, hk => by
    simp at h1 h2; subst h1; subst h2
    show bindL kindOf ((p, w) :: P.zip vs) m p = _
    unfold bindL
    rw [bindL_out fun v hv => (List.nodup_cons.mp nd).1 (List.of_mem_zip hv).1, if_pos hk]
    simp
  | p :: P, w :: vs, i + 1, m, nd, h1, h2, hk => by
    show bindL kindOf ((p, w) :: P.zip vs) m x = _
    unfold bindL
    exact bindL_get (i := i) (List.nodup_cons.mp nd).2 (by simpa using h1) (by simpa using h2) hk
theorem bindC_get {kindOf : Str → Option NameKind} {x : Str} {v : Value} : ∀ {P : List Str} {vs : List Value} {i : Nat} {m : Str → Option Value}, P.Nodup → P[i]? = some x → vs[i]? = some v → kindOf x ≠ some .local →
    bindC kindOf (P.zip vs) m x = some v
  | [], _, _, _, _, h, _, _ => by simp at h
  | _ :: _, [], _, _, _, _, h, _ => by simp at h
  | p :: P, w :: vs, 0, m, nd, h1, h2, hk => by
    simp at h1 h2; subst h1; subst h2
    show bindC kindOf ((p, w) :: P.zip vs) m p = _
    unfold bindC
    rw [bindC_out fun v hv => (List.nodup_cons.mp nd).1 (List.of_mem_zip hv).1, if_neg hk]
    simp
  | p :: P, w :: vs, i + 1, m, nd, h1, h2, hk => by
    show bindC kindOf ((p, w) :: P.zip vs) m x = _
    unfold bindC
    exact bindC_get (i := i) (List.nodup_cons.mp nd).2 (by simpa using h1) (by simpa using h2) hk
def start (N : List Str) (vs : List V) : St := vs.map some ++ List.replicate (N.length - vs.length) none
def cxOf (CX : CXT) (P : Program) (w : World) (K : PySem.W.Frag) (mg : Str → Option Value) (base : Heap) (N : List Str) (qual : Str) (scope : Scope) (f : Addr) (cd : Value) (A : Around) (outer : List Env) (s : Shared) (H : Hp) (E : XK) : Cx where
  prog := P
  w := w
  K := K
  mg := mg
  base := base
  A := A.deeper (envOfC qual scope s.heap.objs.size f cd)
  N := N
  s₀ := s
  H₀ := H
  env := envOfC qual scope s.heap.objs.size f cd
  outer := outer
  stack := envOfC qual scope s.heap.objs.size f cd :: outer
  ex := []
  calm := true
  fn := fun _ => true
  pn := []
  xe := fun e s' => wpAny (model P w) (A.deeper (envOfC qual scope s.heap.objs.size f cd)) (leaving (envOfC qual scope s.heap.objs.size f cd) e) (fun _ s'' => CX outer H s E e s'') (fun e' s'' => CX outer H s E e' s'') s'
theorem cell_has {sc : Scope} {n : Nat} {x : Str} (h : sc.names.lookup x = some .cell) : ∃ c, (cellsFrom n sc.names []).lookup x = some c := by
  have q := PySem.W.cellsFrom_some sc.names n [] (.inl h)
  exact Option.isSome_iff_exists.mp q
theorem inv_start {CX : CXT} {P : Program} {w : World} {K : PySem.W.Frag} {mg : Str → Option Value} {base : Heap} {N ps : List Str} {qual : Str} {scope : Scope} {f : Addr} {cd : Value} {A : Around} {outer : List Env} {s s1 : Shared} {H : Hp} {E : XK} {us : List Value} {vs : List V}
    (S : FnScope N ps scope) (hd : A.handled = none) (e0 : Env0 P w K mg base A outer s H) (hl : vs.length = ps.length) (r : Vals vs us)
    (x : InCallC s s.heap.objs.size (bindL (envOfC qual scope s.heap.objs.size f cd).kindOf (ps.zip us) fun _ => none) (cellsFrom (s.heap.objs.size + 1) scope.names []) (bindC (envOfC qual scope s.heap.objs.size f cd).kindOf (ps.zip us) fun _ => none) s1) :
    Inv (cxOf CX P w K mg base N qual scope f cd A outer s H E) [] (start N vs) H s1 := by
  have hpl : ps.length ≤ N.length := by have := congrArg List.length S.pre; rw [List.length_take] at this; omega
  obtain ⟨h1, tk, rfl, hk⟩ := x.done
  have noA : ∀ b : Addr, b ∉ (cxOf CX P w K mg base N qual scope f cd A outer s H E).ex := fun b z => absurd (show b ∈ ([] : List Addr) from z) (by simp)
  refine ⟨⟨e0.mod, S.kind, rfl, rfl, Nat.le_refl _, fun y z c h1 h2 => ?_, fun y hy => ?_, fun y c _ h => ?_, fun _ => hd, Around.frames_deeper e0.frames, .inr ⟨rfl, rfl⟩, fun b z => absurd z (noA b), e0.bs, e0.bsz, fun b _ _ => noA b, fun b z => absurd z (noA b), e0.funs, e0.frf⟩,
    rfl, e0.bare, Un.kept hk, ⟨_, x.toInCall.ns, fun i y v h1 h2 h3 => ?_⟩, fun y c h => ⟨_, x.cell y c h⟩, e0.hok.fresh (Nat.le_refl _), fun y c h => ?_, fun p hp => absurd (show p ∈ ([] : List (Addr × Obj)) from hp) (by simp), e0.hok.kept hk, ?_⟩
  · exact name_of_addr x.apart (PySem.mem_of_lookup h1) (PySem.mem_of_lookup h2)
  · have hy : scope.names.lookup y = some .cell ∨ scope.names.lookup y = some .free := hy
    rcases hy with hy | hy
    · exact cell_has hy
    · exact absurd rfl (S.nofree _ (PySem.mem_of_lookup hy))
  · exact Nat.le_of_lt (x.above y c (PySem.mem_of_lookup h))
  · have hi : i < vs.length := by
      unfold start at h2
      by_cases hi : i < vs.length
      · exact hi
      · rw [List.getElem?_append_right (by simpa using hi)] at h2
        rw [List.getElem?_replicate] at h2
        split at h2 <;> cases h2
    have ha : vs[i]? = some v := by
      unfold start at h2
      rw [List.getElem?_append_left (by simpa using hi), List.getElem?_map] at h2
      cases e : vs[i]? with
      | none => rw [e] at h2; cases h2
      | some a => rw [e] at h2; cases h2; rfl
    obtain ⟨u, hu, rv⟩ := r.get ha
    have hp : ps[i]? = some y := by
      rw [← S.pre, List.getElem?_take_of_lt (by omega)]; exact h1
    have ndP : ps.Nodup := by rw [← S.pre]; exact S.nd.sublist (List.take_sublist _ _)
    refine ⟨u, rv, ?_⟩
    rcases S.par y (List.mem_of_getElem? hp) with k | k
    · exact .inl ⟨k, bindL_get ndP hp hu k⟩
    · obtain ⟨c, e⟩ := cell_has (n := s.heap.objs.size + 1) k
      refine .inr ⟨.inl k, c, e, ?_⟩
      have q := x.cell y c e
      rw [bindC_get ndP hp hu (by show scope.names.lookup y ≠ _; rw [k]; decide)] at q
      exact q
  · exact e0.hok.fresh (Nat.le_of_lt (x.above y c (PySem.mem_of_lookup h)))
  · unfold start
    show _ = N.length
    rw [List.length_append, List.length_map, List.length_replicate]
    omega
theorem fn_of {CX : CXT} {P : Program} {w : World} {K : PySem.W.Frag} {mg : Str → Option Value} {base : Heap} {k : Nat} {f : Addr} {name qual : Str} {params : Arguments} {body : List Stmt} {scope : Scope} {dV kV doc pm cdv ct oc : Value} {an od : Option Addr}
    {osl : Array (Option Value)} {N ps : List Str} {sp : Sp} (lk : K.lookup f = some ⟨oc, od, .func (PySem.W.fnOf name qual params body scope dV kV doc pm an cdv ct), osl⟩) (hcd : PySem.W.codeIn K cdv qual = true) (S : FnScope N ps scope)
    (len : ∀ vs H Q E, sp vs H Q E → vs.length = ps.length)
    (hbody : ∀ (A : Around) (outer : List Env) (s : Shared) (H : Hp) (vs : List V) (Q : VK) (E : XK), Room k (A.deeper (envOfC qual scope s.heap.objs.size f cdv)) → sp vs H Q E →
      ∃ t, PSs (cxOf CX P w K mg base N qual scope f cdv A outer s H E) body t ∧ t { nx := fun _ H' => Q .non H', rt := Q } (start N vs) H) :
    FnOk P w K mg base CX (k + 1) f (PySem.W.fnOf name qual params body scope dV kV doc pm an cdv ct) ps sp := by
  refine ⟨len, fun A outer s H args us vs Q E hr e0 hb r hsp => ?_⟩
  have hl := len _ _ _ _ hsp
  have KX : K.In s.heap := e0.mod.kin.keeps fun b o e => (e0.bs b o e).1
  have lim : s.heap.NoLimit := e0.mod.nolimit.keeps fun b o e => (e0.bs b o e).1
  have hkind : ∀ y ∈ ps.zip us, scope.names.lookup y.1 = some .local ∨ (scope.names.lookup y.1 = some .cell ∧ ((cellsFrom (s.heap.objs.size + 1) scope.names []).lookup y.1).isSome = true) := fun ⟨n, v⟩ hy => by
    rcases S.par n (List.of_mem_zip hy).1 with q | q
    · exact .inl q
    · exact .inr ⟨q, PySem.W.cellsFrom_some _ _ _ (.inl q)⟩
  refine codeAny_call_function hr.depth (KX _ _ lk) rfl S.co S.gen rfl (PySem.W.codeRec_of KX hcd) (hb _ _ _ _ ?_)
  refine wpAny_newFunctionEnv_cells S.kind hkind fun env he s1 x => ?_
  subst he
  refine ⟨lim.keeps x.toInCall.keep, codeAny_func ?_⟩
  obtain ⟨t, ht, hq⟩ := hbody A outer s H vs Q E (hr.deeper _) hsp
  have I : Inv (cxOf CX P w K mg base N qual scope f cdv A outer s H E) [] (start N vs) H s1 := inv_start S hr.hd e0 hl r x
  refine wpAny_mono (ht [] s1 (start N vs) H _ I hq) (fun fl s' hs => ?_) fun e s' hs => hs
  have fin : ∀ {σ' : St} {H' : Hp} {v : V} {u : Value}, Inv (cxOf CX P w K mg base N qual scope f cdv A outer s H E) [] σ' H' s' → RelV v u → Q v H' → CE outer P w H s Q u s' :=
    fun {σ' H' v u} J rv q => ⟨v, H', J.os, J.bare, J.base, J.hok, rv, q⟩
  cases fl with
  | ret u =>
    obtain ⟨v, σ', H', J, rv, q⟩ := hs
    exact fin J rv q
  | next =>
    obtain ⟨σ', H', J, q⟩ := hs
    exact fin (v := V.non) (u := Value.none) J rfl q
  | brk =>
    obtain ⟨_, _, _, q⟩ := hs
    exact False.elim q
  | cont =>
    obtain ⟨_, _, _, q⟩ := hs
    exact False.elim q
end L2
namespace L2
open PySem PySem.Spec PyProof.Rows
section
variable {X : Cx} {x : Str} {p pos : Pos} {e : Expr} {es : List Expr} {t : TA} {id T : String} {r : List V → Hp → VK → Prop}
def tCB (r : List V → Hp → VK → Prop) (t : TA) : TE := fun σ H Q => t σ H fun vs H1 => r vs H1 Q
theorem pe_callB (hc : CallR X (.builtin id) r) (hg : Gl X x) (hm : X.mg x = none) (hv : bootBuiltins x = some (.builtin id)) (ha : PA X (e :: es) t) (hn : x ≠ "__name__" := by decide) (hdb : (x == ("__debug__" : Str)) = false := by decide)
    (he : starEach (e :: es) X.env = (false, eval e X.env) :: starEach es X.env := by rfl) (hpl : (backTo pos (starEach es X.env)).any (·.1) = false := by rfl) : PE X (.Call (.Name x p) (e :: es) [] pos) (tCB r t) := by
  intro pins s σ H Q I h
  refine wpAny_Call_Name_kw (ld_blt I hg hm hv ?_ hn hdb)
  exact PyProof.Rows.callWith_builtin1 (thn (ha pos pins s σ H _ I h) fun us s1 ⟨vs, H1, I1, r1, q1⟩ => hc pins s1 σ H1 vs us Q I1 r1 q1) he hpl
theorem pe_callTy (hc : CallR X (.type T) r) (hg : Gl X x) (hm : X.mg x = none) (hv : bootBuiltins x = some (.type T)) (ha : PA X (e :: es) t) (hn : x ≠ "__name__" := by decide) (hdb : (x == ("__debug__" : Str)) = false := by decide)
    (he : starEach (e :: es) X.env = (false, eval e X.env) :: starEach es X.env := by rfl) (hpl : (backTo pos (starEach es X.env)).any (·.1) = false := by rfl) : PE X (.Call (.Name x p) (e :: es) [] pos) (tCB r t) := by
  intro pins s σ H Q I h
  refine wpAny_Call_Name_kw (ld_blt I hg hm hv ?_ hn hdb)
  exact PyProof.Rows.callWith_type1 (thn (ha pos pins s σ H _ I h) fun us s1 ⟨vs, H1, I1, r1, q1⟩ => hc pins s1 σ H1 vs us Q I1 r1 q1) he hpl
end
end L2
namespace HT
open PySem PyProof.Rows
def lexLt : List Int → List Int → Bool
  | [], [] => false
  | [], _ :: _ => true
  | _ :: _, [] => false
  | x :: xs, y :: ys => if x = y then lexLt xs ys else decide (x < y)
section
open PySem.SeqAt
open PySem.AutoSeq1 (wpAny_loadPart')
open PySem.MeetsSeq PySem.MeetsSeq2 PySem.MeetsSeq3
end
section
variable {prog : Program} {w : World} {A : Around} {E : Value → Shared → Prop} {s : Shared}
def sIx (n d : Nat) : Option Int → Nat
  | none => d
  | some v => if v < 0 then (v + (n : Int)).toNat else min v.toNat n
theorem sIx_none (n d : Nat) : sIx n d none = d := rfl
theorem sIx_nat (n d k : Nat) : sIx n d (some (k : Int)) = min k n := by
  show (if (k : Int) < 0 then ((k : Int) + (n : Int)).toNat else min (k : Int).toNat n) = min k n
  rw [if_neg (by omega), Int.toNat_natCast]
end
end HT
namespace L2
open PySem PySem.Spec PyProof.Rows
abbrev TO := St → Hp → (Option Int → Hp → Prop) → Prop
def PO (X : Cx) (e : Option Expr) (t : TO) : Prop :=
  ∀ (pins : List (Addr × Obj)) (s : Shared) (σ : St) (H : Hp) (Q : Option Int → Hp → Prop), Inv X pins σ H s → t σ H Q →
    wpAny (model X.prog X.w) X.A (evalPart e X.env) (fun u s' => ∃ o H', Inv X pins σ H' s' ∧ IsPart u o ∧ Q o H') X.xe s
def tNoPart : TO := fun _ H Q => Q none H
def tPart (t : TE) : TO := fun σ H Q => t σ H fun x H1 => ∃ i, x = .int i ∧ Q (some i) H1
theorem intsAre_of {ns : List Int} : ∀ {us : List Value}, Vals (ns.map V.int) us → IntsAre us ns := by
  induction ns with
  | nil => intro us r; rw [List.map_nil] at r; cases r; exact .nil
  | cons n ns ih =>
    intro us r
    rw [List.map_cons] at r
    cases r with
    | cons r1 r2 =>
      obtain ⟨t, e⟩ := r1
      subst e
      exact .cons n t (ih r2)
section
variable {X : Cx} {e : Expr} {te : TE} {lo hi : Option Expr} {tl th : TO} {pos p2 : Pos}
theorem po_none : PO X none tNoPart := by
  intro pins s σ H Q I h
  rw [evalPart_none]
  exact wpAny_pure ⟨none, H, I, .none, h⟩
theorem po_some (h : PE X e te) : PO X (some e) (tPart te) := by
  intro pins s σ H Q I hw
  rw [evalPart_some]
  refine thn (h pins s σ H _ I hw) fun u s1 ⟨x, H1, I1, r1, q1⟩ => ?_
  obtain ⟨i, rfl, q⟩ := q1
  obtain ⟨t, rfl⟩ := r1
  exact ⟨some i, H1, I1, .int i t, q⟩
def SlR (X : Cx) (r : V → Option Int → Option Int → Hp → VK → Prop) : Prop :=
  ∀ (pins : List (Addr × Obj)) (s : Shared) (σ : St) (H : Hp) (x : V) (v vl vu : Value) (lo hi : Option Int) (sl : Addr) (Q : VK), Inv X pins σ H s → RelV x v → s.heap.IsSliceOf sl vl vu .none → IsPart vl lo → IsPart vu hi → r x lo hi H Q →
    ∃ T id, typeLookup (.type T) "__getitem__" = pure (some (.builtin id)) ∧ s.TypeIs v T ∧ wpAny (model X.prog X.w) X.A (getItem v (.ref sl)) (EP X pins σ Q) X.xe s
def tSl (r : V → Option Int → Option Int → Hp → VK → Prop) (te : TE) (tl th : TO) : TE := fun σ H Q => te σ H fun x H1 => tl σ H1 fun l H2 => th σ H2 fun u H3 => r x l u H3 Q
theorem pe_slice {r : V → Option Int → Option Int → Hp → VK → Prop} (hr : SlR X r) (he : PE X e te) (hl : PO X lo tl) (hu : PO X hi th) : PE X (.Subscript e (.Slice lo hi none p2) pos) (tSl r te tl th) := by
  intro pins s σ H Q I h
  refine Subscript_ (thn (he pins s σ H _ I h) fun v s1 ⟨x, H1, I1, r1, q1⟩ => ?_)
  refine wpAny_Slice (thn (hl pins s1 σ H1 _ I1 q1) fun vl s2 ⟨l, H2, I2, pl, q2⟩ => thn (hu pins s2 σ H2 _ I2 q2) fun vu s3 ⟨u, H3, I3, pu, q3⟩ => ?_)
  rw [evalPart_none]
  refine wpAny_pure ?_
  have I4 : Inv X pins σ H3 { s3 with heap := s3.heap.push { cls := .type "slice", data := .fields #[vl, vu, .none] } } := I3.kept (t' := s3.toks) fun b ob q => Heap.get?_push_of_some _ q
  obtain ⟨T, id, hT, ht, hg⟩ := hr pins { s3 with heap := s3.heap.push { cls := .type "slice", data := .fields #[vl, vu, .none] } } σ H3 x v vl vu l u s3.heap.objs.size Q I4 r1 (Heap.IsSliceOf.new ..) pl pu q3
  show wpAny (model X.prog X.w) X.A (subscriptTail e (.Slice lo hi none p2) v (.ref s3.heap.objs.size)) (EP X pins σ Q) X.xe { s3 with heap := s3.heap.push { cls := .type "slice", data := .fields #[vl, vu, .none] } }
  exact tail_any (ops := [.ref s3.heap.objs.size, v]) ht hT hg (by with_unfolding_all rfl)
def cutV (xs : List V) (lo hi : Option Int) : List V := (xs.drop (HT.sIx xs.length 0 lo)).take (HT.sIx xs.length xs.length hi - HT.sIx xs.length 0 lo)
theorem cutV_length (xs : List V) (lo hi : Option Int) : (cutV xs lo hi).length ≤ xs.length := by
  unfold cutV
  rw [List.length_take, List.length_drop]
  omega
def rSlT (K : PySem.W.Frag) : V → Option Int → Option Int → Hp → VK → Prop := fun x lo hi H Q => ∃ a xs, x = .ref a ∧ SqT K H a xs ∧
  ¬ (HT.sIx xs.length 0 lo = 0 ∧ HT.sIx xs.length xs.length hi = xs.length) ∧ ∀ p, H p = none → Q (.ref p) (upd H p (.tup (cutV xs lo hi)))
def rLtT (K : PySem.W.Frag) : R2 := fun x y H Q => ∃ a b ns ms, x = .ref a ∧ y = .ref b ∧ SqT K H a (ns.map V.int) ∧ SqT K H b (ms.map V.int) ∧ Q (.bl (HT.lexLt ns ms)) H
def rCatT (K : PySem.W.Frag) : R2 := fun x y H Q => ∃ a b xs ys, x = .ref a ∧ y = .ref b ∧ SqT K H a xs ∧ SqT K H b ys ∧ xs ≠ [] ∧ xs.length + ys.length ≤ sizeLine ∧
  (ys = [] → Q (.ref a) H) ∧ (ys ≠ [] → ∀ p, H p = none → Q (.ref p) (upd H p (.tup (xs ++ ys))))
end
end L2
namespace L2
open PySem PySem.Spec PyProof.Rows
def ixN (n : Nat) (i : Int) : Option Nat := if 0 ≤ i then (if i < n then some i.toNat else none) else if -(n : Int) ≤ i then some (i + n).toNat else none
def atI {α : Type} (xs : List α) (i : Int) : Option α := (ixN xs.length i).bind fun j => xs[j]?
theorem ixN_seq {n : Nat} {i : Int} {j : Nat} (h : ixN n i = some j) : seqIndex? i n = some j ∧ j < n ∧ -(n : Int) ≤ i ∧ i < n := by
  unfold ixN at h
  by_cases h0 : 0 ≤ i
  · rw [if_pos h0] at h
    by_cases h1 : i < n
    · rw [if_pos h1] at h
      have e : i.toNat = j := Option.some.inj h
      exact ⟨by rw [seqIndex_of h0 h1, e], by omega, by omega, h1⟩
    · rw [if_neg h1] at h; cases h
  · rw [if_neg h0] at h
    by_cases h1 : -(n : Int) ≤ i
    · rw [if_pos h1] at h
      have e : (i + n).toNat = j := Option.some.inj h
      exact ⟨by rw [seqIndex_neg (by omega) h1, e], by omega, h1, by omega⟩
    · rw [if_neg h1] at h; cases h
theorem atI_get {α : Type} {xs : List α} {i : Int} {v : α} (h : atI xs i = some v) : ∃ j, seqIndex? i xs.length = some j ∧ xs[j]? = some v ∧ j < xs.length ∧ -(xs.length : Int) ≤ i ∧ i < xs.length := by
  unfold atI at h
  cases e : ixN xs.length i with
  | none => rw [e] at h; cases h
  | some j =>
    rw [e] at h
    obtain ⟨h1, h2, h3, h4⟩ := ixN_seq e
    exact ⟨j, h1, h, h2, h3, h4⟩
theorem atI_nat {α : Type} {xs : List α} {j : Nat} {v : α} (h : xs[j]? = some v) : atI xs (j : Int) = some v := by
  have hj : j < xs.length := (List.getElem?_eq_some_iff.mp h).1
  have e : ixN xs.length (j : Int) = some j := by
    unfold ixN
    rw [if_pos (by omega), if_pos (by omega)]; simp
  unfold atI; rw [e]; exact h
theorem atI_last {α : Type} (xs : List α) (v : α) : atI (xs ++ [v]) (-1) = some v := by
  have hl : (xs ++ [v]).length = xs.length + 1 := by simp
  have e : ixN (xs ++ [v]).length (-1) = some xs.length := by
    unfold ixN
    rw [hl, if_neg (by decide), if_pos (by omega)]
    congr 1
    omega
  unfold atI
  rw [e]
  show (xs ++ [v])[xs.length]? = some v
  simp
def PlainIx (b : Expr) : Prop := ∀ o i, subscripted b false o i = operate [o, i] (getItem o i)
def IxR (X : Cx) (r : R2) : Prop :=
  ∀ (value slice : Expr) (pins : List (Addr × Obj)) (s : Shared) (σ : St) (H : Hp) (x y : V) (v u : Value) (Q : VK), Inv X pins σ H s → RelV x v → RelV y u → r x y H Q →
    subscripted slice false v u = operate [v, u] (getItem v u) → wpAny (model X.prog X.w) X.A (subscriptTail value slice v u) (EP X pins σ Q) X.xe s
def MtR (X : Cx) (id : String) (r : V → List V → Hp → VK → Prop) : Prop :=
  ∀ (pins : List (Addr × Obj)) (s : Shared) (σ : St) (H : Hp) (x : V) (xs : List V) (v : Value) (us : List Value) (Q : VK), Inv X pins σ H s → RelV x v → Vals xs us → r x xs H Q →
    wpAny (model X.prog X.w) X.A (call (.builtin id) (v :: us)) (EP X pins σ Q) X.xe s
section
variable {X : Cx} {a b : Expr} {ta tb : TE} {pos : Pos}
theorem pe_ix {r : R2} (hr : IxR X r) (ha : PE X a ta) (hb : PE X b tb) (hs : PlainIx b) : PE X (.Subscript a b pos) (tOp r ta tb) := by
  intro pins s σ H Q I h
  exact Subscript_ (binT ha hb I h fun v u s2 x y H2 I2 rx ry q => hr a b pins s2 σ H2 x y v u Q I2 rx ry q (hs _ _))
def rIxL (K : PySem.W.Frag) : R2 := fun x y H Q => ∃ p xs i v, x = .ref p ∧ y = .int i ∧ SqL K H p xs ∧ atI xs i = some v ∧ Q v H
def rIxT (K : PySem.W.Frag) : R2 := fun x y H Q => ∃ p xs i v, x = .ref p ∧ y = .int i ∧ SqT K H p xs ∧ atI xs i = some v ∧ Q v H
def rIxS : R2 := fun x y H Q => ∃ z i c, x = .str z ∧ y = .int i ∧ z.length ≤ sizeLine ∧ atI z.cps.toList i = some c ∧ Q (.str ⟨#[c]⟩) H
theorem ix_list : IxR X (rIxL X.K) := by
  intro value slice pins s σ H x y v u Q I rx ry h hs
  obtain ⟨p, xs, i, z, rfl, rfl, hq, he, q⟩ := h
  cases rx
  obtain ⟨t, rfl⟩ := ry
  obtain ⟨its, r, pl, hz⟩ := I.list hq
  obtain ⟨j, h1, h2, h3, h4, h5⟩ := atI_get he
  obtain ⟨w, ew, rw'⟩ := r.get h2
  have hl := r.length
  have hn := line63
  have fin : EP X pins σ Q w s := ⟨z, H, I, rw', q⟩
  by_cases h0 : 0 ≤ i
  · have hj : i.toNat = j := by
      rw [seqIndex_of h0 h5] at h1
      exact Option.some.inj h1
    exact item_listR pl.isList h0 (by omega) (by rw [hj]; simpa using ew) fin hs
  · have hj : (i + (its.toArray.size : Int)).toNat = j := by
      rw [seqIndex_neg (by omega) h4] at h1
      rw [List.size_toArray, ← hl]
      exact Option.some.inj h1
    exact subscriptTail_builtinR (x := w) pl.isList.typeIs slot_list_getitem.lookup
      (wpAny_getItem_list_neg (Q := fun r s' => r = w ∧ EP X pins σ Q r s') pl.isList (by omega) (by rw [List.size_toArray] <;> omega) (by omega) (by rw [hj]; simpa using ew) ⟨rfl, fin⟩) hs
def rIx (K : PySem.W.Frag) : R2 := fun x y H Q => rIxL K x y H Q ∨ rIxT K x y H Q ∨ rIxS x y H Q
theorem mapSeq_set (its : List Value) (n j : Nat) (u : Value) : Obj.mapSeq (·.setIfInBounds j u) { cls := .type "list", data := .seq its.toArray n } = { cls := .type "list", data := .seq (its.set j u).toArray n } := by
  simp [Obj.mapSeq]
theorem Inv.lst {pins : List (Addr × Obj)} {σ : St} {H : Hp} {s : Shared} {p : Addr} {xs : List V} (I : Inv X pins σ H s) (h : H p = some (.lst xs)) :
    ∃ (its : List Value) (n : Nat), Vals xs its ∧ s.heap.get? p = some { cls := .type "list", data := .seq its.toArray n } ∧ xs.length ≤ sizeLine := by
  obtain ⟨z, its, n, r, e⟩ := I.hok p _ h
  exact ⟨its, n, r, e, z⟩
theorem Inv.lstUpd {pins : List (Addr × Obj)} {σ : St} {H : Hp} {s : Shared} {p : Addr} {xs ys : List V} {its its' : List Value} {n n' : Nat} {f : Obj → Obj} (I : Inv X pins σ H s) (h : H p = some (.lst xs))
    (ho : s.heap.get? p = some { cls := .type "list", data := .seq its.toArray n }) (hf : f { cls := .type "list", data := .seq its.toArray n } = { cls := .type "list", data := .seq its'.toArray n' }) (r : Vals ys its') (hz : ys.length ≤ sizeLine) (t : Nat) :
    Inv X pins σ (upd H p (.lst ys)) { s with heap := s.heap.update p f, toks := t } := by
  have e : (s.heap.update p f).get? p = some { cls := .type "list", data := .seq its'.toArray n' } := by
    rw [Heap.get?_update_self f ho (by rw [hf] <;> rfl), hf]
  refine I.write (x := p) (e := p) (by rw [h]; trivial) (.inl rfl) (fun b u hb q => (Heap.get?_update_other _ _ (Ne.symm hb)).trans q) ⟨_, e⟩ ?_
  exact ⟨hz, its', n', r, e⟩
def rSetL : V → V → V → Hp → (Hp → Prop) → Prop := fun o i v H Q => ∃ p xs k j, o = .ref p ∧ i = .int k ∧ H p = some (.lst xs) ∧ ixN xs.length k = some j ∧ Q (upd H p (.lst (xs.set j v)))
theorem set_list : PSet X rSetL := by
  intro pins s σ H o i v ov iv u Q I ro ri rv h
  obtain ⟨p, xs, k, j, rfl, rfl, hp, hj, q⟩ := h
  cases ro
  obtain ⟨t, rfl⟩ := ri
  obtain ⟨its, n, r, ho, hz⟩ := I.lst hp
  obtain ⟨h1, h2, h3, h4⟩ := ixN_seq hj
  have hl := r.length
  have hn := line63
  have I' : Inv X pins σ (upd H p (.lst (xs.set j v))) { s with heap := s.heap.update p (Obj.mapSeq (·.setIfInBounds j u)) } :=
    I.lstUpd hp ho (mapSeq_set its n j u) (r.set rv j) (by rw [List.length_set]; exact hz) s.toks
  by_cases h0 : 0 ≤ k
  · have hk : k.toNat = j := by
      rw [seqIndex_of h0 h4] at h1
      exact Option.some.inj h1
    exact PySem.W.ki_setAt ho h0 (by omega) (by rw [List.size_toArray, ← hl]; exact h4) (by rw [hk]; exact ⟨_, I', q⟩)
  · have hk : (k + (its.toArray.size : Int)).toNat = j := by
      rw [seqIndex_neg (by omega) h3] at h1
      rw [List.size_toArray, ← hl]
      exact Option.some.inj h1
    exact PySem.W.ki_setBack ho (by omega) (by rw [List.size_toArray, ← hl]; exact h3) (by omega) (by rw [hk]; exact ⟨_, I', q⟩)
theorem slice_bounds (lo hi : Option Int) (n : Nat) : (sliceBounds lo hi none n).1 = ((HT.sIx n 0 lo : Nat) : Int) ∧ (sliceBounds lo hi none n).2.1 = ((HT.sIx n n hi : Nat) : Int) ∧ (sliceBounds lo hi none n).2.2 = 1 := by
  refine ⟨?_, ?_, rfl⟩
  · cases lo with
    | none => simp [sliceBounds, HT.sIx]
    | some i =>
      simp only [sliceBounds, HT.sIx, Option.getD_none, show (1 : Int) > 0 by decide, if_true]
      by_cases h : i < 0
      · simp only [h, if_true] <;> omega
      · simp only [h, if_false] <;> omega
  · cases hi with
    | none => simp [sliceBounds, HT.sIx]
    | some i =>
      simp only [sliceBounds, HT.sIx, Option.getD_none, show (1 : Int) > 0 by decide, if_true]
      by_cases h : i < 0
      · simp only [h, if_true] <;> omega
      · simp only [h, if_false] <;> omega
theorem slicePick_cut (its : List Value) (lo hi : Option Int) : slicePick its.toArray lo hi none = ((its.drop (HT.sIx its.length 0 lo)).take (HT.sIx its.length its.length hi - HT.sIx its.length 0 lo)).toArray := by
  obtain ⟨h1, h2, h3⟩ := slice_bounds lo hi its.toArray.size
  unfold slicePick
  rw [h1, h2, h3]
  simp only [sliceRange_one, pick_run, List.size_toArray] <;> rfl
def rSlL (K : PySem.W.Frag) : V → Option Int → Option Int → Hp → VK → Prop := fun x lo hi H Q => ∃ a xs, x = .ref a ∧ SqL K H a xs ∧ ∀ p, H p = none → Q (.ref p) (upd H p (.lst (cutV xs lo hi)))
theorem sl_list : SlR X (rSlL X.K) := by
  intro pins s σ H x v vl vu lo hi sl Q I rx hs pl pu h
  obtain ⟨a, xs, rfl, hx, q⟩ := h
  cases rx
  obtain ⟨its, r, ht, hz⟩ := I.list hx
  have hlen := r.length
  refine ⟨"list", _, slot_list_getitem.lookup, ht.isList.typeIs, ?_⟩
  refine wpAny_getItem_list_slice ht.isList hs pl pu .none (by simp) ?_ (by rw [List.size_toArray] <;> omega)
  rw [slicePick_cut, ← hlen]
  refine ⟨.ref s.heap.objs.size, _, I.laid (t' := s.toks) (o := .lst (cutV xs lo hi)) (fun b ob q => Heap.get?_push_of_some _ q) (Nat.le_refl _) ?_, rfl, q _ (I.hok.fresh (Nat.le_refl _))⟩
  exact ⟨Nat.le_trans (cutV_length xs lo hi) hz, _, 0, (r.drop (HT.sIx xs.length 0 lo)).take (HT.sIx xs.length xs.length hi - HT.sIx xs.length 0 lo), Heap.get?_push_size _ rfl⟩
def flatV : V → Bool
  | .non => true
  | .bl _ => true
  | .int _ => true
  | .str _ => true
  | _ => false
def eqV : V → V → Bool
  | .non, .non => true
  | .bl a, .bl b => a == b
  | .bl a, .int b => (if a then 1 else 0) == b
  | .int a, .bl b => a == (if b then 1 else 0)
  | .int a, .int b => a == b
  | .str a, .str b => a == b
  | _, _ => false
def eqU (x : V) (u : Value) : Bool := match u with
  | .none => eqV .non x
  | .bool b => eqV (.bl b) x
  | .int i _ => eqV (.int i) x
  | .str z _ => eqV (.str z) x
  | _ => false
def inV (x : V) (xs : List V) : Bool := xs.any fun y => eqV y x
def rIn (K : PySem.W.Frag) (neg : Bool) : R2 := fun x y H Q => ∃ p xs, y = .ref p ∧ (SqL K H p xs ∨ SqT K H p xs) ∧ flatV x = true ∧ xs.all flatV = true ∧ Q (.bl (if neg then !inV x xs else inV x xs)) H
theorem call_len_seq : CallR X (.builtin "len") (fun xs H Q => ∃ p ys, xs = [.ref p] ∧ (SqL X.K H p ys ∨ SqT X.K H p ys) ∧ Q (.int ys.length) H) := by
  intro pins s σ H xs us Q I r h
  obtain ⟨p, ys, rfl, hq, q⟩ := h
  obtain ⟨u, rfl, rx⟩ := vals1 r
  cases rx
  have hn := line63
  rcases hq with hq | hq
  · obtain ⟨its, r', pl, hz⟩ := I.list hq
    have hlen := r'.length
    exact Calls.call_len_list pl.isList (by simp only [List.size_toArray] <;> omega) ⟨.int ys.length, H, I.tok _, ⟨s.toks + 1, by rw [List.size_toArray, hlen]⟩, q⟩
  · obtain ⟨its, r', pl, hz⟩ := I.tuple hq
    have hlen := r'.length
    exact len_tuple pl (by simp only [List.size_toArray] <;> omega) ⟨.int ys.length, H, I.tok _, ⟨s.toks + 1, by rw [List.size_toArray, hlen]⟩, q⟩
theorem call_list_of : CallR X (.type "list") (fun xs H Q => ∃ p ys, xs = [.ref p] ∧ (SqL X.K H p ys ∨ SqT X.K H p ys) ∧ ∀ l, H l = none → Q (.ref l) (upd H l (.lst ys))) := by
  intro pins s σ H xs us Q I r h
  obtain ⟨p, ys, rfl, hq, q⟩ := h
  obtain ⟨u, rfl, rx⟩ := vals1 r
  cases rx
  have fin : ∀ (its : List Value), Vals ys its → ys.length ≤ sizeLine → ∀ (h' : Heap) (c' : Nat), (∀ b o', s.heap.get? b = some o' → h'.get? b = some o') →
      h'.get? s.heap.objs.size = some { cls := .type "list", dict := none, data := .seq its.toArray c', slots := #[] } → EP X pins σ Q (.ref s.heap.objs.size) { s with heap := h' } := fun its r' hz h' c' kp e =>
    ⟨.ref s.heap.objs.size, _, I.laid (t' := s.toks) kp (Nat.le_refl _) (show ObjOk X.prog X.w _ h' _ (.lst ys) from ⟨hz, its, c', r', e⟩), rfl, q _ (I.hok.fresh (Nat.le_refl _))⟩
  rcases hq with hq | hq
  · obtain ⟨its, r', pl, hz⟩ := I.list hq
    have hlen := r'.length
    obtain ⟨o, ho, hc, n, hd⟩ := pl.isList
    exact call_list_seq p (.inl rfl) ho hc hd (fun h' c' kp e => fin its r' hz h' c' kp e) (by simp only [List.size_toArray] <;> omega)
  · obtain ⟨its, r', pl, hz⟩ := I.tuple hq
    have hlen := r'.length
    obtain ⟨o, ho, hc, n, hd⟩ := pl
    exact call_list_seq p (.inr rfl) ho hc hd (fun h' c' kp e => fin its r' hz h' c' kp e) (by simp only [List.size_toArray] <;> omega)
def tyV (K : PySem.W.Frag) (T : String) (x : V) (H : Hp) : Prop := match x with
  | .str _ => T = "str"
  | .int _ => T = "int"
  | .ref p => (T = "list" ∧ ∃ xs, SqL K H p xs) ∨ (T = "tuple" ∧ ∃ o, K.lookup p = some o ∧ o.cls = .type "tuple" ∧ o.dict = none) ∨
      (T = "dict" ∧ ((∃ kvs, H p = some (.dK kvs)) ∨ ∃ kvs, H p = some (.dT kvs))) ∨ (T = "set" ∧ ∃ S n, H p = some (.set S n))
  | _ => False
theorem tyV_is {pins : List (Addr × Obj)} {σ : St} {H : Hp} {s : Shared} {T : String} {x : V} {v : Value} (I : Inv X pins σ H s) (r : RelV x v) (ty : tyV X.K T x H) :
    s.TypeIs v T ∧ ∀ a, v = .ref a → ∃ ob, s.heap.get? a = some ob ∧ ob.dict = none := by
  cases x with
  | str z =>
    obtain ⟨t, rfl⟩ := r
    cases (show T = "str" from ty)
    exact ⟨typeIs_str s z t, fun _ e => nomatch e⟩
  | int i =>
    obtain ⟨t, rfl⟩ := r
    cases (show T = "int" from ty)
    exact ⟨typeIs_int s i t, fun _ e => nomatch e⟩
  | ref p =>
    cases r
    rcases ty with ⟨rfl, xs, hq⟩ | ⟨rfl, o, hk, hc, hd⟩ | ⟨rfl, hk⟩ | ⟨rfl, S, n, hk⟩
    · obtain ⟨its, _, pl, _⟩ := I.list hq
      refine ⟨pl.isList.typeIs, fun a e => ?_⟩
      cases e
      obtain ⟨o, n, e, c, hd, _⟩ := pl
      exact ⟨o, e, hd⟩
    · refine ⟨⟨o, I.kIn p o hk, hc⟩, fun a e => ?_⟩
      cases e
      exact ⟨o, I.kIn _ o hk, hd⟩
    · have z : ∃ o, s.heap.get? p = some o ∧ o.ExactDict := by
        rcases hk with ⟨kvs, hk⟩ | ⟨kvs, hk⟩
        · obtain ⟨_, _, _, _, o, _, _, e, ex, _⟩ := I.hok p _ hk
          exact ⟨o, e, ex⟩
        · obtain ⟨_, _, _, _, o, _, _, e, ex, _⟩ := I.hok p _ hk
          exact ⟨o, e, ex⟩
      obtain ⟨o, e, ex⟩ := z
      refine ⟨⟨o, e, ex.1⟩, fun a e2 => ?_⟩
      cases e2
      exact ⟨o, e, ex.2.1⟩
    · obtain ⟨o, _, _, _, e, ex, _⟩ := I.hok p _ hk
      refine ⟨⟨o, e, ex.1⟩, fun a e2 => ?_⟩
      cases e2
      exact ⟨o, e, ex.2.1⟩
  | _ => exact False.elim ty
def tBM0 (K : PySem.W.Frag) (T : String) (r : V → List V → Hp → VK → Prop) (to : TE) : TE := fun σ H Q => to σ H fun x H1 => tyV K T x H1 ∧ r x [] H1 Q
def tBM (K : PySem.W.Frag) (T : String) (r : V → List V → Hp → VK → Prop) (to : TE) (t : TA) : TE := fun σ H Q => to σ H fun x H1 => tyV K T x H1 ∧ t σ H1 fun xs H2 => r x xs H2 Q
variable {o e : Expr} {es : List Expr} {to : TE} {t : TA} {name : Str} {apos cpos : Pos} {T id : String} {r : V → List V → Hp → VK → Prop}
theorem pe_bm (pa : PlainAttrs T) (slot : Slot T name id) (hty : typeOf (.builtin id) = pure (.type "method_descriptor")) (hm : MtR X id r) (ho : PE X o to) (ha : PA X (e :: es) t)
    (hbase : attributeBase o name X.env (eval o X.env) = eval o X.env := by rfl)
    (hfew : ((backTo cpos (starEach (e :: es) X.env)).all (fun x => !x.1) && (backToKw cpos (keywordEach [] X.env)).all (fun x => x.1.isSome)
      && decide ((e :: es).length + ([] : List Keyword).length + (if ([] : List Keyword).isEmpty then 0 else 1) < 30)) = true := by rfl)
    (hline : (apos.endLine == cpos.line) = true := by rfl) (hs : starEach (e :: es) X.env = (false, eval e X.env) :: starEach es X.env := by rfl) (hplain : (backTo cpos (starEach es X.env)).any (·.1) = false := by rfl) :
    PE X (.Call (.Attribute o name apos) (e :: es) [] cpos) (tBM X.K T r to t) := by
  intro pins s σ H Q I h
  refine wpAny_Call_method_late hbase hfew hline rfl (thn (ho pins s σ H _ I h) fun v s1 ⟨x, H1, I1, r1, ty, q1⟩ => ?_)
  obtain ⟨h1, h2⟩ := tyV_is I1 r1 ty
  refine ⟨T, id, pa, slot, hty, h1, h2, ?_⟩
  have hA := ha cpos pins s1 σ H1 _ I1 q1
  rw [hs] at hA ⊢
  refine Calls.callWith_builtin (by show (false || (backTo cpos (starEach es X.env)).any (·.1)) = false; rw [hplain] <;> rfl) (Calls.evalArgs_plain ?_)
  exact thn hA fun us s2 ⟨vs, H2, I2, r2, q2⟩ => hm pins s2 σ H2 x vs v us Q I2 r1 r2 q2
/- xs.append(e), list.index on a module's tuple .. are MtR facts of 06m -/
end
end L2
namespace L2
open PySem PySem.Spec PyProof.Rows
def MtM (X : Cx) (id : String) (r : V → List V → Hp → VK → Prop) : Prop :=
  ∀ (pins : List (Addr × Obj)) (s : Shared) (σ : St) (H : Hp) (x : V) (xs : List V) (v : Value) (us : List Value) (Q : VK), Inv X pins σ H s → RelV x v → Vals xs us → r x xs H Q →
    wpAny (model X.prog X.w) X.A (call (.builtin id) (v :: us)) (EP X pins σ Q) X.xe s
theorem Vals.one : ∀ {x : V} {us : List Value}, Vals [x] us → ∃ u, us = [u] ∧ RelV x u
  | _, _, .cons r .nil => ⟨_, rfl, r⟩
theorem Vals.reverse {xs : List V} {us : List Value} (h : Vals xs us) : Vals xs.reverse us.reverse := by
  induction h with
  | nil => exact .nil
  | cons r t ih => rw [List.reverse_cons, List.reverse_cons]; exact Vals.append ih (.cons r .nil)
theorem Vals.rep {xs : List V} {us : List Value} (h : Vals xs us) : ∀ k : Nat, Vals (List.replicate k xs).flatten (List.replicate k us).flatten
  | 0 => .nil
  | k + 1 => by
    rw [List.replicate_succ, List.replicate_succ, List.flatten_cons, List.flatten_cons]
    exact Vals.append h (Vals.rep h k)
theorem foldl_rep (its : List Value) : ∀ (k : Nat) (acc : List Value),
    List.foldl (fun x1 x2 => x1 ++ x2) acc.toArray (List.replicate k its.toArray) = (acc ++ (List.replicate k its).flatten).toArray
  | 0, acc => by simp
  | k + 1, acc => by
    have e : acc.toArray ++ its.toArray = (acc ++ its).toArray := by simp
    have e2 : (acc ++ its) ++ (List.replicate k its).flatten = acc ++ (List.replicate (k + 1) its).flatten := by
      rw [List.replicate_succ, List.flatten_cons, List.append_assoc]
    rw [← e2, ← foldl_rep its k (acc ++ its), ← e, List.replicate_succ, List.foldl_cons]
section
variable {X : Cx} {pins : List (Addr × Obj)} {σ : St} {H : Hp} {s : Shared} {l b : Addr} {xs ys zs : List V}
theorem Inv.lset {its its' : List Value} {n : Nat} {f : Array Value → Array Value} {t' : Nat} (I : Inv X pins σ H s) (hH : H l = some (.lst xs))
    (e : s.heap.get? l = some { cls := .type "list", data := .seq its.toArray n }) (hf : f its.toArray = its'.toArray) (hv : Vals ys its') (hz : ys.length ≤ sizeLine) :
    Inv X pins σ (upd H l (.lst ys)) { s with heap := s.heap.update l (Obj.mapSeq f), toks := t' } := by
  have q := PySem.IsL.update e f
  rw [hf] at q
  refine I.write (x := l) (e := l) (by rw [hH]; exact trivial) (.inl rfl) (fun b' u hb hu => (Heap.get?_update_other s.heap (Obj.mapSeq f) (Ne.symm hb)).trans hu) ⟨_, q⟩ ?_
  exact ⟨hz, its', _, hv, q⟩
theorem Inv.lnew {its : List Value} {t' : Nat} (I : Inv X pins σ H s) (hv : Vals ys its) (hz : ys.length ≤ sizeLine) :
    Inv X pins σ (upd H s.heap.objs.size (.lst ys)) { s with heap := s.heap.push { cls := .type "list", data := .seq its.toArray }, toks := t' } :=
  I.laid (fun _ _ q => Heap.get?_push_of_some _ q) (Nat.le_refl _) ⟨hz, its, 0, hv, Heap.get?_push_size _ rfl⟩
theorem Inv.fresh (I : Inv X pins σ H s) : H s.heap.objs.size = none := I.hok.fresh (Nat.le_refl _)
theorem Inv.lstM (I : Inv X pins σ H s) (hH : H l = some (.lst xs)) : xs.length ≤ sizeLine ∧ ∃ (its : List Value) (n : Nat), Vals xs its ∧ xs.length = its.length ∧ s.heap.get? l = some { cls := .type "list", data := .seq its.toArray n } := by
  obtain ⟨z, its, n, r, e⟩ := I.hok l _ hH
  exact ⟨z, its, n, r, r.length, e⟩
theorem notLongL {n : Nat} (h : n ≤ sizeLine) : Builtin.List.listTooLong n = false := by
  unfold Builtin.List.listTooLong
  exact decide_eq_false (by omega)
end
section
variable {X : Cx}
def rAppend : V → List V → Hp → VK → Prop := fun x vs H Q => ∃ l xs y, x = .ref l ∧ vs = [y] ∧ H l = some (.lst xs) ∧ xs.length < sizeLine ∧ Q .non (upd H l (.lst (xs ++ [y])))
theorem mt_append : MtM X "list.append" rAppend := by
  intro pins s σ H x vs v us Q I rx rv h
  obtain ⟨l, xs, y, rfl, rfl, hH, hz, q⟩ := h
  cases rx
  obtain ⟨u, rfl, ru⟩ := rv.one
  obtain ⟨z, its, n, r, hl, e⟩ := I.lstM hH
  refine call_meets F.slot_list_append ⟨_, e, rfl⟩ F.entry_list_append (F.args_list_append_2 _ _) (PySem.list_append l its.toArray n u (by rw [List.size_toArray]; omega)) ⟨e, ?_⟩
  refine ⟨.non, _, I.lset (its' := its ++ [u]) hH e (by simp) (r.append (.cons ru .nil)) ?_, rfl, q⟩
  rw [List.length_append, List.length_singleton]
  omega
def rExtend : V → List V → Hp → VK → Prop := fun x vs H Q => ∃ l b xs zs, x = .ref l ∧ vs = [.ref b] ∧ H l = some (.lst xs) ∧ H b = some (.lst zs) ∧ xs.length + zs.length ≤ sizeLine ∧ Q .non (upd H l (.lst (xs ++ zs)))
theorem mt_extend : MtM X "list.extend" rExtend := by
  intro pins s σ H x vs v us Q I rx rv h
  obtain ⟨l, b, xs, zs, rfl, rfl, hH, hB, hz, q⟩ := h
  cases rx
  obtain ⟨u, rfl, ru⟩ := rv.one
  cases ru
  obtain ⟨z, its, n, r, hl, e⟩ := I.lstM hH
  obtain ⟨z2, its2, n2, r2, hl2, e2⟩ := I.lstM hB
  have hsz : its.toArray.size + its2.toArray.size ≤ sizeLine := by rw [List.size_toArray, List.size_toArray]; omega
  have hlong : ¬ (!its.toArray.isEmpty && Builtin.List.listTooLong (its.toArray.size + its2.toArray.size)) = true := by
    rw [notLongL hsz, Bool.and_false]
    exact Bool.false_ne_true
  refine call_meets F.slot_list_extend ⟨_, e, rfl⟩ F.entry_list_extend (F.args_list_extend_2 _ _)
    (AutoSeq1.list_extend_list_list_0 l its.toArray n b its2.toArray n2 hlong (by rw [List.size_toArray]; omega) (by omega)) ⟨e, e2, ?_⟩
  refine ⟨.non, _, I.lset (its' := its ++ its2) hH e (by simp) (r.append r2) ?_, rfl, q⟩
  rw [List.length_append]
  omega
def rPop : V → List V → Hp → VK → Prop := fun x vs H Q => ∃ l xs y, x = .ref l ∧ vs = [] ∧ H l = some (.lst xs) ∧ xs[xs.length - 1]? = some y ∧ Q y (upd H l (.lst xs.dropLast))
def rPopAt : V → List V → Hp → VK → Prop := fun x vs H Q => ∃ l xs i k y, x = .ref l ∧ vs = [.int i] ∧ H l = some (.lst xs) ∧ -(2 ^ 63) ≤ i ∧ i < 2 ^ 63 ∧ seqIndex? i xs.length = some k ∧ xs[k]? = some y ∧ Q y (upd H l (.lst (xs.eraseIdx k)))
def rReverse : V → List V → Hp → VK → Prop := fun x vs H Q => ∃ l xs, x = .ref l ∧ vs = [] ∧ H l = some (.lst xs) ∧ Q .non (upd H l (.lst xs.reverse))
def rClear : V → List V → Hp → VK → Prop := fun x vs H Q => ∃ l xs, x = .ref l ∧ vs = [] ∧ H l = some (.lst xs) ∧ Q .non (upd H l (.lst []))
def rCat : R2 := fun x y H Q => ∃ l b xs zs, x = .ref l ∧ y = .ref b ∧ H l = some (.lst xs) ∧ H b = some (.lst zs) ∧ xs.length + zs.length ≤ sizeLine ∧ ∀ p, H p = none → Q (.ref p) (upd H p (.lst (xs ++ zs)))
theorem op_cat : OpR X (binaryOp .Add) rCat := by
  intro pins s σ H x y v u Q I rx ry h
  obtain ⟨l, b, xs, zs, rfl, rfl, hH, hB, hz, q⟩ := h
  cases rx
  cases ry
  obtain ⟨z, its, n, r, hl, e⟩ := I.lstM hH
  obtain ⟨z2, its2, n2, r2, hl2, e2⟩ := I.lstM hB
  refine PySem.P.add_list e e2 ?_ (by rw [List.size_toArray, List.size_toArray]; omega)
  have ea : its.toArray ++ its2.toArray = (its ++ its2).toArray := by simp
  rw [ea]
  exact ⟨.ref _, _, I.lnew (t' := s.toks) (r.append r2) (by rw [List.length_append]; omega), rfl, q _ I.fresh⟩
def rRep : R2 := fun x y H Q => ∃ l k xs, x = .ref l ∧ y = .int k ∧ H l = some (.lst xs) ∧ -(2 ^ 63) ≤ k ∧ k < 2 ^ 63 ∧ xs.length * k.toNat ≤ sizeLine ∧
  ∀ p, H p = none → Q (.ref p) (upd H p (.lst (List.replicate k.toNat xs).flatten))
theorem len_rep {α : Type} (xs : List α) (k : Nat) : (List.replicate k xs).flatten.length = k * xs.length := by
  induction k with
  | zero => simp
  | succ k ih => rw [List.replicate_succ, List.flatten_cons, List.length_append, ih, Nat.succ_mul, Nat.add_comm]
theorem op_rep : OpR X (binaryOp .Mult) rRep := by
  intro pins s σ H x y v u Q I rx ry h
  obtain ⟨l, k, xs, rfl, rfl, hH, h1, h2, hz, q⟩ := h
  cases rx
  obtain ⟨t, rfl⟩ := ry
  obtain ⟨z, its, n, r, hl, e⟩ := I.lstM hH
  have hlen : its.toArray.size * k.toNat ≤ sizeLine := by rw [List.size_toArray, ← hl]; exact hz
  have hcap : ¬ its.toArray.size * k.toNat > (2 ^ 63 - 1) / 8 := by
    have : (sizeLine : Nat) ≤ (2 ^ 63 - 1) / 8 := by decide
    omega
  have hfit : ¬ (!Builtin.List.listFitsIndex k) = true := by
    rw [fitsIndex_both h1 h2]
    exact Bool.false_ne_true
  have hlong : ¬ Builtin.List.listTooLong (its.toArray.size * k.toNat) = true := by
    rw [notLongL hlen]
    exact Bool.false_ne_true
  have hnew : List.foldl (fun x1 x2 => x1 ++ x2) #[] (List.replicate (if its.toArray.isEmpty = true then 0 else k.toNat) its.toArray) = (List.replicate k.toNat its).flatten.toArray := by
    have f0 : ∀ m : Nat, List.foldl (fun x1 x2 => x1 ++ x2) #[] (List.replicate m its.toArray) = (List.replicate m its).flatten.toArray := fun m => by
      have := foldl_rep its m []
      rw [List.nil_append] at this
      exact this
    rw [f0]
    cases its with
    | nil => simp
    | cons a r' => rw [if_neg (by simp)]
  refine wpAny_binaryOp_repeat_ref (T := "list") (U := "int") (by decide) ⟨_, e, rfl⟩ (fun s' => typeIs_int s' k t) noFill_list_mul F.fills_int_mul F.slot_int_rmul repeat_list F.slot_int_index.lookup
    (call_meets F.slot_int_rmul (typeIs_int s k t) F.entry_int_rmul (F.args_int_rmul_2 _ _) (int___rmul___int_list k t l its.toArray n)
      ⟨e, rfl, ⟨_, e, rfl⟩, call_meets F.slot_list_mul ⟨_, e, rfl⟩ F.entry_list_mul (F.args_list_mul_2 _ _) (AutoListH.list___mul___list_int_3 l its.toArray n k t hfit hcap hlong) ⟨e, ?_⟩⟩)
  rw [hnew]
  exact ⟨.ref _, _, I.lnew (t' := s.toks) (r.rep k.toNat) (by rw [len_rep, Nat.mul_comm]; exact hz), rfl, q _ I.fresh⟩
end
section
variable {prog : Program} {w : World} {A : Around} {E : Value → Shared → Prop} {s : Shared}
set_option maxRecDepth 100000 in
end
section
variable {X : Cx}
end
end L2
namespace Att
open PySem PySem.W PySem.Calls PyProof.Rows
theorem ints_of_wellAll {P : Params} {h : Heap} : ∀ (ns : List Int) (vs : List Value), WellAll P h vs (ns.map WData.int) → IntsAre vs ns := by
  intro ns
  induction ns with
  | nil =>
    intro vs w
    rw [List.map_nil] at w
    cases w
    exact .nil
  | cons n ns ih =>
    intro vs w
    rw [List.map_cons] at w
    cases w with
    | cons a b =>
      cases a
      exact .cons _ _ (ih _ b)
theorem script_of {l : OpenLaw} {n : Nat} (hn : l.most = some n) {P : Params} {h : Heap} {args : List WData} {vals : List Value}
    (hpre : l.row.toRowW.claim.pre args = true) (hwl : WellAll P h vals args) :
    ∃ a vs ns, vals = [Value.ref a] ∧ args = [WData.list (ns.map WData.int)] ∧ h.get? a = some { cls := .type "list", data := .seq vs.toArray } ∧ IntsAre vs ns ∧ ns.length ≤ n := by
  have hsh : WShape.hasAll [] args [.list .int] = true := (pre_splitW hpre).1
  have hc : l.pre.holds [] { args := args } = true := (pre_splitW hpre).2
  obtain ⟨d, r, rfl, h1, h2⟩ := hasAllW_cons hsh
  obtain rfl := hasAllW_nil h2
  obtain ⟨xs, rfl, h3⟩ := hasW_list h1
  obtain ⟨ns, rfl⟩ := items_int h3
  have hlen : ns.length ≤ n := by
    unfold OpenLaw.pre at hc
    have h4 : (WTm.not (.lt (.lit (.int (n : Int))) (.len (.arg 0)))).holds [] { args := [.list (ns.map .int)] } = true := by
      have h4 := (holds_andW hc).1
      rw [hn] at h4
      exact h4
    have h5 := condW_of h4 (w_not (w_lt w_lit (w_len_list (w_arg rfl))))
    rw [List.length_map] at h5
    refine Nat.le_of_not_lt fun q => ?_
    have q' : (n : Int) < ((ns.length : Nat) : Int) := by omega
    first
      | (rw [decide_eq_true q'] at h5; exact absurd h5 (by decide))
      | (simp at h5; omega)
  cases hwl with
  | cons w1 w2 =>
    cases w2
    cases w1 with
    | list ho hall => exact ⟨_, _, ns, rfl, rfl, ho, ints_of_wellAll ns _ hall, hlen⟩
theorem post_true (l : OpenLaw) (args : List WData) : l.row.toRowW.claim.post args (.bool true) args = true :=
  postW_of (r := l.row.toRowW) (X := (true == true))
    (show WShape.has [] (.bool true) .bool = true by first | rfl | decide | simp [WShape.has, WShape.arms, WShape.armsAll])
    (show (WTm.eq .res (.lit (.bool true))).value [] { args := args, res := some (.bool true), after := args } = some (.bool (true == true)) from w_eq_bool (w_res rfl) w_lit) rfl
theorem attach_call {l : OpenLaw} {n : Nat} {q : Program} {loose : List Str} {XP : (Str → Option Value) → Heap → Prop} {YP : World → Heap → Prop} {d : DefRec}
    (hn : l.most = some n) (hdf : d.params.defaults = [])
    (call : ∀ (w : World) (s₀ s₁ : Shared) (mg mb : Str → Option Value) (fa : Addr) (o : Obj) (pm cd doc : Value) (a : Addr) (vs : List Value) (ns : List Int),
      Ground q loose [] XP w s₀ mg mb s₁.heap → YP w s₁.heap →
      s₁.heap.get? fa = some o → o.data = .func (docDef d.name d.params d.body d.scope pm cd doc) → s₁.heap.CodeRec cd d.name → mg d.name = some (.ref fa) →
      s₁.heap.get? a = some { cls := .type "list", data := .seq vs.toArray } → IntsAre vs ns → ns.length ≤ n → s₁.gens = #[] →
      codeAny (model l.prog w) callerA (.call (.ref fa) ⟨[.ref a], []⟩) (fun r s' => r = .ok (.ret (.bool true)) ∧ OldK s₁.heap s'.heap ∧ s'.os = s₁.os ∧ AllBare s'.gens) s₁) :
    WalkO q loose XP YP l.row.toRowW d [] (fun f vs => PySem.call f vs) := by
  intro w s₀ s₁ mg mb G Y fa o pm cd doc dV kV ho hd hcd hD hmg hg args vals as hpre hlay hrd hwl hlo
  obtain rfl : dV = .none := Dflts.none hD hdf
  obtain rfl : kV = .none := Dflts.noKw hD
  obtain ⟨a, vs, ns, rfl, rfl, hobj, hints, hlen⟩ := script_of hn hpre hwl
  refine enter_call (codeAny_mono (call w s₀ s₁ mg mb fa o pm cd doc a vs ns G Y ho (fd_plain hd) hcd hmg hobj hints hlen hg) fun r s' hq => ?_)
  obtain ⟨rfl, h2, h3, h4⟩ := hq
  exact ⟨.inl ⟨.bool true, .bool true, [], rfl, fun _ => rfl, .bool true, post_true l _, fun _ => ⟨List.Pairwise.nil, fun _ hm => (nomatch hm)⟩⟩, h2, h3, h4⟩
section
variable {prog : Program} {w : World} {A : Around} {E : Value → Shared → Prop} {s : Shared} {K : Frag}
def noObjs (h : Heap) : Heap := { h with objs := #[] }
def ledger (h : Heap) (L d : Addr) : List (Addr × Obj) := (List.range h.objs.size).filterMap fun a => if a = L ∨ a = d then none else (h.get? a).map fun o => (a, o)
end
end Att
namespace L2
open PySem PySem.Spec PyProof.Rows
theorem vals_ints : ∀ {vs : List Value} {ns : List Int}, IntsAre vs ns → Vals (ns.map V.int) vs
  | _, _, .nil => .nil
  | _, _, .cons n t h => .cons ⟨t, rfl⟩ (vals_ints h)
def Only (H : Hp) : Prop := ∀ b, H b = none ∨ ∃ o xs, H b = some (.frz o (.lst xs))
theorem law_call {P : Program} {w : World} {K : PySem.W.Frag} {mg mb : Str → Option Value} {CX : CXT} {k : Nat} {fa a : Addr} {fd : FuncData} {x : Str} {sp : Sp} {s₁ : Shared} {vs : List Value} {ns : List Int}
    (KX : K.In s₁.heap) (hns : s₁.heap.Ns mainGlobals mg) (hb : s₁.heap.Ns builtinsNs mb) (hbb : ∀ x : Str, x ≠ "__name__" → mb x = bootBuiltins x) (hlim : s₁.heap.NoLimit) (hg : s₁.gens = #[])
    (ha : s₁.heap.get? a = some { cls := .type "list", data := .seq vs.toArray }) (hi : IntsAre vs ns) (hl : ns.length ≤ sizeLine) (hr : Room k callerA)
    (F : ∀ base : Heap, K.In base → base.Ns mainGlobals mg → FnOk P w K mg base CX k fa fd [x] sp) (hbind : ∀ (s : Shared) (u : Value), BindsTo s fd ⟨[u], []⟩ [(x, u)])
    (hsp : ∀ H : Hp, Only H → SqL K H a (ns.map V.int) → sp [.ref a] H (fun v _ => v = .bl true) fun _ _ _ => False)
    (hCX : ∀ H e s', CX [] H s₁ (fun _ _ _ => False) e s' → False) :
    codeAny (model P w) callerA (.call (.ref fa) ⟨[.ref a], []⟩) (fun r s' => r = .ok (.ret (.bool true)) ∧ OldK s₁.heap s'.heap ∧ s'.os = s₁.os ∧ AllBare s'.gens) s₁ := by
  have rv := vals_ints hi
  have lenV := hi.length
  have core : ∀ H : Hp, Only H → SqL K H a (ns.map V.int) → HOk P w H s₁.heap → (∀ b, H b ≠ none → b = a) → (H a ≠ none → K.lookup a = none) →
      codeAny (model P w) callerA (.call (.ref fa) ⟨[.ref a], []⟩) (fun r s' => r = .ok (.ret (.bool true)) ∧ OldK s₁.heap s'.heap ∧ s'.os = s₁.os ∧ AllBare s'.gens) s₁ := by
    intro H hO hS hok hA hK
    have base_of : ∀ {b : Addr} {o : Obj}, s₁.heap.get? b = some o → H b = none → (hidT s₁.heap H).get? b = some o := fun e n => hidT_get e n
    have noA : ∀ {b : Addr} {o : Obj} {es : Array DictEntry} {ep : Nat}, s₁.heap.get? b = some o → o.data = .dict es ep → H b = none := fun {b o es ep} e d => by
      cases q : H b with
      | none => rfl
      | some u =>
        have e' : b = a := hA b (by rw [q]; simp)
        subst e'
        rw [ha] at e; cases e
        have d' : Data.seq vs.toArray _ = Data.dict es ep := d
        cases d'
    have nsK : ∀ {b : Addr} {m : Str → Option Value}, s₁.heap.Ns b m → (hidT s₁.heap H).Ns b m := fun {b m} ⟨o, es, ep, e, d, r⟩ => ⟨o, es, ep, base_of e (noA e d), d, r⟩
    have hKb : K.In (hidT s₁.heap H) := fun b o e => base_of (KX b o e) (by
      cases q : H b with
      | none => rfl
      | some u =>
        have e' : b = a := hA b (by rw [q]; simp)
        subst e'
        rw [hK (by rw [q]; simp)] at e; cases e)
    have hM : Mod K mg (hidT s₁.heap H) := ⟨hKb, nsK hns, ⟨mb, nsK hb, hbb⟩, let ⟨mc, h1, h2⟩ := hlim; ⟨mc, nsK h1, h2⟩⟩
    have e0 : Env0 P w K mg (hidT s₁.heap H) callerA [] s₁ H := ⟨rfl, hM, fun b o e => of_hidT e, Nat.le_of_eq (hidT_size _ _), trivial, fun b hb => absurd (show b ∈ ([] : List Addr) from hb) (by simp), hok, .of_eq hg⟩
    refine codeAny_mono ((F _ hKb (nsK hns)).run callerA [] s₁ H ⟨[.ref a], []⟩ [.ref a] [.ref a] _ _ hr e0 (hbind s₁ (.ref a)) (.cons rfl .nil) (hsp H hO hS)) fun r s' h => ?_
    cases r with
    | error e => exact (hCX H e s' h).elim
    | ok fl =>
      cases fl with
      | next => exact False.elim h
      | brk => exact False.elim h
      | cont => exact False.elim h
      | ret u =>
        obtain ⟨v, H', os, bare, un, hok', r', q⟩ := h
        have q' : v = .bl true := q
        subst q'
        obtain rfl : u = Value.bool true := r'
        refine ⟨rfl, OldK.of_keep fun b o e => ?_, os, bare⟩
        cases q : H b with
        | none => exact un.keep b o e q (by intro z; exact absurd (show b ∈ ([] : List Addr) from z) (by simp)) (by simp)
        | some u =>
          rcases hO b with z | ⟨ob, xs, z⟩
          · rw [q] at z; cases z
          · have z2 := un.frzs b ob _ z
            obtain ⟨e1, _⟩ := hok b _ z
            obtain ⟨e2, _⟩ := hok' b _ z2
            rw [e] at e1; cases e1
            exact e2
  cases hk : K.lookup a with
  | some o =>
    have e := KX a o hk
    rw [ha] at e
    cases e
    refine core (fun _ => none) (fun _ => .inl rfl) (.inr ⟨_, vs.toArray, _, hk, rfl, rfl, rfl, by rw [List.size_toArray, lenV]; exact hl, by simpa using rv⟩) (fun b u z => by have z' : (none : Option HO) = some u := z; cases z') (fun b z => absurd rfl z) fun z => absurd rfl z
  | none =>
    refine core (fun b => if b = a then some (.frz { cls := .type "list", data := .seq vs.toArray } (.lst (ns.map V.int))) else none) (fun b => ?_) (.inl (.inr ⟨{ cls := .type "list", data := .seq vs.toArray }, if_pos rfl⟩)) (fun b u z => ?_) (fun b z => ?_) fun _ => hk
    · by_cases hb : b = a
      · exact .inr ⟨_, _, if_pos hb⟩
      · exact .inl (if_neg hb)
    · by_cases hb : b = a
      · have z' := (if_pos hb).symm.trans z
        cases z'
        subst hb
        exact ⟨ha, by rw [List.length_map]; exact hl, vs, _, rv, ha⟩
      · have z' := (if_neg hb).symm.trans z
        cases z'
    · by_cases hb : b = a
      · exact hb
      · exact absurd (if_neg hb) z
end L2
namespace L2
open PySem PySem.Spec PyProof.Rows
abbrev KOf {K : PySem.W.Frag} {h : Heap} (_ : K.In h) : PySem.W.Frag := K
theorem walk_of {l : PySem.W.OpenLaw} {n k : Nat} {q : Program} {loose : List Str} {XP : (Str → Option Value) → Heap → Prop} {YP : World → Heap → Prop} {d : DefRec} {K : Params → PySem.W.Frag} {CX : World → CXT} {sp : World → Sp} {x : Str}
    (hn : l.most = some n) (hn2 : n ≤ sizeLine) (hdf : d.params.defaults = []) (hr : Room k callerA)
    (hY : ∀ (w : World) (h : Heap), YP w h → (K w.params).In h)
    (F : ∀ (w : World) (mg : Str → Option Value) (fa : Addr) (h : Heap), (K w.params).In h → h.Ns mainGlobals mg → mg d.name = some (.ref fa) →
      ∃ fd : FuncData, (∀ (s : Shared) (u : Value), BindsTo s fd ⟨[u], []⟩ [(x, u)]) ∧
        ∀ base : Heap, (K w.params).In base → base.Ns mainGlobals mg → FnOk l.prog w (K w.params) mg base (CX w) k fa fd [x] (sp w))
    (hsp : ∀ (w : World) (H : Hp) (a : Addr) (ns : List Int), ns.length ≤ n → Only H → SqL (K w.params) H a (ns.map V.int) → sp w [.ref a] H (fun v _ => v = .bl true) fun _ _ _ => False)
    (hCX : ∀ (w : World) (H : Hp) (s : Shared) (e : Value) (s' : Shared), CX w [] H s (fun _ _ _ => False) e s' → False) :
    PySem.W.WalkO q loose XP YP l.row.toRowW d [] (fun f vs => PySem.call f vs) := by
  refine Att.attach_call hn hdf fun w s₀ s₁ mg mb fa o pm cd doc a vs ns G Y ho hd hcd hmg hobj hints hlen hg => ?_
  have KX := hY w _ Y
  obtain ⟨fd, hb, hF⟩ := F w mg fa _ KX G.T.g hmg
  exact law_call KX G.T.g G.T.b G.T.builtins G.T.nolimit hg hobj hints (Nat.le_trans hlen hn2) hr hF hb (fun H hO hS => hsp w H a ns hlen hO hS) fun H e s' => hCX w H s₁ e s'
end L2
/- THE LAST THEOREM (shape; LID, My.* are yours):
   My.Adr: a structure of the addresses that your layer names (classes, functions); My.Txt K t: a structure (Prop) of the equations over K;
   My.txt_mk : {K} {implicit addresses ..} (e1 : nsIn K mainGlobals "law" = some (some (.ref f))) (e2 : K.lookup f = some ⟨oc, od, .func (fnOf "law" "law" params body scope dV kV doc pm an cdv ct), sl⟩) (e3 : codeIn K cdv "law" = true) .. : ∃ t, My.Txt K t
set_option maxRecDepth 100000 in
set_option maxHeartbeats 0 in
theorem PySem.Challenge.cw_LID_holds : PySem.Challenge.rw_LID.Holds := by
  w_on; o_law; k_head; (case hw => w_witness2)
  k_fill
  refine L2.walk_of (l := PySem.Challenge.rw_LID) (n := 63) (k := 40) (x := "script") (CX := fun w => ..) (sp := fun _ => My.sp_law) rfl (by decide) rfl ⟨rfl, by decide, by decide⟩ (fun w h Y => PySem.W.kIn_of Y) ?F ?S ?C
  case F =>
    intro w mg fa h KX G hmg
    have T : ∃ t, My.Txt (L2.KOf KX) t := by
      dsimp only [L2.KOf]                          -- K must stand as «<heap const> w.params» for k_is
      refine' My.txt_mk ?e1 ?e2 ?e3 ..
      (case e1 => PySem.W.k_is)                    -- in the order: a name -> its address -> its object -> its parts
      (case e2 => PySem.W.k_is)
      ..
    obtain ⟨t, T⟩ := T
    have e0 := hmg.symm.trans (PySem.W.mg_of KX G T.law)
    cases e0                                       -- fa is the law's own address
    exact ⟨_, fun s u => .of_eq rfl, fun base kb nb => My.law_fn T kb nb⟩     -- if «.of_eq rfl» comes too early: refine' ⟨_, ?b, fun base kb nb => My.law_fn T kb nb⟩; exact fun s u => .of_eq rfl
  case S => exact fun w H a ns hl hO hS => ..
  case C => exact ..
(the tactic k_is has no namespace: write k_is) -/
namespace L2
open PySem PySem.Spec PyProof.Rows
def inClass (s : Stmt) (j : Nat) : Stmt := match s with
  | .ClassDef _ _ _ body _ _ _ _ _ _ _ => body.getD j (.Pass ⟨0, 0, 0, 0⟩)
  | _ => .Pass ⟨0, 0, 0, 0⟩
def defArgs (s : Stmt) : Arguments := match s with
  | .FunctionDef _ a _ _ _ _ _ _ _ _ => a
  | _ => { posonlyargs := [], args := [], vararg := none, kwonlyargs := [], kw_defaults := [], kwarg := none, defaults := [] }
def defBody (s : Stmt) : List Stmt := match s with
  | .FunctionDef _ _ b _ _ _ _ _ _ _ => b
  | _ => []
def defScope (s : Stmt) : Scope := match s with
  | .FunctionDef _ _ _ _ _ _ sc _ _ _ => sc
  | _ => { kind := .function, names := [], isGenerator := false, isCoroutine := false }
abbrev CX0 : CXT := fun _ _ _ _ _ _ => False
abbrev E0 : XK := fun _ _ _ => False
theorem pass0 {X : Cx} : Passes CX0 X E0 := fun _ _ _ _ _ _ _ h => h.elim
structure Fun (K : PySem.W.Frag) (x qual : Str) (st : Stmt) (f : Addr) (fd : FuncData) : Prop where
  ex : ∃ (oc : Value) (od : Option Addr) (kV doc pm : Value) (an : Option Addr) (cdv ct : Value) (osl : Array (Option Value)),
    fd = PySem.W.fnOf x qual (defArgs st) (defBody st) (defScope st) .none kV doc pm an cdv ct ∧ K.lookup f = some ⟨oc, od, .func fd, osl⟩ ∧ PySem.W.codeIn K cdv qual = true
  kp : PySem.W.keepIn K (.ref f) = true
section
variable {P : Program} {w : World} {K : PySem.W.Frag} {mg : Str → Option Value} {base : Heap}
theorem Fun.ok {x qual : Str} {st : Stmt} {f : Addr} {fd : FuncData} {N ps : List Str} {k : Nat} {sp : Sp} (F : Fun K x qual st f fd) (S : FnScope N ps (defScope st)) (len : ∀ vs H Q E, sp vs H Q E → vs.length = ps.length)
    (hbody : ∀ (cdv : Value) (A : Around) (outer : List Env) (s : Shared) (H : Hp) (vs : List V) (Q : VK) (E : XK), Room k (A.deeper (envOfC qual (defScope st) s.heap.objs.size f cdv)) → sp vs H Q E →
      ∃ t, PSs (cxOf CX0 P w K mg base N qual (defScope st) f cdv A outer s H E).nox (defBody st) t ∧ t { nx := fun _ H' => Q .non H', rt := Q } (start N vs) H) : FnOk P w K mg base CX0 (k + 1) f fd ps sp := by
  obtain ⟨oc, od, kV, doc, pm, an, cdv, ct, osl, rfl, lk, hcd⟩ := F.ex
  refine fn_of lk hcd S len fun A outer s H vs Q E hr hsp => ?_
  obtain ⟨t, h, q⟩ := hbody cdv A outer s H vs Q E hr hsp
  exact ⟨t, h.nox, q⟩
theorem Fun.binds {x qual : Str} {st : Stmt} {f : Addr} {fd : FuncData} {ps : List Str} (F : Fun K x qual st f fd)
    (h : ∀ (kV doc pm : Value) (an : Option Addr) (cdv ct : Value) (us : List Value), us.length = ps.length → bindArgs (PySem.W.fnOf x qual (defArgs st) (defBody st) (defScope st) .none kV doc pm an cdv ct) ⟨us, []⟩ = pure (ps.zip us)) : Binds K fd ps [] := by
  obtain ⟨oc, od, kV, doc, pm, an, cdv, ct, osl, rfl, lk, hcd⟩ := F.ex
  exact .all (h kV doc pm an cdv ct)
theorem fun_mk {x qual : Str} {st : Stmt} {f : Addr} {oc : Value} {od an : Option Addr} {osl : Array (Option Value)} {kV doc pm cdv ct : Value} (l : K.lookup f = some ⟨oc, od, .func (PySem.W.fnOf x qual (defArgs st) (defBody st) (defScope st) .none kV doc pm an cdv ct), osl⟩)
    (c : PySem.W.codeIn K cdv qual = true) (k : PySem.W.keepIn K (.ref f) = true) : Fun K x qual st f (PySem.W.fnOf x qual (defArgs st) (defBody st) (defScope st) .none kV doc pm an cdv ct) := ⟨⟨oc, od, kV, doc, pm, an, cdv, ct, osl, rfl, l, c⟩, k⟩
end
section
variable {X : Cx}
theorem pv (i : Nat) {x : Str} {pos : Pos} (hN : X.N[i]? = some x := by rfl) (hv : Vis X.env.scope x := by first | exact Or.inl rfl | exact Or.inr (Or.inl rfl) | exact Or.inr (Or.inr rfl)) (hd : (x == ("__debug__" : Str)) = false := by decide)
    (hcd : (x == ("__classdict__" : Str)) = false := by decide) : PE X (.Name x pos) (tVar i) := pe_var hN hv hd hcd
end
theorem ite2 {c A B : Prop} [Decidable c] (h1 : c → A) (h2 : ¬ c → B) : if c then A else B := by
  by_cases h : c
  · rw [if_pos h]
    exact h1 h
  · rw [if_neg h]
    exact h2 h
def Same (H H' : Hp) : Prop := ∀ b o, H b = some o → H' b = some o
theorem Same.refl (H : Hp) : Same H H := fun _ _ h => h
theorem Same.trans {H H1 H2 : Hp} (a : Same H H1) (b : Same H1 H2) : Same H H2 := fun c o h => b c o (a c o h)
theorem Same.free {H H' : Hp} (e : Same H H') {l : Addr} (h : H' l = Option.none) : H l = Option.none := by
  cases q : H l with
  | none => rfl
  | some o =>
    rw [e l o q] at h
    cases h
theorem Same.seq {K : PySem.W.Frag} {H H' : Hp} {a : Addr} {xs : List V} (e : Same H H') (h : SqL K H a xs) : SqL K H' a xs := by
  rcases h with (h | ⟨o, h⟩) | h
  · exact .inl (.inl (e _ _ h))
  · exact .inl (.inr ⟨o, e _ _ h⟩)
  · exact .inr h
end L2
set_option autoImplicit false
namespace Dr
theorem pow_pos {p : Int} (h : 2 ≤ p) : ∀ n : Nat, 0 < p ^ n
  | 0 => by simp
  | n + 1 => by
    rw [Int.pow_succ]
    exact Int.mul_pos (pow_pos h n) (by omega)
theorem pow_add' (p : Int) (m : Nat) : ∀ n : Nat, p ^ (m + n) = p ^ m * p ^ n
  | 0 => by simp
  | n + 1 => by rw [← Nat.add_assoc, Int.pow_succ, pow_add' p m n, Int.pow_succ, Int.mul_assoc]
structure Fac (p x : Int) (d : Nat) (u : Int) : Prop where
  eq : x = u * p ^ d
  un : u % p ≠ 0
theorem Fac.ne {p x u : Int} {d : Nat} (hp : 2 ≤ p) (f : Fac p x d u) : x ≠ 0 := by
  intro z
  have h := f.eq
  rw [z] at h
  have h2 := pow_pos hp d
  rcases Int.mul_eq_zero.mp h.symm with q | q
  · exact f.un (by rw [q]; simp)
  · omega
theorem fac_ex {p : Int} (hp : 2 ≤ p) : ∀ (n : Nat) (x : Int), x.natAbs ≤ n → x ≠ 0 → ∃ d u, Fac p x d u
  | 0, x, h, h0 => by omega
  | n + 1, x, h, h0 => by
    by_cases c : x % p = 0
    · have e : x = p * (x / p) := by have := Int.mul_ediv_add_emod x p; omega
      have q0 : x / p ≠ 0 := by intro z; rw [z] at e; simp at e; exact h0 e
      have q1 : (x / p).natAbs ≤ n := by
        have e2 : x.natAbs = p.natAbs * (x / p).natAbs := by rw [← Int.natAbs_mul, ← e]
        have p2 : 2 ≤ p.natAbs := by omega
        have l : 2 * (x / p).natAbs ≤ p.natAbs * (x / p).natAbs := Nat.mul_le_mul_right _ p2
        have l0 : (x / p).natAbs ≠ 0 := by omega
        omega
      obtain ⟨d, u, f⟩ := fac_ex hp n (x / p) q1 q0
      refine ⟨d + 1, u, ?_, f.un⟩
      have e3 := f.eq
      calc x = p * (x / p) := e
        _ = p * (u * p ^ d) := by rw [← e3]
        _ = u * p ^ (d + 1) := by rw [Int.pow_succ, Int.mul_comm p, Int.mul_assoc]
    · exact ⟨0, x, by simp, c⟩
theorem fac {p x : Int} (hp : 2 ≤ p) (h : x ≠ 0) : ∃ d u, Fac p x d u := fac_ex hp _ x (Nat.le_refl _) h
theorem fac_le {p u v : Int} {d e : Nat} (hp : 2 ≤ p) (h : u * p ^ d = v * p ^ e) (hu : u % p ≠ 0) : e ≤ d := by
  refine Nat.le_of_not_lt fun c => ?_
  obtain ⟨k, rfl⟩ : ∃ k, e = d + (k + 1) := ⟨e - d - 1, by omega⟩
  have h0 := pow_pos hp d
  have e1 : u = v * p ^ (k + 1) := by
    refine Int.eq_of_mul_eq_mul_right (Int.ne_of_gt h0) ?_
    rw [h, pow_add', Int.mul_assoc, Int.mul_comm (p ^ d)]
  rw [e1, Int.pow_succ, ← Int.mul_assoc, Int.mul_emod_left] at hu
  exact hu rfl
theorem Fac.uniq {p x u v : Int} {d e : Nat} (hp : 2 ≤ p) (f : Fac p x d u) (g : Fac p x e v) : d = e ∧ u = v := by
  have h : u * p ^ d = v * p ^ e := by rw [← f.eq, g.eq]
  have a := fac_le hp h f.un
  have b := fac_le hp h.symm g.un
  have c : d = e := Nat.le_antisymm b a
  subst c
  exact ⟨rfl, Int.eq_of_mul_eq_mul_right (Int.ne_of_gt (pow_pos hp d)) h⟩
theorem Fac.dvd {p x u : Int} {d : Nat} (hp : 2 ≤ p) (f : Fac p x d u) (k : Nat) : x % p ^ k = 0 ↔ k ≤ d := by
  constructor
  · intro h
    have e : x = x / p ^ k * p ^ k := by have := Int.mul_ediv_add_emod x (p ^ k); rw [Int.mul_comm]; omega
    exact fac_le hp (f.eq.symm.trans e) f.un
  · intro h
    obtain ⟨j, rfl⟩ : ∃ j, d = j + k := ⟨d - k, by omega⟩
    rw [f.eq, pow_add', ← Int.mul_assoc, Int.mul_emod_left]
theorem dvd_of_le {p x : Int} {j k : Nat} (h : x % p ^ k = 0) (hj : j ≤ k) : x % p ^ j = 0 := by
  obtain ⟨i, rfl⟩ : ∃ i, k = j + i := ⟨k - j, by omega⟩
  rw [pow_add'] at h
  exact Int.emod_eq_zero_of_dvd (Int.dvd_trans (Int.dvd_mul_right _ _) (Int.dvd_of_emod_eq_zero h))
def primes : List Int := [2, 3, 5, 7, 11, 13, 17, 19, 23, 29, 31, 37, 41, 43, 47, 53, 59, 61, 67, 71, 73, 79, 83, 89, 97]
theorem primes_ge {p : Int} (h : p ∈ primes) : 2 ≤ p ∧ p ≤ 97 := by
  simp only [primes, List.mem_cons, List.not_mem_nil, or_false] at h
  omega
def invs (p : Nat) : Bool := (List.range p).all fun r => r == 0 || (List.range p).any fun y => r * y % p == 1
theorem invs_all : (primes.map Int.toNat).all invs = true := by decide +kernel
theorem inv_ex {p x : Int} (hp : p ∈ primes) (hx : x % p ≠ 0) : ∃ y : Int, 1 ≤ y ∧ y < p ∧ x * y % p = 1 := by
  have g := primes_ge hp
  have h := List.all_eq_true.mp invs_all p.toNat (List.mem_map.mpr ⟨p, hp, rfl⟩)
  have r0 := Int.emod_nonneg x (show p ≠ 0 by omega)
  have r1 := Int.emod_lt_of_pos x (show 0 < p by omega)
  have h2 := List.all_eq_true.mp h (x % p).toNat (List.mem_range.mpr (by omega))
  have z : ((x % p).toNat == 0) = false := by
    rw [beq_eq_false_iff_ne]; omega
  rw [z, Bool.false_or] at h2
  obtain ⟨y, hy, e⟩ := List.any_eq_true.mp h2
  have e' : (x % p).toNat * y % p.toNat = 1 := by simpa using e
  have hy' := List.mem_range.mp hy
  refine ⟨(y : Int), ?_, by omega, ?_⟩
  · rcases Nat.eq_zero_or_pos y with q | q
    · subst q; simp at e'
    · omega
  · rw [Int.mul_emod, Int.emod_eq_of_lt (Int.natCast_nonneg y) (show (y : Int) < p by omega)]
    have e3 := congrArg (fun n : Nat => (n : Int)) e'
    simp only [Int.natCast_emod, Int.natCast_mul] at e3
    rw [Int.toNat_of_nonneg r0, Int.toNat_of_nonneg (by omega)] at e3
    exact e3
theorem euclid {p a b : Int} (hp : p ∈ primes) (h : a * b % p = 0) (ha : a % p ≠ 0) : b % p = 0 := by
  obtain ⟨y, _, _, e⟩ := inv_ex hp ha
  have g := primes_ge hp
  have h1 : (y * (a * b)) % p = 0 := by rw [Int.mul_emod, h]; simp
  have h2 : (y * (a * b)) % p = (a * y) * b % p := by
    congr 1
    rw [← Int.mul_assoc, Int.mul_comm y a]
  rw [h2, Int.mul_emod, e, Int.one_mul, Int.emod_emod] at h1
  exact h1
theorem Fac.mul {p x y u v : Int} {d e : Nat} (hp : p ∈ primes) (f : Fac p x d u) (g : Fac p y e v) : Fac p (x * y) (d + e) (u * v) := by
  refine ⟨?_, fun h => g.un (euclid hp h f.un)⟩
  rw [f.eq, g.eq, pow_add']
  simp only [Int.mul_assoc, Int.mul_left_comm]
end Dr
namespace Dr
structure LeastD (p : Int) (some : List Int) (s : Int) (e : Nat) : Prop where
  top : e ≤ 60
  all : ∀ x, x ∈ some → (x - s) % p ^ e = 0
  sharp : e = 60 ∨ ∃ x, x ∈ some ∧ (x - s) % p ^ (e + 1) ≠ 0
theorem pow_dv {p : Int} {m n : Nat} (h : m ≤ n) : p ^ n % p ^ m = 0 := by
  obtain ⟨k, rfl⟩ : ∃ k, n = k + m := ⟨n - m, by omega⟩
  rw [pow_add', Int.mul_emod_left]
def UpN (p x : Int) (m d : Nat) : Prop := (x = 0 ∧ d = m) ∨ ∃ (v : Nat) (u : Int), Fac p x v u ∧ d = min m v
end Dr
namespace Dr
structure InvE (p x y : Int) (e : Nat) : Prop where
  lo : 0 ≤ y
  hi : y < p ^ e
  one : (x * y - 1) % p ^ e = 0
theorem dvd_sub_of {m a b : Int} (h : a % m = 0) (h' : b % m = 0) : (a - b) % m = 0 := by rw [Int.sub_emod, h, h']; simp
theorem dvd_add_of {m a b : Int} (h : a % m = 0) (h' : b % m = 0) : (a + b) % m = 0 := by rw [Int.add_emod, h, h']; simp
theorem dvd_mul_l {m a : Int} (b : Int) (h : a % m = 0) : (b * a) % m = 0 := by rw [Int.mul_emod, h]; simp
theorem dvd_mul_r {m a : Int} (b : Int) (h : a % m = 0) : (a * b) % m = 0 := by rw [Int.mul_emod, h]; simp
theorem rest_sub (m a : Int) : (a % m - a) % m = 0 := by
  rw [Int.sub_emod, Int.emod_emod]
  simp
theorem inv_step {p x y : Int} {e r : Nat} (h : (x * y - 1) % p ^ (min r e) = 0) : (x * (y * (2 - x * y) % p ^ e) - 1) % p ^ (min (r * 2) e) = 0 := by
  have k1 : (y * (2 - x * y) % p ^ e - y * (2 - x * y)) % p ^ e = 0 := rest_sub _ _
  have k2 : (x * (y * (2 - x * y) % p ^ e) - x * (y * (2 - x * y))) % p ^ (min (r * 2) e) = 0 := by
    rw [← Int.mul_sub]
    exact dvd_mul_l _ (dvd_of_le k1 (Nat.min_le_right ..))
  have k3 : x * (y * (2 - x * y)) - 1 = -((x * y - 1) * (x * y - 1)) := by
    have e1 : x * (y * (2 - x * y)) = 2 * (x * y) - (x * y) * (x * y) := by
      rw [← Int.mul_assoc, Int.mul_sub, Int.mul_comm (x * y) 2]
    have e2 : (x * y - 1) * (x * y - 1) = (x * y) * (x * y) - 2 * (x * y) + 1 := by
      rw [Int.sub_mul, Int.mul_sub]
      omega
    rw [e1, e2]
    omega
  have k4 : (x * (y * (2 - x * y)) - 1) % p ^ (min (r * 2) e) = 0 := by
    rw [k3]
    refine Int.emod_eq_zero_of_dvd (Int.dvd_neg.mpr ?_)
    obtain ⟨q, hq⟩ := Int.dvd_of_emod_eq_zero h
    have : p ^ (min r e) * p ^ (min r e) ∣ (x * y - 1) * (x * y - 1) := by
      refine ⟨q * q, ?_⟩
      conv => lhs; rw [hq]
      simp only [Int.mul_assoc, Int.mul_left_comm]
    refine Int.dvd_trans ?_ this
    rw [← pow_add']
    exact Int.dvd_of_emod_eq_zero (pow_dv (by omega))
  have : x * (y * (2 - x * y) % p ^ e) - 1 = (x * (y * (2 - x * y) % p ^ e) - x * (y * (2 - x * y))) + (x * (y * (2 - x * y)) - 1) := by omega
  rw [this]
  exact dvd_add_of k2 k4
theorem InvE.zero (p x : Int) : InvE p x 0 0 := ⟨by decide, by simp, by simp [Int.emod_one]⟩
end Dr
namespace Dr
structure UpD (p x : Int) (m d : Nat) : Prop where
  le : d ≤ m
  dv : x % p ^ d = 0
  sh : d = m ∨ x % p ^ (d + 1) ≠ 0
end Dr
namespace Dr
def IsP (n : Int) : Prop := 2 ≤ n ∧ ∀ d : Int, 2 ≤ d → d * d ≤ n → n % d ≠ 0
def isPb (n : Nat) : Bool := decide (2 ≤ n) && (List.range 32).all fun d => decide (d < 2) || decide (n < d * d) || decide (n % d ≠ 0)
def vpF : Nat → Nat → Nat → Nat
  | 0, _, _ => 0
  | f + 1, q, n => if n % q = 0 then vpF f q (n / q) + 1 else 0
def nprimes : List Nat := [2, 3, 5, 7, 11, 13, 17, 19, 23, 29, 31, 37, 41, 43, 47, 53, 59, 61, 67, 71, 73, 79, 83, 89, 97]
def outOf (n r q : Nat) : Nat := if n % q = 0 then r / q ^ vpF 10 q n else r
def left (n : Nat) : Nat := nprimes.foldl (outOf n) n
def chkN (n : Nat) : Bool := decide (1 ≤ left n ∧ left n ≤ 1000) && (decide (left n = 1) || isPb (left n)) && (isPb n == (decide (left n = n) || nprimes.contains n))
theorem Fac.pow_le {p x u : Int} {d : Nat} (hp : 2 ≤ p) (f : Fac p x d u) : (p ^ d).natAbs ≤ x.natAbs := by
  have hu : u ≠ 0 := fun z => f.un (by rw [z]; simp)
  have : x.natAbs = u.natAbs * (p ^ d).natAbs := by rw [f.eq, Int.natAbs_mul]
  have h1 : 1 * (p ^ d).natAbs ≤ u.natAbs * (p ^ d).natAbs := Nat.mul_le_mul_right _ (by omega)
  omega
theorem two_pow_le {p : Int} (hp : 2 ≤ p) : ∀ d : Nat, 2 ^ d ≤ (p ^ d).natAbs
  | 0 => by simp
  | d + 1 => by
    rw [Int.pow_succ, Int.natAbs_mul, Nat.pow_succ]
    exact Nat.mul_le_mul (two_pow_le hp d) (by omega)
theorem Fac.depth_lt {p x u : Int} {d n : Nat} (hp : 2 ≤ p) (f : Fac p x d u) (h : x.natAbs < 2 ^ n) : d < n :=
  (Nat.pow_lt_pow_iff_right (by decide : 1 < 2)).mp (Nat.lt_of_le_of_lt (Nat.le_trans (two_pow_le hp d) (f.pow_le hp)) h)
theorem Fac.div {p x u : Int} {d : Nat} (hp : 2 ≤ p) (f : Fac p x d u) : x / p ^ d = u := by
  have h0 := pow_pos hp d
  conv => lhs; rw [f.eq]
  exact Int.mul_ediv_cancel _ (by omega)
end Dr
namespace Dr
def pev : List Int → Int → Int
  | [], _ => 0
  | a :: f, x => a + x * pev f x
def pdv : List Int → Int → Int
  | [], _ => 0
  | _ :: f, x => pev f x + x * pdv f x
def dm : Int → List Int → List Int
  | _, [] => []
  | k, a :: f => k * a :: dm (k + 1) f
def pslope : List Int → List Int
  | [] => []
  | [_] => [0]
  | _ :: f => dm 1 f
theorem pev_dm (x : Int) : ∀ (f : List Int) (k : Int), pev (dm k f) x = k * pev f x + x * pdv f x
  | [], k => by simp [pev, dm, pdv]
  | a :: f, k => by
    simp only [pev, dm, pdv, pev_dm x f (k + 1)]
    grind
theorem pev_slope {f : List Int} (h : 0 < f.length) (x : Int) : pev (pslope f) x = pdv f x := by
  match f, h with
  | [a], _ => simp [pslope, pev, pdv]
  | a :: b :: f, _ =>
    show pev (dm 1 (b :: f)) x = pdv (a :: b :: f) x
    rw [pev_dm]
    simp only [pdv]
    grind
theorem dm_length : ∀ (f : List Int) (k : Int), (dm k f).length = f.length
  | [], _ => rfl
  | _ :: f, k => by simp [dm, dm_length f (k + 1)]
theorem dm_get : ∀ (f : List Int) (k : Int) (i : Nat) (c : Int), f[i]? = some c → (dm k f)[i]? = some ((k + i) * c)
  | a :: f, k, 0, c, h => by
    have : a = c := by simpa using h
    subst this
    simp [dm]
  | a :: f, k, i + 1, c, h => by
    have := dm_get f (k + 1) i c (by simpa using h)
    simp only [dm, List.getElem?_cons_succ, this]
    congr 2
    omega
theorem pev_append (f g : List Int) (x : Int) : pev (f ++ g) x = pev f x + x ^ f.length * pev g x := by
  induction f with
  | nil => simp [pev]
  | cons a f ih =>
    simp only [List.cons_append, pev, ih, List.length_cons]
    grind
theorem pev_zeros (n : Nat) (x : Int) : pev (List.replicate n 0) x = 0 := by
  induction n with
  | zero => rfl
  | succ n ih => simp [List.replicate_succ, pev, ih]
theorem pev_set (x d : Int) : ∀ (f : List Int) (k : Nat) (c : Int), f[k]? = some c → pev (f.set k (c + d)) x = pev f x + d * x ^ k
  | a :: f, 0, c, h => by
    have : a = c := by simpa using h
    subst this
    simp only [List.set_cons_zero, pev, Int.pow_zero]
    omega
  | a :: f, k + 1, c, h => by
    simp only [List.set_cons_succ, pev, pev_set x d f k c (by simpa using h)]
    grind
theorem pev_take_succ {f : List Int} {i : Nat} {c : Int} (h : f[i]? = some c) (x : Int) : pev (f.take (i + 1)) x = pev (f.take i) x + c * x ^ i := by
  have hi := (List.getElem?_eq_some_iff.mp h).1
  rw [List.take_add_one, h, pev_append, List.length_take, Nat.min_eq_left (Nat.le_of_lt hi)]
  simp only [Option.toList, pev]
  grind
theorem drop_rev {f : List Int} {i : Nat} {c : Int} (h : f.reverse[i]? = some c) : f.drop (f.length - (i + 1)) = c :: f.drop (f.length - i) := by
  have hi : i < f.length := by
    have := (List.getElem?_eq_some_iff.mp h).1
    simpa using this
  rw [List.getElem?_reverse hi] at h
  have h2 : f.length - (i + 1) < f.length := by omega
  rw [List.drop_eq_getElem_cons h2]
  have e1 : f.length - (i + 1) + 1 = f.length - i := by omega
  have e2 : f[f.length - (i + 1)] = c := by
    have h3 : f.length - 1 - i = f.length - (i + 1) := by omega
    rw [h3, List.getElem?_eq_getElem h2] at h
    exact Option.some.inj h
  rw [e1, e2]
theorem pev_rev {f : List Int} {i : Nat} {c : Int} (h : f.reverse[i]? = some c) (x : Int) : pev (f.drop (f.length - (i + 1))) x = pev (f.drop (f.length - i)) x * x + c := by
  rw [drop_rev h]
  simp only [pev]
  grind
def Sm (n : Int) (k : Nat) : Prop := n.natAbs < 2 ^ k
theorem Sm.mono {n : Int} {k l : Nat} (h : Sm n k) (hl : k ≤ l) : Sm n l := Nat.lt_of_lt_of_le h (Nat.pow_le_pow_right (by decide) hl)
theorem Sm.zero (k : Nat) : Sm 0 k := Nat.pow_pos (by decide)
theorem Sm.add {a b : Int} {k l : Nat} (ha : Sm a k) (hb : Sm b l) : Sm (a + b) (max k l + 1) := by
  have h1 := ha.mono (Nat.le_max_left k l)
  have h2 := hb.mono (Nat.le_max_right k l)
  unfold Sm at *
  rw [Nat.pow_succ]
  omega
theorem Sm.neg {a : Int} {k : Nat} (ha : Sm a k) : Sm (-a) k := by
  unfold Sm at *
  rw [Int.natAbs_neg]
  exact ha
theorem Sm.sub {a b : Int} {k l : Nat} (ha : Sm a k) (hb : Sm b l) : Sm (a - b) (max k l + 1) := by
  rw [Int.sub_eq_add_neg]
  exact ha.add hb.neg
theorem Sm.mul {a b : Int} {k l : Nat} (ha : Sm a k) (hb : Sm b l) : Sm (a * b) (k + l) := by
  unfold Sm at *
  rw [Int.natAbs_mul, Nat.pow_add]
  exact Nat.mul_lt_mul_of_lt_of_lt ha hb
def PolyB (f : List Int) (m : Nat) : Prop := ∀ c, c ∈ f → Sm c m
theorem Sm.pev {m n : Nat} {x : Int} (hx : Sm x n) : ∀ {f : List Int}, PolyB f m → Sm (pev f x) (m + f.length * (n + 1))
  | [], _ => Sm.zero _
  | a :: f, hf => by
    have h1 := Sm.pev hx (f := f) fun c hc => hf c (List.mem_cons_of_mem _ hc)
    have h2 := (hf a (List.mem_cons_self ..)).add (hx.mul h1)
    refine h2.mono ?_
    rw [List.length_cons, Nat.succ_mul]
    omega
theorem PolyB.drop {f : List Int} {m : Nat} (h : PolyB f m) (k : Nat) : PolyB (f.drop k) m := fun c hc => h c (List.mem_of_mem_drop hc)
theorem pev_inj_from : ∀ (f g : List Int) (N : Int), f.length = g.length → (∀ x, N ≤ x → pev f x = pev g x) → f = g
  | [], [], _, _, _ => rfl
  | a :: f, b :: g, N, hl, h => by
    have hab : a = b := by
      let D : Int := ((a - b).natAbs : Int) + 1 + (N.natAbs : Int)
      have hD : N ≤ D := by omega
      have e := h D hD
      simp only [pev] at e
      have e2 : a - b = D * (pev g D - pev f D) := by grind
      refine Decidable.byContradiction fun hne => ?_
      have hz : pev g D - pev f D ≠ 0 := fun z => by
        rw [z] at e2
        simp at e2
        omega
      have h3 : (a - b).natAbs = D.natAbs * (pev g D - pev f D).natAbs := by rw [← Int.natAbs_mul, ← e2]
      have h4 : D.natAbs * 1 ≤ D.natAbs * (pev g D - pev f D).natAbs := Nat.mul_le_mul_left _ (by omega)
      omega
    subst hab
    congr 1
    refine pev_inj_from f g (max N 1) (by simpa using hl) fun x hx => ?_
    have e := h x (by omega)
    simp only [pev] at e
    have e2 : x * pev f x = x * pev g x := by omega
    exact Int.eq_of_mul_eq_mul_left (by omega) e2
  | [], _ :: _, _, hl, _ => by simp at hl
  | _ :: _, [], _, hl, _ => by simp at hl
theorem pev_inj {f g : List Int} (hl : f.length = g.length) (h : ∀ x, pev f x = pev g x) : f = g := pev_inj_from f g 0 hl fun x _ => h x
theorem taylor (x h : Int) : ∀ f : List Int, ∃ R, pev f (x + h) = pev f x + h * pdv f x + h * h * R
  | [] => ⟨0, by simp [pev, pdv]⟩
  | a :: f => by
    obtain ⟨R, e⟩ := taylor x h f
    refine ⟨pdv f x + x * R + h * R, ?_⟩
    simp only [pev, pdv, e]
    grind
def IsDeg (f : List Int) (d : Int) : Prop := (d = -1 ∧ ∀ c, c ∈ f → c = 0) ∨ ∃ (k : Nat) (c : Int), d = (k : Int) ∧ f[k]? = some c ∧ c ≠ 0 ∧ ∀ (j : Nat) (b : Int), k < j → f[j]? = some b → b = 0
theorem IsDeg.nil : IsDeg [] (-1) := .inl ⟨rfl, fun _ h => nomatch h⟩
theorem IsDeg.snoc {f : List Int} {d x : Int} (h : IsDeg f d) : IsDeg (f ++ [x]) (if x ≠ 0 then (f.length : Int) else d) := by
  by_cases hx : x = 0
  · rw [if_neg (by simp [hx])]
    rcases h with ⟨rfl, h⟩ | ⟨k, c, rfl, e, hc, h⟩
    · exact .inl ⟨rfl, fun c hc => by rcases List.mem_append.mp hc with z | z; exact h c z; rw [List.mem_singleton.mp z, hx]⟩
    · have hk := (List.getElem?_eq_some_iff.mp e).1
      refine .inr ⟨k, c, rfl, by rw [List.getElem?_append_left hk]; exact e, hc, fun j b hj e' => ?_⟩
      by_cases hl : j < f.length
      · rw [List.getElem?_append_left hl] at e'
        exact h j b hj e'
      · rw [List.getElem?_append_right (by omega)] at e'
        by_cases hz : j - f.length = 0
        · rw [hz] at e'
          simp at e'
          rw [← e', hx]
        · rw [List.getElem?_eq_none (by simp; omega)] at e'
          cases e'
  · rw [if_pos hx]
    refine .inr ⟨f.length, x, rfl, by rw [List.getElem?_append_right (Nat.le_refl _)]; simp, hx, fun j b hj e' => ?_⟩
    rw [List.getElem?_eq_none (by simp; omega)] at e'
    cases e'
theorem IsDeg.take_succ {f : List Int} {i : Nat} {x d : Int} (hx : f[i]? = some x) (h : IsDeg (f.take i) d) : IsDeg (f.take (i + 1)) (if x ≠ 0 then (i : Int) else d) := by
  have hi := (List.getElem?_eq_some_iff.mp hx).1
  have := h.snoc (x := x)
  rw [List.length_take, Nat.min_eq_left (Nat.le_of_lt hi)] at this
  rw [List.take_add_one, hx]
  exact this
end Dr
namespace Dr
structure IsProd (f g r : List Int) : Prop where
  len : r.length + 1 = f.length + g.length
  ev : ∀ x, pev r x = pev f x * pev g x
def padd : List Int → List Int → List Int
  | [], g => g
  | f, [] => f
  | a :: f, b :: g => (a + b) :: padd f g
theorem padd_ev (x : Int) : ∀ f g : List Int, pev (padd f g) x = pev f x + pev g x
  | [], g => by simp [padd, pev]
  | a :: f, [] => by simp [padd, pev]
  | a :: f, b :: g => by
    simp only [padd, pev, padd_ev x f g]
    grind
theorem padd_len : ∀ f g : List Int, (padd f g).length = max f.length g.length
  | [], g => by simp [padd]
  | a :: f, [] => by simp [padd]
  | a :: f, b :: g => by
    simp only [padd, List.length_cons, padd_len f g]
    omega
theorem pev_map (k x : Int) : ∀ f : List Int, pev (f.map (k * ·)) x = k * pev f x
  | [] => by simp [pev]
  | a :: f => by
    simp only [List.map_cons, pev, pev_map k x f]
    grind
def pmul : List Int → List Int → List Int
  | [], _ => []
  | a :: f, g => padd (g.map (a * ·)) (match f with | [] => [] | _ => 0 :: pmul f g)
def psubk (k : Int) : List Int → List Int → List Int
  | [], g => g.map (-k * ·)
  | f, [] => f
  | a :: f, b :: g => (a - k * b) :: psubk k f g
structure IsCont (p : Int) (f : List Int) (c : Nat) : Prop where
  all : ∀ x, x ∈ f → x % p ^ c = 0
  one : ∃ x, x ∈ f ∧ x / p ^ c % p ≠ 0
theorem IsCont.le {p : Int} {f : List Int} {c c' : Nat} (hp : 2 ≤ p) (h : IsCont p f c) (h' : ∀ x, x ∈ f → x % p ^ c' = 0) : c' ≤ c := by
  refine Decidable.byContradiction fun hlt => ?_
  obtain ⟨x, hx, n⟩ := h.one
  have h1 : x % p ^ (c + 1) = 0 := dvd_of_le (h' x hx) (by omega)
  obtain ⟨y, e⟩ := Int.dvd_of_emod_eq_zero h1
  apply n
  have hp0 := pow_pos hp c
  rw [e, Int.pow_succ, Int.mul_assoc, Int.mul_ediv_cancel_left _ (by omega)]
  simp
theorem IsCont.uniq {p : Int} {f : List Int} {c c' : Nat} (hp : 2 ≤ p) (h : IsCont p f c) (h' : IsCont p f c') : c = c' := by
  have h1 := h.le hp h'.all
  have h2 := h'.le hp h.all
  omega
def pdiv (q : Int) (f : List Int) : List Int := f.map (· / q)
theorem pdiv_back {q : Int} : ∀ {f : List Int}, (∀ x, x ∈ f → x % q = 0) → f = (pdiv q f).map (q * ·)
  | [], _ => rfl
  | a :: l, hl => by
    have ih := pdiv_back (f := l) fun x hx => hl x (List.mem_cons_of_mem _ hx)
    unfold pdiv at ih ⊢
    rw [List.map_cons, List.map_cons, ← ih]
    congr 1
    have e := Int.mul_ediv_add_emod a q
    rw [hl a (List.mem_cons_self ..)] at e
    omega
theorem pdiv_ev {q : Int} {f : List Int} (h : ∀ x, x ∈ f → x % q = 0) (x : Int) : pev f x = q * pev (pdiv q f) x := by
  conv => lhs; rw [pdiv_back h]
  rw [pev_map]
theorem pdiv_len (q : Int) (f : List Int) : (pdiv q f).length = f.length := by simp [pdiv]
structure IsSeen (f : List Int) (a q : Int) (s : List Int) : Prop where
  len : s.length = f.length
  ev : ∀ y, pev s y = pev f (a + q * y)
theorem IsSeen.uniq {f s s' : List Int} {a q : Int} (h : IsSeen f a q s) (h' : IsSeen f a q s') : s = s' := pev_inj (h.len.trans h'.len.symm) fun x => by rw [h.ev, h'.ev]
theorem pslope_len {f : List Int} (h : 0 < f.length) : (pslope f).length = max 1 (f.length - 1) := by
  match f, h with
  | [a], _ => rfl
  | a :: b :: f, _ =>
    show (dm 1 (b :: f)).length = _
    rw [dm_length]
    simp only [List.length_cons]
    omega
end Dr
namespace Dr
theorem pev_sub (x y : Int) : ∀ f : List Int, ∃ R, pev f x - pev f y = (x - y) * R
  | [] => ⟨0, by simp [pev]⟩
  | a :: f => by
    obtain ⟨R, e⟩ := pev_sub x y f
    refine ⟨pev f x + y * R, ?_⟩
    simp only [pev]
    grind
theorem pdv_sub (x y : Int) : ∀ f : List Int, ∃ R, pdv f x - pdv f y = (x - y) * R
  | [] => ⟨0, by simp [pdv]⟩
  | a :: f => by
    obtain ⟨R, e⟩ := pdv_sub x y f
    obtain ⟨S, e'⟩ := pev_sub x y f
    refine ⟨S + pdv f x + y * R, ?_⟩
    simp only [pdv]
    grind
theorem pev_cong {x y m : Int} (f : List Int) (h : (x - y) % m = 0) : (pev f x - pev f y) % m = 0 := by
  obtain ⟨R, e⟩ := pev_sub x y f
  rw [e]
  exact dvd_mul_r R h
theorem pdv_cong {x y m : Int} (f : List Int) (h : (x - y) % m = 0) : (pdv f x - pdv f y) % m = 0 := by
  obtain ⟨R, e⟩ := pdv_sub x y f
  rw [e]
  exact dvd_mul_r R h
structure Single (p : Int) (f : List Int) (a : Int) (d : Nat) (u : Int) : Prop where
  fac : Fac p (pdv f a) d u
  deep : pev f a % p ^ (2 * d + 1) = 0
theorem pev_step (f : List Int) (a k q : Int) : ∃ R, pev f (a + k * q) = pev f a + k * q * pdv f a + q * q * R := by
  obtain ⟨R, e⟩ := taylor a (k * q) f
  exact ⟨k * k * R, by grind⟩
theorem Fac.near {p x y u : Int} {d : Nat} (hp : 2 ≤ p) (h : Fac p x d u) (hxy : (y - x) % p ^ (d + 1) = 0) : ∃ v, Fac p y d v ∧ (v - u) % p = 0 := by
  obtain ⟨k, e⟩ := Int.dvd_of_emod_eq_zero hxy
  have e1 : y = (u + p * k) * p ^ d := by
    have := h.1
    rw [Int.pow_succ] at e
    generalize p ^ d = B at *
    grind
  refine ⟨u + p * k, ⟨e1, ?_⟩, ?_⟩
  · have := h.2
    intro z
    apply this
    rw [Int.add_mul_emod_self_left] at z
    exact z
  · rw [show u + p * k - u = p * k by omega]
    simp
theorem Single.near {p : Int} {f : List Int} {a b u : Int} {d : Nat} (hp : 2 ≤ p) (h : Single p f a d u) (hab : (b - a) % p ^ (d + 1) = 0) : ∃ v, Single p f b d v ∧ (v - u) % p = 0 := by
  obtain ⟨v, hv, e⟩ := h.fac.near hp (pdv_cong f hab)
  refine ⟨v, ⟨hv, ?_⟩, e⟩
  obtain ⟨k, ek⟩ := Int.dvd_of_emod_eq_zero hab
  obtain ⟨R, eR⟩ := pev_step f a k (p ^ (d + 1))
  have hb : b = a + k * p ^ (d + 1) := by rw [Int.mul_comm]; omega
  rw [hb, eR]
  have h1 := h.fac.1
  have e0 : p ^ (2 * d + 1) = p ^ (d + 1) * p ^ d := by rw [← pow_add']; congr 1; omega
  have e1 : p ^ (d + 1) = p ^ d * p := Int.pow_succ ..
  have h2 : k * p ^ (d + 1) * pdv f a = p ^ (2 * d + 1) * (k * u) := by
    rw [h1, e0]
    generalize p ^ (d + 1) = A
    generalize p ^ d = B
    grind
  have h3 : p ^ (d + 1) * p ^ (d + 1) * R = p ^ (2 * d + 1) * (p * R) := by
    rw [e0, e1]
    generalize p ^ d = B
    grind
  rw [h2, h3]
  exact dvd_add_of (dvd_add_of h.deep (by simp)) (by simp)
structure Root (p : Int) (f : List Int) (a : Int) (d t : Nat) (r : Int) : Prop where
  lo : 0 ≤ r
  hi : r < p ^ t
  near : (r - a) % p ^ (d + 1) = 0
  deep : pev f r % p ^ (t + d) = 0
theorem Root.start {p : Int} {f : List Int} {a u : Int} {d : Nat} (hp : 2 ≤ p) (h : Single p f a d u) : Root p f a d (d + 1) (a % p ^ (d + 1)) := by
  have q0 := pow_pos hp (d + 1)
  have n := rest_sub (p ^ (d + 1)) a
  obtain ⟨v, hv, _⟩ := h.near hp n
  exact ⟨Int.emod_nonneg _ (by omega), Int.emod_lt_of_pos _ q0, n, by rw [show d + 1 + d = 2 * d + 1 by omega]; exact hv.deep⟩
theorem Root.step {p : Int} {f : List Int} {a u y r : Int} {d t : Nat} (hp : 2 ≤ p) (h : Single p f a d u) (hu : (u * y - 1) % p = 0) (ht : d + 1 ≤ t) (R : Root p f a d t r) :
    Root p f a d (t + 1) (r + -(pev f r / p ^ (t + d)) * y % p * p ^ t) := by
  have q0 := pow_pos hp t
  have q1 := pow_pos hp (t + d)
  obtain ⟨v, hv, hvu⟩ := h.near hp R.near
  have s0 : 0 ≤ -(pev f r / p ^ (t + d)) * y % p := Int.emod_nonneg _ (by omega)
  have s1 : -(pev f r / p ^ (t + d)) * y % p < p := Int.emod_lt_of_pos _ (by omega)
  have s2 := rest_sub p (-(pev f r / p ^ (t + d)) * y)
  generalize hs : -(pev f r / p ^ (t + d)) * y % p = s at s0 s1 s2 ⊢
  have hw : pev f r = p ^ (t + d) * (pev f r / p ^ (t + d)) := by
    have := Int.mul_ediv_add_emod (pev f r) (p ^ (t + d))
    rw [R.deep] at this
    omega
  generalize pev f r / p ^ (t + d) = w at hw s2
  have m0 : 0 ≤ s * p ^ t := Int.mul_nonneg s0 (by omega)
  have m1 : s * p ^ t ≤ (p - 1) * p ^ t := Int.mul_le_mul_of_nonneg_right (by omega) (by omega)
  refine ⟨by have := R.lo; omega, ?_, ?_, ?_⟩
  · have := R.hi
    rw [Int.pow_succ, Int.mul_comm (p ^ t) p]
    rw [Int.sub_mul, Int.one_mul] at m1
    omega
  · rw [show r + s * p ^ t - a = (r - a) + s * p ^ t by omega]
    exact dvd_add_of R.near (dvd_mul_l s (pow_dv ht))
  · obtain ⟨T, eT⟩ := pev_step f r s (p ^ t)
    rw [eT, hw, hv.fac.1]
    have e2 : p ^ (t + d) * w + s * p ^ t * (v * p ^ d) = p ^ (t + d) * (w + s * v) := by
      rw [pow_add']
      generalize p ^ t = A
      generalize p ^ d = B
      grind
    have e3 : (w + s * v) % p = 0 := by
      obtain ⟨k1, h1⟩ := Int.dvd_of_emod_eq_zero s2
      obtain ⟨k2, h2⟩ := Int.dvd_of_emod_eq_zero hvu
      obtain ⟨k3, h3⟩ := Int.dvd_of_emod_eq_zero hu
      have : w + s * v = p * (-w * k3 + k1 * v - w * y * k2) := by grind
      rw [this]
      simp
    obtain ⟨k, ek⟩ := Int.dvd_of_emod_eq_zero e3
    have e4 : p ^ t * p ^ t * T = p ^ (t + 1 + d) * (p ^ (t - d - 1) * T) := by
      have : p ^ t = p ^ (d + 1) * p ^ (t - d - 1) := by rw [← pow_add']; congr 1; omega
      have h5 : p ^ t * p ^ t = p ^ (t + 1 + d) * p ^ (t - d - 1) := by
        rw [show t + 1 + d = t + (d + 1) by omega, pow_add' p t (d + 1), Int.mul_assoc, ← this]
      rw [h5, Int.mul_assoc]
    rw [e2, ek, e4]
    have e5 : p ^ (t + d) * (p * k) = p ^ (t + 1 + d) * k := by
      rw [show t + 1 + d = t + d + 1 by omega, Int.pow_succ, Int.mul_assoc]
    rw [e5]
    exact dvd_add_of (by simp) (by simp)
end Dr
namespace Dr
def pdl : List Int → List Int
  | [] => []
  | _ :: f => match f with
    | [] => []
    | _ => padd f (padd (pdl f) (0 :: pdl f))
def pq (r : Int) : List Int → List Int
  | [] => []
  | _ :: f => padd f ((pq r f).map (r * ·))
theorem pq_ev (r x : Int) : ∀ f : List Int, pev f x = pev f r + (x - r) * pev (pq r f) x
  | [] => by simp [pev, pq]
  | a :: f => by
    have ih := pq_ev r x f
    simp only [pev, pq, padd_ev, pev_map]
    grind
theorem pq_len (r : Int) : ∀ f : List Int, (pq r f).length = f.length - 1
  | [] => rfl
  | a :: f => by
    have := pq_len r f
    simp only [pq, padd_len, List.length_map, List.length_cons]
    omega
theorem pq_swap (r s : Int) (hrs : r ≠ s) (f : List Int) : pq s (pq r f) = pq r (pq s f) := by
  refine pev_inj_from _ _ ((r.natAbs : Int) + (s.natAbs : Int) + 1) (by simp only [pq_len]) fun x hx => ?_
  have e1 := pq_ev r x f
  have e2 := pq_ev s x (pq r f)
  have e3 := pq_ev s x f
  have e4 := pq_ev r x (pq s f)
  have e5 := pq_ev r s f
  have e6 := pq_ev s r f
  have d : pev (pq r f) s = pev (pq s f) r := by
    refine Int.eq_of_mul_eq_mul_left (show s - r ≠ 0 by omega) ?_
    grind
  have x1 : x - r ≠ 0 := by omega
  have x2 : x - s ≠ 0 := by omega
  refine Int.eq_of_mul_eq_mul_left x1 (Int.eq_of_mul_eq_mul_left x2 ?_)
  grind
def Van (p : Int) : List Int → Int → Nat → Prop
  | _, _, 0 => True
  | f, r, k + 1 => pev f r % p = 0 ∧ Van p (pq r f) r k
def DegP (p : Int) (f : List Int) (m : Nat) : Prop := f.getD m 0 % p ≠ 0 ∧ ∀ j, m < j → f.getD j 0 % p = 0
theorem padd_getD : ∀ (f g : List Int) (j : Nat), (padd f g).getD j 0 = f.getD j 0 + g.getD j 0
  | [], g, j => by simp [padd]
  | a :: f, [], j => by simp [padd]
  | a :: f, b :: g, 0 => by simp [padd]
  | a :: f, b :: g, j + 1 => by
    have := padd_getD f g j
    simpa [padd] using this
theorem map_getD (k : Int) (f : List Int) (j : Nat) : (f.map (k * ·)).getD j 0 = k * f.getD j 0 := by
  rw [List.getD_eq_getElem?_getD, List.getD_eq_getElem?_getD, List.getElem?_map]
  cases f[j]? <;> simp
theorem pq_get (r : Int) : ∀ (f : List Int) (j : Nat), (pq r f).getD j 0 = f.getD (j + 1) 0 + r * (pq r f).getD (j + 1) 0
  | [], j => by simp [pq]
  | [a], j => by simp [pq, padd]
  | a :: b :: f, j => by
    have ih := pq_get r (b :: f) j
    have h1 : ∀ i, (pq r (a :: b :: f)).getD i 0 = (b :: f).getD i 0 + r * (pq r (b :: f)).getD i 0 := fun i => by
      rw [pq, padd_getD, map_getD]
    rw [h1 j, h1 (j + 1)]
    have e : (a :: b :: f).getD (j + 1) 0 = (b :: f).getD j 0 := by simp
    rw [e, ih]
theorem DegP.pq {p r : Int} {f : List Int} {m : Nat} (h : DegP p f (m + 1)) : DegP p (pq r f) m := by
  have dn : ∀ (k j : Nat), f.length ≤ j + k → m < j → (Dr.pq r f).getD j 0 % p = 0 := by
    intro k
    induction k with
    | zero =>
      intro j hj hm
      rw [List.getD_eq_getElem?_getD, List.getElem?_eq_none (by rw [pq_len]; omega)]
      simp
    | succ k ih =>
      intro j hj hm
      rw [pq_get]
      exact dvd_add_of (h.2 (j + 1) (by omega)) (dvd_mul_l r (ih (j + 1) (by omega) (by omega)))
  refine ⟨fun z => h.1 ?_, fun j hj => dn f.length j (by omega) hj⟩
  rw [pq_get] at z
  have := dvd_sub_of z (dvd_mul_l r (dn f.length (m + 1) (by omega) (by omega)))
  rwa [Int.add_sub_cancel] at this
theorem DegP.zero {p r : Int} {f : List Int} (h : DegP p f 0) : pev f r % p ≠ 0 := by
  intro z
  apply h.1
  have : ∀ (g : List Int), (∀ j, 0 < j → g.getD j 0 % p = 0) → (pev g r - g.getD 0 0) % p = 0 := by
    intro g
    induction g with
    | nil => intro _; simp [pev]
    | cons a g ih =>
      intro hg
      have hg' : ∀ j, g.getD j 0 % p = 0 := fun j => by
        have := hg (j + 1) (by omega)
        simpa using this
      have h1 := ih fun j _ => hg' j
      have h2 : pev g r % p = 0 := by
        have := dvd_add_of h1 (hg' 0)
        rwa [Int.sub_add_cancel] at this
      have e : pev (a :: g) r - (a :: g).getD 0 0 = r * pev g r := by
        simp only [pev]
        simp
        omega
      rw [e]
      exact dvd_mul_l r h2
  have h1 := this f h.2
  have h2 := dvd_sub_of z h1
  rwa [show pev f r - (pev f r - f.getD 0 0) = f.getD 0 0 by omega] at h2
theorem Van.other {p r s : Int} (hp : p ∈ primes) (hrs : (s - r) % p ≠ 0) : ∀ (k : Nat) (f : List Int), pev f r % p = 0 → Van p f s k → Van p (pq r f) s k
  | 0, _, _, _ => trivial
  | k + 1, f, hr, hv => by
    obtain ⟨h1, h2⟩ := hv
    have ne : r ≠ s := fun z => hrs (by rw [z]; simp)
    have e := pq_ev r s f
    have h3 : (s - r) * pev (pq r f) s % p = 0 := by
      have := dvd_sub_of h1 hr
      rwa [show pev f s - pev f r = (s - r) * pev (pq r f) s by omega] at this
    have h4 := euclid hp h3 hrs
    refine ⟨h4, ?_⟩
    rw [pq_swap r s ne]
    refine Van.other hp hrs k (pq s f) ?_ h2
    have e2 := pq_ev s r f
    have d : pev (pq r f) s = pev (pq s f) r := by
      refine Int.eq_of_mul_eq_mul_left (show s - r ≠ 0 by omega) ?_
      grind
    rw [← d]
    exact h4
def total (L : List (Int × Nat)) : Nat := (L.map (·.2)).sum
theorem noughts {p : Int} (hp : p ∈ primes) : ∀ (m : Nat) (f : List Int) (L : List (Int × Nat)), DegP p f m → (L.map (·.1)).Pairwise (fun r s => (s - r) % p ≠ 0) → (∀ rk, rk ∈ L → Van p f rk.1 rk.2) → total L ≤ m
  | m, f, [], _, _, _ => by simp [total]
  | m, f, (r, 0) :: L, hd, hpw, hv => by
    have := noughts hp m f L hd (List.Pairwise.of_cons (by simpa using hpw)) fun rk h => hv rk (List.mem_cons_of_mem _ h)
    simpa [total] using this
  | 0, f, (r, k + 1) :: L, hd, _, hv => absurd (hv _ (List.mem_cons_self ..)).1 hd.zero
  | m + 1, f, (r, k + 1) :: L, hd, hpw, hv => by
    have v0 := hv _ (List.mem_cons_self ..)
    have hpw' : (∀ s, s ∈ L.map (·.1) → (s - r) % p ≠ 0) ∧ (L.map (·.1)).Pairwise (fun r s => (s - r) % p ≠ 0) := by
      have := List.pairwise_cons.mp (show (r :: L.map (·.1)).Pairwise (fun r s => (s - r) % p ≠ 0) by simpa using hpw)
      exact this
    have := noughts hp m (pq r f) ((r, k) :: L) hd.pq (by simpa using hpw) fun rk h => by
      rcases List.mem_cons.mp h with z | z
      · rw [z]
        exact v0.2
      · exact Van.other hp (hpw'.1 _ (List.mem_map_of_mem z)) _ _ v0.1 (hv rk (List.mem_cons_of_mem _ z))
    simp only [total, List.map_cons, List.sum_cons] at this ⊢
    omega
termination_by m _ L => (m, L.length)
end Dr
namespace Dr
def InB (p x : Int) (b : Int × Nat) : Prop := (x - b.1) % p ^ b.2 = 0
def Disj (p : Int) (b c : Int × Nat) : Prop := ∀ x, InB p x b → ¬ InB p x c
structure Tree (p a : Int) (e : Nat) (Sol : Int → Prop) (bs : List (Int × Nat)) : Prop where
  ok : ∀ b, b ∈ bs → e ≤ b.2 ∧ 0 ≤ b.1 ∧ b.1 < p ^ b.2 ∧ (b.1 - a) % p ^ e = 0
  sound : ∀ b, b ∈ bs → ∀ x, InB p x b → Sol x
  full : ∀ x, (x - a) % p ^ e = 0 → Sol x → ∃ b, b ∈ bs ∧ InB p x b
  disj : bs.Pairwise (Disj p)
  max : ∀ b, b ∈ bs → b.2 = e ∨ ∃ x, (x - b.1) % p ^ (b.2 - 1) = 0 ∧ ¬ Sol x
structure Part (p a : Int) (e : Nat) (Sol : Int → Prop) (rs : List Int) (bs : List (Int × Nat)) : Prop where
  ok : ∀ b, b ∈ bs → e + 1 ≤ b.2 ∧ 0 ≤ b.1 ∧ b.1 < p ^ b.2 ∧ ∃ r, r ∈ rs ∧ (b.1 - (a + r * p ^ e)) % p ^ (e + 1) = 0
  sound : ∀ b, b ∈ bs → ∀ x, InB p x b → Sol x
  full : ∀ x r, r ∈ rs → (x - (a + r * p ^ e)) % p ^ (e + 1) = 0 → Sol x → ∃ b, b ∈ bs ∧ InB p x b
  disj : bs.Pairwise (Disj p)
  max : ∀ b, b ∈ bs → ∃ x, (x - b.1) % p ^ (b.2 - 1) = 0 ∧ ¬ Sol x
end Dr
namespace Dr
def tay (r : Int) : Nat → List Int → List Int
  | 0, _ => []
  | n + 1, f => pev f r :: tay r n (pq r f)
theorem tay_ev (r y : Int) : ∀ (n : Nat) (f : List Int), f.length ≤ n → pev (tay r n f) y = pev f (r + y)
  | 0, f, h => by
    have : f = [] := List.eq_nil_of_length_eq_zero (by omega)
    rw [this]
    simp [tay, pev]
  | n + 1, f, h => by
    have ih := tay_ev r y n (pq r f) (by rw [pq_len]; omega)
    have e := pq_ev r (r + y) f
    simp only [tay, pev, ih]
    rw [e]
    grind
theorem tay_len (r : Int) : ∀ (n : Nat) (f : List Int), (tay r n f).length = n
  | 0, _ => rfl
  | n + 1, f => by simp [tay, tay_len r n]
theorem tay_van {p r : Int} : ∀ (k n : Nat) (f : List Int), k ≤ n → (∀ j, j < k → (tay r n f).getD j 0 % p = 0) → Van p f r k
  | 0, _, _, _, _ => trivial
  | k + 1, 0, _, h, _ => absurd h (by omega)
  | k + 1, n + 1, f, h, hj => by
    refine ⟨?_, tay_van k n (pq r f) (by omega) fun j hj' => ?_⟩
    · have := hj 0 (by omega)
      simpa [tay] using this
    · have := hj (j + 1) (by omega)
      simpa [tay] using this
def scl (q : Int) : Int → List Int → List Int
  | _, [] => []
  | k, a :: f => k * a :: scl q (k * q) f
theorem scl_len (q : Int) : ∀ (f : List Int) (k : Int), (scl q k f).length = f.length
  | [], _ => rfl
  | a :: f, k => by simp [scl, scl_len q f]
theorem scl_ev (q y : Int) : ∀ (f : List Int) (k : Int), pev (scl q k f) y = k * pev f (q * y)
  | [], _ => by simp [scl, pev]
  | a :: f, k => by
    have ih := scl_ev q y f (k * q)
    simp only [scl, pev, ih]
    grind
theorem scl_get (q : Int) : ∀ (f : List Int) (k : Int) (j : Nat), (scl q k f).getD j 0 = k * q ^ j * f.getD j 0
  | [], _, j => by simp [scl]
  | a :: f, k, 0 => by simp [scl]
  | a :: f, k, j + 1 => by
    have ih := scl_get q f (k * q) j
    simp only [scl, List.getD_cons_succ, ih, Int.pow_succ]
    generalize q ^ j = A
    generalize f.getD j 0 = B
    grind
theorem seen_get {f s : List Int} {r q : Int} (h : IsSeen f r q s) (j : Nat) : s.getD j 0 = q ^ j * (tay r f.length f).getD j 0 := by
  have e : s = scl q 1 (tay r f.length f) := by
    refine pev_inj (by rw [scl_len, tay_len]; exact h.len) fun y => ?_
    rw [h.ev, scl_ev, tay_ev r _ _ _ (Nat.le_refl _), Int.one_mul]
  rw [e, scl_get, Int.one_mul]
theorem pdiv_get {p : Int} {g : List Int} {c : Nat} (h : ∀ x, x ∈ g → x % p ^ c = 0) (j : Nat) : g.getD j 0 = p ^ c * (pdiv (p ^ c) g).getD j 0 := by
  have e := pdiv_back h
  conv => lhs; rw [e]
  rw [map_getD]
theorem seen_van {p r : Int} {f s : List Int} {c m : Nat} (hp : 2 ≤ p) (h : IsSeen f r p s) (hc : IsCont p s c) (hm : DegP p (pdiv (p ^ c) s) m) : Van p f r m := by
  have hml : m < f.length := by
    refine Nat.lt_of_not_le fun z => hm.1 ?_
    rw [List.getD_eq_getElem?_getD, List.getElem?_eq_none (by rw [pdiv_len]; rw [h.len]; exact z)]
    simp
  have g : ∀ j, p ^ c * (pdiv (p ^ c) s).getD j 0 = p ^ j * (tay r f.length f).getD j 0 := fun j => by
    rw [← pdiv_get hc.1, seen_get h]
  have hcm : m ≤ c := by
    refine fac_le (p := p) (u := (pdiv (p ^ c) s).getD m 0) (v := (tay r f.length f).getD m 0) hp ?_ hm.1
    have := g m
    rw [Int.mul_comm, this, Int.mul_comm]
  refine tay_van m f.length f (by omega) fun j hj => ?_
  have e := g j
  obtain ⟨d, rfl⟩ : ∃ d, c = j + (d + 1) := ⟨c - j - 1, by omega⟩
  rw [pow_add', Int.mul_assoc] at e
  have q0 := pow_pos hp j
  have e2 := Int.eq_of_mul_eq_mul_left (show p ^ j ≠ 0 by omega) e
  rw [← e2, Int.pow_succ, Int.mul_assoc]
  exact dvd_mul_l _ (by simp)
theorem degP_ex {p : Int} : ∀ (g : List Int), (∃ x, x ∈ g ∧ x % p ≠ 0) → ∃ m, m < g.length ∧ DegP p g m
  | [], h => by obtain ⟨x, hx, _⟩ := h; cases hx
  | a :: g, h => by
    by_cases w : ∃ x, x ∈ g ∧ x % p ≠ 0
    · obtain ⟨m, hm, h1, h2⟩ := degP_ex g w
      refine ⟨m + 1, by simp; omega, by simpa using h1, fun j hj => ?_⟩
      cases j with
      | zero => omega
      | succ j => simpa using h2 j (by omega)
    · obtain ⟨x, hx, hn⟩ := h
      have hx' : x = a := by
        rcases List.mem_cons.mp hx with z | z
        · exact z
        · exact absurd ⟨x, z, hn⟩ w
      subst hx'
      refine ⟨0, by simp, by simpa using hn, fun j hj => ?_⟩
      cases j with
      | zero => omega
      | succ j =>
        simp only [List.getD_cons_succ]
        rw [List.getD_eq_getElem?_getD]
        cases e : g[j]? with
        | none => simp
        | some y => exact Decidable.byContradiction fun z => w ⟨y, List.mem_of_getElem? e, z⟩
theorem cont_free {p : Int} {g : List Int} {c : Nat} (hc : IsCont p g c) : ∃ x, x ∈ pdiv (p ^ c) g ∧ x % p ≠ 0 := by
  obtain ⟨x, hx, hn⟩ := hc.2
  exact ⟨x / p ^ c, List.mem_map_of_mem hx, hn⟩
def Cnt (p : Int) (g : List Int) (k : Nat) : Prop := (∀ c m, IsCont p g c → DegP p (pdiv (p ^ c) g) m → k ≤ max 1 m) ∧ k ≤ max 1 g.length
def Got (p : Int) (f : List Int) (rs : List Int) (k : Nat) : Prop := ∃ L : List (Int × Nat), L.map (·.1) = rs ∧ k ≤ total L ∧ ∀ rk, rk ∈ L → Van p f rk.1 rk.2
def Lt2 (b c : Int × Nat) : Prop := b.1 < c.1 ∨ (b.1 = c.1 ∧ b.2 < c.2)
structure Solve (p : Int) (Sol : Int → Prop) (bs : List (Int × Nat)) : Prop where
  tree : Tree p 0 0 Sol bs
  inc : bs.Pairwise Lt2
end Dr
namespace Dr
def l1 : List Int → Nat
  | [] => 0
  | a :: f => a.natAbs + l1 f
theorem l1_padd : ∀ f g : List Int, l1 (padd f g) ≤ l1 f + l1 g
  | [], g => by simp [padd, l1]
  | a :: f, [] => by simp [padd, l1]
  | a :: f, b :: g => by
    have := l1_padd f g
    simp only [padd, l1]
    omega
theorem l1_map (k : Int) : ∀ f : List Int, l1 (f.map (k * ·)) = k.natAbs * l1 f
  | [] => by simp [l1]
  | a :: f => by
    have := l1_map k f
    simp only [List.map_cons, l1, this, Int.natAbs_mul]
    rw [Nat.mul_add]
theorem l1_mem : ∀ {f : List Int} {c : Int}, c ∈ f → c.natAbs ≤ l1 f
  | a :: f, c, h => by
    rcases List.mem_cons.mp h with z | z
    · rw [z]; simp only [l1]; omega
    · have := l1_mem z
      simp only [l1]
      omega
def sn (r q : Int) : List Int → List Int
  | [] => []
  | a :: f => padd [a] (padd ((sn r q f).map (r * ·)) (0 :: (sn r q f).map (q * ·)))
theorem sn_len (r q : Int) : ∀ f : List Int, (sn r q f).length = f.length
  | [] => rfl
  | a :: f => by
    have := sn_len r q f
    simp only [sn, padd_len, List.length_map, List.length_cons, List.length_nil, this]
    omega
theorem sn_ev (r q y : Int) : ∀ f : List Int, pev (sn r q f) y = pev f (r + q * y)
  | [] => by simp [sn, pev]
  | a :: f => by
    have := sn_ev r q y f
    simp only [sn, padd_ev, pev, pev_map, this]
    grind
theorem sn_l1 {r q : Int} {m : Nat} : ∀ {f : List Int}, PolyB f m → l1 (sn r q f) < 2 ^ m * (r.natAbs + q.natAbs + 1) ^ f.length
  | [], _ => by
    simp only [sn, l1, List.length_nil, Nat.pow_zero, Nat.mul_one]
    exact Nat.pow_pos (by decide)
  | a :: f, h => by
    have ih := sn_l1 (r := r) (q := q) (f := f) fun c hc => h c (List.mem_cons_of_mem _ hc)
    have ha : a.natAbs < 2 ^ m := h a (List.mem_cons_self ..)
    have h1 := l1_padd [a] (padd ((sn r q f).map (r * ·)) (0 :: (sn r q f).map (q * ·)))
    have h2 := l1_padd ((sn r q f).map (r * ·)) (0 :: (sn r q f).map (q * ·))
    simp only [l1, l1_map, Int.natAbs_zero, Nat.zero_add, Nat.add_zero] at h1 h2
    have h3 : 0 < (r.natAbs + q.natAbs + 1) ^ f.length := Nat.pow_pos (by omega)
    simp only [sn, List.length_cons, Nat.pow_succ]
    generalize (r.natAbs + q.natAbs + 1) ^ f.length = B at ih h3 ⊢
    generalize l1 (sn r q f) = L at ih h1 h2 ⊢
    have e : 2 ^ m * (B * (r.natAbs + q.natAbs + 1)) = (r.natAbs + q.natAbs) * (2 ^ m * B) + 2 ^ m * B := by
      rw [← Nat.mul_assoc, Nat.mul_add, Nat.mul_one, Nat.mul_comm (2 ^ m * B)]
    rw [e]
    have h4 : (r.natAbs + q.natAbs) * L ≤ (r.natAbs + q.natAbs) * (2 ^ m * B) := Nat.mul_le_mul_left _ (Nat.le_of_lt ih)
    have h5 : 2 ^ m ≤ 2 ^ m * B := Nat.le_mul_of_pos_right _ h3
    rw [Nat.add_mul] at h4
    omega
theorem seen_bits {f s : List Int} {r q : Int} {m : Nat} (h : IsSeen f r q s) (hr : 0 ≤ r ∧ r < 100) (hq : 0 ≤ q ∧ q < 100) (hb : PolyB f m) : PolyB s (m + 8 * f.length) := by
  have e : s = sn r q f := pev_inj (by rw [sn_len]; exact h.len) fun y => by rw [h.ev, sn_ev]
  intro c hc
  rw [e] at hc
  have h1 := l1_mem hc
  have h2 := sn_l1 (r := r) (q := q) hb
  unfold Sm
  rw [Nat.pow_add, Nat.pow_mul]
  refine Nat.lt_of_le_of_lt h1 (Nat.lt_of_lt_of_le h2 (Nat.mul_le_mul_left _ (Nat.pow_le_pow_left (by omega) _)))
theorem pdiv_bits {f : List Int} {q : Int} {m : Nat} (hq : 0 < q) (hf : ∀ x, x ∈ f → x % q = 0) (hb : PolyB f m) : PolyB (pdiv q f) m := by
  intro c hc
  obtain ⟨x, hx, rfl⟩ := List.mem_map.mp hc
  have e := Int.mul_ediv_add_emod x q
  rw [hf x hx, Int.add_zero] at e
  have h1 := hb x hx
  unfold Sm at *
  have h2 : x.natAbs = q.natAbs * (x / q).natAbs := by rw [← Int.natAbs_mul, e]
  have h3 : 1 * (x / q).natAbs ≤ q.natAbs * (x / q).natAbs := Nat.mul_le_mul_right _ (by omega)
  omega
theorem mul_pow_dv {p x : Int} {c N : Nat} (hp : 2 ≤ p) (hcN : c ≤ N) : (p ^ c * x) % p ^ N = 0 ↔ x % p ^ (N - c) = 0 := by
  obtain ⟨d, rfl⟩ : ∃ d, N = c + d := ⟨N - c, by omega⟩
  rw [Nat.add_sub_cancel_left, pow_add']
  have q0 := pow_pos hp c
  constructor
  · intro h
    obtain ⟨k, e⟩ := Int.dvd_of_emod_eq_zero h
    rw [Int.mul_assoc] at e
    rw [Int.eq_of_mul_eq_mul_left (by omega) e]
    simp
  · intro h
    obtain ⟨k, e⟩ := Int.dvd_of_emod_eq_zero h
    rw [e, ← Int.mul_assoc]
    simp
structure Step (p a : Int) (e N c : Nat) (Sol : Int → Prop) (g : List Int) : Prop where
  cN : c < N
  non : ∃ x, (x - a) % p ^ e = 0 ∧ ¬ Sol x
  link : ∀ y, Sol (a + p ^ e * y) ↔ pev (pdiv (p ^ c) g) y % p ^ (N - c) = 0
theorem seen_dv {p r : Int} {f s : List Int} (h : IsSeen f r p s) (hr : pev f r % p = 0) : ∀ x, x ∈ s → x % p = 0 := by
  intro x hx
  obtain ⟨j, hj, e⟩ := List.getElem_of_mem hx
  have e1 : s.getD j 0 = x := by rw [List.getD_eq_getElem?_getD, List.getElem?_eq_getElem hj, e]; rfl
  have g := seen_get h j
  rw [e1] at g
  rw [g]
  cases j with
  | zero =>
    have hl : 0 < f.length := by rw [← h.len]; omega
    cases hf : f.length with
    | zero => omega
    | succ n =>
      simp only [tay, List.getD_cons_zero, Int.pow_zero, Int.one_mul]
      exact hr
  | succ j =>
    rw [Int.pow_succ, Int.mul_assoc]
    exact dvd_mul_l _ (by simp)
theorem ball_next {p a r : Int} {e : Nat} (hp : 2 ≤ p) (ha : 0 ≤ a ∧ a < p ^ e) (hr : 0 ≤ r ∧ r < p) : 0 ≤ a + r * p ^ e ∧ a + r * p ^ e < p ^ (e + 1) := by
  have q0 := pow_pos hp e
  rw [Int.pow_succ]
  generalize p ^ e = A at *
  have h1 : 0 ≤ r * A := Int.mul_nonneg hr.1 (by omega)
  have h2 : (r + 1) * A ≤ p * A := Int.mul_le_mul_of_nonneg_right (by omega) (by omega)
  rw [Int.add_mul, Int.one_mul] at h2
  rw [Int.mul_comm A p]
  omega
theorem rests_apart {p : Int} {n : Nat} (q : Int → Bool) (hn : (n : Int) ≤ p) : (((List.range n).map fun k : Nat => (k : Int)).filter q).Pairwise (fun r s => (s - r) % p ≠ 0) := by
  refine List.Pairwise.filter q ?_
  rw [List.pairwise_map]
  refine (List.pairwise_lt_range (n := n)).imp_of_mem fun {i j} hi hj hij => ?_
  have h1 := List.mem_range.mp hi
  have h2 := List.mem_range.mp hj
  rw [Int.emod_eq_of_lt (by omega) (by omega)]
  omega
end Dr
namespace Dr
instance (p x : Int) (b : Int × Nat) : Decidable (InB p x b) := inferInstanceAs (Decidable ((x - b.1) % p ^ b.2 = 0))
def cntP (P : Int → Bool) : Nat → Nat
  | 0 => 0
  | n + 1 => cntP P n + (if P (n : Int) = true then 1 else 0)
def massOf (p : Int) (M : Nat) (bs : List (Int × Nat)) : Nat := (bs.map fun b => p.toNat ^ (M - b.2)).sum
def inAny (p : Int) (bs : List (Int × Nat)) (x : Int) : Bool := bs.any fun b => decide (InB p x b)
def Within (p : Int) (d b : Int × Nat) : Prop := b.2 ≤ d.2 ∧ (d.1 - b.1) % p ^ b.2 = 0
instance (p : Int) (d b : Int × Nat) : Decidable (Within p d b) := inferInstanceAs (Decidable (_ ∧ _))
end Dr
namespace Dr
end Dr
namespace Dr
def shB (p s : Int) (b : Int × Nat) : Int × Nat := ((b.1 - s) % p ^ b.2, b.2)
theorem unit_dv {p u w : Int} (hp : p ∈ primes) (hu : u % p ≠ 0) (N : Nat) : (u * w) % p ^ N = 0 ↔ w % p ^ N = 0 := by
  have p2 := (primes_ge hp).1
  constructor
  · intro h
    by_cases z : w = 0
    · rw [z]; simp
    · obtain ⟨d, v, hf⟩ := fac p2 z
      have hu' : Fac p u 0 u := ⟨by simp, hu⟩
      have hm := hu'.mul hp hf
      rw [Nat.zero_add] at hm
      exact (hf.dvd p2 N).mpr ((hm.dvd p2 N).mp h)
  · intro h
    exact dvd_mul_l _ h
end Dr
namespace Dr
def Deep (p : Int) : Nat → List Int → Prop
  | 0, _ => True
  | n + 1, s => ∃ (c : Nat) (r : Int) (t : List Int), IsCont p s c ∧ (0 ≤ r ∧ r < p) ∧ pev (pdiv (p ^ c) s) r % p = 0 ∧ pdv (pdiv (p ^ c) s) r % p = 0 ∧ IsSeen (pdiv (p ^ c) s) r p t ∧ Deep p n t
structure RootAt (p : Int) (g : List Int) (r : Int) (M : Nat) (x : Int) : Prop where
  lo : 0 ≤ x
  hi : x < p ^ M
  near : M = 0 ∨ (x - r) % p = 0
  deep : pev g x % p ^ M = 0
inductive FL (p : Int) (N : Nat) (rec : Int → Nat → List Int → List Int → Prop) (a : Int) (e : Nat) (g : List Int) : List Int → List Int → Prop
  | nil : FL p N rec a e g [] []
  | knot {rs L L1 t : List Int} {r : Int} : FL p N rec a e g rs L → pdv g r % p = 0 → IsSeen g r p t → rec (a + r * p ^ e) (e + 1) t L1 → FL p N rec a e g (rs ++ [r]) (L ++ L1)
  | leaf {rs L : List Int} {r x : Int} : FL p N rec a e g rs L → pdv g r % p ≠ 0 → RootAt p g r (N - e) x → FL p N rec a e g (rs ++ [r]) (L ++ [(a + p ^ e * x) % p ^ N])
def restsP (p : Int) (g : List Int) : List Int := ((List.range p.toNat).map fun k : Nat => (k : Int)).filter fun r => decide (pev g r % p = 0)
theorem restsP_mem {p r : Int} {g : List Int} (hp : 0 ≤ p) : r ∈ restsP p g ↔ (0 ≤ r ∧ r < p) ∧ pev g r % p = 0 := by
  unfold restsP
  rw [List.mem_filter, List.mem_map, decide_eq_true_eq]
  constructor
  · rintro ⟨⟨k, hk, rfl⟩, h⟩
    have := List.mem_range.mp hk
    exact ⟨by omega, h⟩
  · rintro ⟨h1, h2⟩
    exact ⟨⟨r.toNat, List.mem_range.mpr (by omega), by omega⟩, h2⟩
def Found (p : Int) (N : Nat) : Nat → Int → Nat → List Int → List Int → Prop
  | 0, _, _, _, _ => False
  | n + 1, a, e, s, L => ∃ c : Nat, IsCont p s c ∧ FL p N (Found p N n) a e (pdiv (p ^ c) s) (restsP p (pdiv (p ^ c) s)) L
def lin (w : Int × Int) : List Int := [-w.1, w.2]
def PL (F : List Int) : List (Int × Int) → List Int
  | [] => F
  | w :: W => pmul (lin w) (PL F W)
def Un (p : Int) (F : List Int) : Prop := 0 < F.length ∧ ∀ y, pev F y % p ≠ 0
structure Fct (p : Int) (s : List Int) (W : List (Int × Int)) : Prop where
  ex : ∃ (K : Int) (F : List Int), K ≠ 0 ∧ Un p F ∧ s = (PL F W).map (K * ·)
  un : ∀ w, w ∈ W → w.2 % p ≠ 0
def hits (p r : Int) (W : List (Int × Int)) : List (Int × Int) := W.filter fun w => decide ((w.2 * r - w.1) % p = 0)
def shw (p r : Int) (w : Int × Int) : Int × Int := ((w.1 - w.2 * r) / p, w.2)
def Apart (p : Int) (n : Nat) (W : List (Int × Int)) : Prop := W.Pairwise fun u v => (u.1 * v.2 - v.1 * u.2) % p ^ n ≠ 0
theorem p_dv {p x : Int} {n : Nat} (hp : 2 ≤ p) : (p * x) % p ^ (n + 1) = 0 ↔ x % p ^ n = 0 := by
  have := mul_pow_dv (p := p) (x := x) (c := 1) (N := n + 1) hp (by omega)
  rw [Nat.add_sub_cancel, Int.pow_succ, Int.pow_zero, Int.one_mul] at this
  exact this
end Dr
namespace Dr
def vl (p : Int) (N : Nat) (β : Int → Int) (a : Int) (e : Nat) (w : Int × Int) : Int := (a + p ^ e * (w.1 * β w.2)) % p ^ N
theorem emod_same {x y q : Int} (h : (x - y) % q = 0) : x % q = y % q := Int.emod_emod_of_dvd x (Int.dvd_refl q) ▸ (Int.emod_emod_of_dvd y (Int.dvd_refl q) ▸ (by
  obtain ⟨k, e⟩ := Int.dvd_of_emod_eq_zero h
  rw [show x = y + q * k by omega, Int.add_mul_emod_self_left]))
theorem pev_noughts {y : Int} : ∀ {f : List Int}, (∀ x, x ∈ f → x = 0) → pev f y = 0
  | [], _ => rfl
  | a :: f, h => by
    simp only [pev]
    rw [h a (List.mem_cons_self ..), pev_noughts fun x hx => h x (List.mem_cons_of_mem _ hx)]
    simp
theorem seen_ne {f s : List Int} {r q : Int} (hq : q ≠ 0) (h : IsSeen f r q s) (hf : ∃ x, x ∈ f ∧ x ≠ 0) : ∃ x, x ∈ s ∧ x ≠ 0 := by
  refine Classical.byContradiction fun z => ?_
  have z0 : ∀ x, x ∈ s → x = 0 := fun x hx => Classical.byContradiction fun w => z ⟨x, hx, w⟩
  have t0 : ∀ j, (tay r f.length f).getD j 0 = 0 := fun j => by
    have e := seen_get h j
    have : s.getD j 0 = 0 := by
      rw [List.getD_eq_getElem?_getD]
      cases w : s[j]? with
      | none => rfl
      | some x => exact z0 x (List.mem_of_getElem? w)
    rw [this] at e
    exact (Int.mul_eq_zero.mp e.symm).resolve_left (Int.pow_ne_zero hq)
  have t1 : ∀ x, x ∈ tay r f.length f → x = 0 := fun x hx => by
    obtain ⟨i, hi, e⟩ := List.getElem_of_mem hx
    have := t0 i
    rw [List.getD_eq_getElem?_getD, List.getElem?_eq_getElem hi] at this
    rw [← e]
    exact this
  have e : f = List.replicate f.length 0 := pev_inj (by rw [List.length_replicate]) fun x => by
    rw [pev_zeros]
    have := tay_ev r (x - r) f.length f (Nat.le_refl _)
    rw [show r + (x - r) = x by omega] at this
    rw [← this]
    exact pev_noughts t1
  obtain ⟨x, hx, x0⟩ := hf
  rw [e] at hx
  exact x0 (List.mem_replicate.mp hx).2
end Dr
namespace Dr
theorem near_uniq {p r x y : Int} {g : List Int} {M : Nat} (hp : p ∈ primes) (hr : pdv g r % p ≠ 0) (hx : (x - r) % p = 0) (hy : (y - r) % p = 0) (h : (pev g x - pev g y) % p ^ M = 0) : (x - y) % p ^ M = 0 := by
  obtain ⟨R, e⟩ := taylor y (x - y) g
  rw [show y + (x - y) = x by omega] at e
  have h1 : (pdv g y - pdv g r) % p = 0 := pdv_cong g hy
  have h2 : (x - y) % p = 0 := by
    have := dvd_sub_of hx hy
    rwa [show x - r - (y - r) = x - y by omega] at this
  have hu : (pdv g y + (x - y) * R) % p ≠ 0 := fun z => by
    apply hr
    have := dvd_sub_of (dvd_sub_of z (dvd_mul_r R h2)) h1
    rwa [show pdv g y + (x - y) * R - (x - y) * R - (pdv g y - pdv g r) = pdv g r by omega] at this
  rw [show pev g x - pev g y = (pdv g y + (x - y) * R) * (x - y) by rw [e]; grind] at h
  exact (unit_dv hp hu _).mp h
theorem same_of {p x y : Int} {M : Nat} (hx : 0 ≤ x ∧ x < p ^ M) (hy : 0 ≤ y ∧ y < p ^ M) (h : (x - y) % p ^ M = 0) : x = y := by
  have := emod_same h
  rwa [Int.emod_eq_of_lt hx.1 hx.2, Int.emod_eq_of_lt hy.1 hy.2] at this
theorem RootAt.uniq {p r x y : Int} {g : List Int} {M : Nat} (hp : p ∈ primes) (hr : pdv g r % p ≠ 0) (h : RootAt p g r M x) (h' : RootAt p g r M y) : x = y := by
  refine same_of ⟨h.lo, h.hi⟩ ⟨h'.lo, h'.hi⟩ ?_
  rcases h.near with z | z
  · rw [z]; simp
  · rcases h'.near with w | w
    · rw [w]; simp
    · exact near_uniq hp hr z w (dvd_sub_of h.deep h'.deep)
theorem FL.at {p a r : Int} {N e : Nat} {rec : Int → Nat → List Int → List Int → Prop} {g : List Int} : ∀ {rs L : List Int}, FL p N rec a e g rs L → r ∈ rs → ∃ L1, (∀ x, x ∈ L1 → x ∈ L) ∧ ((pdv g r % p = 0 ∧ ∃ t, IsSeen g r p t ∧ rec (a + r * p ^ e) (e + 1) t L1) ∨ (pdv g r % p ≠ 0 ∧ ∃ x, RootAt p g r (N - e) x ∧ L1 = [(a + p ^ e * x) % p ^ N])) := by
  intro rs L fl
  induction fl with
  | nil => intro h; cases h
  | @knot rs L L1 t s fl0 h1 h2 h3 ih =>
    intro h
    rcases List.mem_append.mp h with z | z
    · obtain ⟨K, hk, o⟩ := ih z
      exact ⟨K, fun x hx => List.mem_append_left _ (hk x hx), o⟩
    · obtain rfl := List.mem_singleton.mp z
      exact ⟨L1, fun x hx => List.mem_append_right _ hx, .inl ⟨h1, t, h2, h3⟩⟩
  | @leaf rs L s x fl0 h1 h2 ih =>
    intro h
    rcases List.mem_append.mp h with z | z
    · obtain ⟨K, hk, o⟩ := ih z
      exact ⟨K, fun x hx => List.mem_append_left _ (hk x hx), o⟩
    · obtain rfl := List.mem_singleton.mp z
      exact ⟨_, fun x hx => List.mem_append_right _ hx, .inr ⟨h1, x, h2, rfl⟩⟩
theorem Found.not_deep {p : Int} {N : Nat} (hp : 2 ≤ p) : ∀ {n : Nat} {a : Int} {e : Nat} {s L : List Int}, Found p N n a e s L → ¬ Deep p n s
  | 0, _, _, _, _, h, _ => h
  | n + 1, a, e, s, L, h, hd => by
    obtain ⟨c, hc, fl⟩ := h
    obtain ⟨c', r, t, hc', hr, h1, h2, ht, hn⟩ := hd
    have ec := hc'.uniq hp hc
    subst ec
    obtain ⟨L1, _, o⟩ := fl.at ((restsP_mem (by omega)).mpr ⟨hr, h1⟩)
    rcases o with ⟨_, t', ht', hf⟩ | ⟨n0, _⟩
    · rw [ht'.uniq ht] at hf
      exact hf.not_deep hp hn
    · exact n0 h2
theorem FL.len {p a : Int} {N n e : Nat} {g : List Int} (hp : 2 ≤ p) (IH : ∀ {a : Int} {e : Nat} {s L : List Int}, Found p N n a e s L → ∀ (c m : Nat), IsCont p s c → DegP p (pdiv (p ^ c) s) m → L.length ≤ m) : ∀ {rs L : List Int}, FL p N (Found p N n) a e g rs L → (∀ r, r ∈ rs → pev g r % p = 0) → ∃ R : List (Int × Nat), R.map (·.1) = rs ∧ L.length ≤ total R ∧ ∀ rk, rk ∈ R → Van p g rk.1 rk.2 := by
  intro rs L fl
  induction fl with
  | nil => intro _; exact ⟨[], rfl, by simp, fun _ h => nomatch h⟩
  | @knot rs L L1 t s fl0 h1 h2 h3 ih =>
    intro h
    obtain ⟨R, e1, e2, e3⟩ := ih fun r hr => h r (List.mem_append_left _ hr)
    obtain ⟨c, m, hc, hm, hl⟩ : ∃ c m, IsCont p t c ∧ DegP p (pdiv (p ^ c) t) m ∧ L1.length ≤ m := by
      have : ∃ c, IsCont p t c := by
        cases n with
        | zero => exact h3.elim
        | succ n => obtain ⟨c, hc, _⟩ := h3; exact ⟨c, hc⟩
      obtain ⟨c, hc⟩ := this
      obtain ⟨m, _, hm⟩ := degP_ex _ (cont_free hc)
      exact ⟨c, m, hc, hm, IH h3 c m hc hm⟩
    refine ⟨R ++ [(s, m)], by rw [List.map_append, e1]; rfl, ?_, fun rk hrk => ?_⟩
    · unfold total at e2 ⊢
      rw [List.length_append, List.map_append, List.sum_append]
      simp only [List.map_cons, List.map_nil, List.sum_cons, List.sum_nil]
      omega
    · rcases List.mem_append.mp hrk with z | z
      · exact e3 rk z
      · rw [List.mem_singleton.mp z]
        exact seen_van hp h2 hc hm
  | @leaf rs L s x fl0 h1 h2 ih =>
    intro h
    obtain ⟨R, e1, e2, e3⟩ := ih fun r hr => h r (List.mem_append_left _ hr)
    refine ⟨R ++ [(s, 1)], by rw [List.map_append, e1]; rfl, ?_, fun rk hrk => ?_⟩
    · unfold total at e2 ⊢
      rw [List.length_append, List.map_append, List.sum_append]
      simp only [List.map_cons, List.map_nil, List.sum_cons, List.sum_nil, List.length_cons, List.length_nil]
      omega
    · rcases List.mem_append.mp hrk with z | z
      · exact e3 rk z
      · rw [List.mem_singleton.mp z]
        exact ⟨h s (by simp), trivial⟩
theorem Found.len {p : Int} {N : Nat} (hp : p ∈ primes) : ∀ {n : Nat} {a : Int} {e : Nat} {s L : List Int}, Found p N n a e s L → ∀ (c m : Nat), IsCont p s c → DegP p (pdiv (p ^ c) s) m → L.length ≤ m
  | 0, _, _, _, _, h => h.elim
  | n + 1, a, e, s, L, h => fun c m hc hm => by
    have p2 := primes_ge hp
    obtain ⟨c', hc', fl⟩ := h
    have ec := hc'.uniq (by omega) hc
    subst ec
    obtain ⟨R, e1, e2, e3⟩ := FL.len (by omega) (fun h => Found.len hp h) fl fun r hr => ((restsP_mem (by omega)).mp hr).2
    have := noughts hp m _ R hm (by rw [e1]; exact rests_apart _ (by omega)) e3
    omega
theorem Found.few {p : Int} {N n e : Nat} {a : Int} {s L : List Int} (hp : p ∈ primes) (h : Found p N n a e s L) : L.length < s.length := by
  obtain ⟨c, hc⟩ : ∃ c, IsCont p s c := by
    cases n with
    | zero => exact h.elim
    | succ n => obtain ⟨c, hc, _⟩ := h; exact ⟨c, hc⟩
  obtain ⟨m, hl, hm⟩ := degP_ex _ (cont_free hc)
  have := h.len hp c m hc hm
  rw [pdiv_len] at hl
  omega
structure Lim (p : Int) (s : List Int) (η : Nat → Int) : Prop where
  coh : ∀ M, (η (M + 1) - η M) % p ^ M = 0
  root : ∀ M, pev s (η M) % p ^ M = 0
theorem Lim.up {p : Int} {s : List Int} {η : Nat → Int} (h : Lim p s η) (M : Nat) : ∀ k, (η (M + k) - η M) % p ^ M = 0
  | 0 => by simp
  | k + 1 => by
    have h1 := dvd_of_le (p := p) (h.coh (M + k)) (show M ≤ M + k by omega)
    have := dvd_add_of h1 (h.up M k)
    rwa [show η (M + k + 1) - η (M + k) + (η (M + k) - η M) = η (M + (k + 1)) - η M by rw [Nat.add_assoc]; omega] at this
theorem Lim.free {p : Int} {s : List Int} {η : Nat → Int} {c : Nat} (hp : 2 ≤ p) (h : Lim p s η) (hc : IsCont p s c) : Lim p (pdiv (p ^ c) s) η := by
  refine ⟨h.coh, fun M => ?_⟩
  have h1 := h.root (M + c)
  rw [pdiv_ev hc.all, mul_pow_dv hp (by omega), Nat.add_sub_cancel] at h1
  have h2 := pev_cong (pdiv (p ^ c) s) (h.up M c)
  have := dvd_sub_of h1 h2
  rwa [show pev (pdiv (p ^ c) s) (η (M + c)) - (pev (pdiv (p ^ c) s) (η (M + c)) - pev (pdiv (p ^ c) s) (η M)) = pev (pdiv (p ^ c) s) (η M) by omega] at this
def sub1 (p r : Int) (η : Nat → Int) (M : Nat) : Int := (η (M + 1) - r) / p
theorem Lim.sub {p r : Int} {g : List Int} {η : Nat → Int} (h : Lim p g η) (hr : (η 1 - r) % p = 0) (M : Nat) : η (M + 1) = r + p * sub1 p r η M := by
  have h1 := h.up 1 M
  rw [Int.pow_succ, Int.pow_zero, Int.one_mul, Nat.add_comm 1 M] at h1
  have h2 := dvd_add_of h1 hr
  rw [show η (M + 1) - η 1 + (η 1 - r) = η (M + 1) - r by omega] at h2
  have e := Int.mul_ediv_add_emod (η (M + 1) - r) p
  rw [h2] at e
  unfold sub1
  omega
theorem Lim.seen {p r : Int} {g t : List Int} {η : Nat → Int} (hp : 2 ≤ p) (h : Lim p g η) (hr : (η 1 - r) % p = 0) (ht : IsSeen g r p t) : Lim p t (sub1 p r η) := by
  refine ⟨fun M => ?_, fun M => ?_⟩
  · have := h.coh (M + 1)
    rw [h.sub hr, h.sub hr, show r + p * sub1 p r η (M + 1) - (r + p * sub1 p r η M) = p * (sub1 p r η (M + 1) - sub1 p r η M) by rw [Int.mul_sub]; omega] at this
    exact (p_dv hp).mp this
  · rw [ht.ev, ← h.sub hr]
    exact dvd_of_le (h.root (M + 1)) (by omega)
theorem Lim.rest {p : Int} {g : List Int} {η : Nat → Int} (hp : 2 ≤ p) (h : Lim p g η) : η 1 % p ∈ restsP p g := by
  refine (restsP_mem (by omega)).mpr ⟨⟨Int.emod_nonneg _ (by omega), Int.emod_lt_of_pos _ (by omega)⟩, ?_⟩
  have h1 := h.root 1
  rw [Int.pow_succ, Int.pow_zero, Int.one_mul] at h1
  have h2 := pev_cong g (rest_sub p (η 1))
  have := dvd_add_of h2 h1
  rwa [Int.sub_add_cancel] at this
def lv (p : Int) (N : Nat) (a : Int) (e : Nat) (η : Nat → Int) : Int := (a + p ^ e * η (N - e)) % p ^ N
theorem lv_sub {p r a : Int} {N e : Nat} {g : List Int} {η : Nat → Int} (h : Lim p g η) (hr : (η 1 - r) % p = 0) : lv p N (a + r * p ^ e) (e + 1) (sub1 p r η) = lv p N a e η := by
  unfold lv
  refine emod_same ?_
  by_cases c : e < N
  · obtain ⟨k, rfl⟩ : ∃ k, N = e + k + 1 := ⟨N - e - 1, by omega⟩
    rw [show e + k + 1 - (e + 1) = k by omega, show e + k + 1 - e = k + 1 by omega, h.sub hr, Int.pow_succ p e]
    rw [show a + r * p ^ e + p ^ e * p * sub1 p r η k - (a + p ^ e * (r + p * sub1 p r η k)) = 0 by grind]
    simp
  · have d := pow_dv (p := p) (show N ≤ e by omega)
    rw [Int.pow_succ p e, show a + r * p ^ e + p ^ e * p * sub1 p r η (N - (e + 1)) - (a + p ^ e * η (N - e)) = p ^ e * (r + p * sub1 p r η (N - (e + 1)) - η (N - e)) by grind]
    exact dvd_mul_r _ d
theorem lv_leaf {p r a x : Int} {N e : Nat} {g : List Int} {η : Nat → Int} (hp : p ∈ primes) (h : Lim p g η) (hr : (η 1 - r) % p = 0) (hn : pdv g r % p ≠ 0) (hR : RootAt p g r (N - e) x) : (a + p ^ e * x) % p ^ N = lv p N a e η := by
  unfold lv
  refine emod_same ?_
  have key : (x - η (N - e)) % p ^ (N - e) = 0 := by
    rcases hR.near with z | z
    · rw [z]; simp
    · by_cases c : N - e = 0
      · rw [c]; simp
      · have h1 := h.up 1 (N - e - 1)
        rw [Int.pow_succ, Int.pow_zero, Int.one_mul, show 1 + (N - e - 1) = N - e by omega] at h1
        have h2 := dvd_add_of h1 hr
        rw [show η (N - e) - η 1 + (η 1 - r) = η (N - e) - r by omega] at h2
        exact near_uniq hp hn z h2 (dvd_sub_of hR.deep (h.root _))
  obtain ⟨k, ek⟩ := Int.dvd_of_emod_eq_zero key
  rw [show a + p ^ e * x - (a + p ^ e * η (N - e)) = p ^ (e + (N - e)) * k by rw [pow_add', Int.mul_assoc, ← ek]; grind]
  exact dvd_mul_r k (pow_dv (by omega))
theorem Found.mem {p : Int} {N : Nat} (hp : p ∈ primes) : ∀ {n : Nat} {a : Int} {e : Nat} {s L : List Int} {η : Nat → Int}, Found p N n a e s L → Lim p s η → lv p N a e η ∈ L
  | 0, _, _, _, _, _, h, _ => h.elim
  | n + 1, a, e, s, L, η, h, hl => by
    have p2 := primes_ge hp
    have p2' : 2 ≤ p := by omega
    obtain ⟨c, hc, fl⟩ := h
    have hg := hl.free p2' hc
    have hr := rest_sub p (η 1)
    have hr' : (η 1 - η 1 % p) % p = 0 := by
      have := dvd_mul_l (-1) hr
      rwa [show -1 * (η 1 % p - η 1) = η 1 - η 1 % p by omega] at this
    obtain ⟨L1, hL, o⟩ := fl.at (hg.rest p2')
    rcases o with ⟨_, t, ht, hf⟩ | ⟨n0, x, hx, rfl⟩
    · have := Found.mem hp hf (hg.seen p2' hr' ht)
      rw [lv_sub hg hr'] at this
      exact hL _ this
    · have := hL _ (List.mem_singleton.mpr rfl)
      rw [lv_leaf hp hg hr' n0 hx] at this
      exact this
theorem FL.of {p a : Int} {N e : Nat} {rec : Int → Nat → List Int → List Int → Prop} {g : List Int} : ∀ {rs L : List Int}, FL p N rec a e g rs L → ∀ {x : Int}, x ∈ L → ∃ r, r ∈ rs ∧ ((pdv g r % p = 0 ∧ ∃ t L1, IsSeen g r p t ∧ rec (a + r * p ^ e) (e + 1) t L1 ∧ x ∈ L1) ∨ (pdv g r % p ≠ 0 ∧ ∃ y, RootAt p g r (N - e) y ∧ x = (a + p ^ e * y) % p ^ N)) := by
  intro rs L fl
  induction fl with
  | nil => intro x h; cases h
  | @knot rs L L1 t s fl0 h1 h2 h3 ih =>
    intro x h
    rcases List.mem_append.mp h with z | z
    · obtain ⟨r, hr, o⟩ := ih z
      exact ⟨r, List.mem_append_left _ hr, o⟩
    · exact ⟨s, by simp, .inl ⟨h1, t, L1, h2, h3, z⟩⟩
  | @leaf rs L s y fl0 h1 h2 ih =>
    intro x h
    rcases List.mem_append.mp h with z | z
    · obtain ⟨r, hr, o⟩ := ih z
      exact ⟨r, List.mem_append_left _ hr, o⟩
    · exact ⟨s, by simp, .inr ⟨h1, y, h2, List.mem_singleton.mp z⟩⟩
theorem Found.sound {p : Int} {N : Nat} {f : List Int} (hp : p ∈ primes) : ∀ {n : Nat} {a : Int} {e k : Nat} {s L : List Int}, Found p N n a e s L → (∀ y, pev f (a + p ^ e * y) = p ^ k * pev s y) → (e = 0 ∨ (e ≤ k + 1 ∧ ∀ x, x ∈ s → x % p = 0)) → ∀ x, x ∈ L → (0 ≤ x ∧ x < p ^ N) ∧ pev f x % p ^ N = 0
  | 0, _, _, _, _, _, h => h.elim
  | n + 1, a, e, k, s, L, h => fun hk hz x hx => by
    have p2 := primes_ge hp
    have p2' : 2 ≤ p := by omega
    have q0 := pow_pos p2' N
    obtain ⟨c, hc, fl⟩ := h
    have hkc : e ≤ k + c := by
      rcases hz with z | ⟨z, dv⟩
      · omega
      · have := hc.le p2' (c' := 1) fun x hx => by rw [Int.pow_succ, Int.pow_zero, Int.one_mul]; exact dv x hx
        omega
    have hg : ∀ y, pev f (a + p ^ e * y) = p ^ (k + c) * pev (pdiv (p ^ c) s) y := fun y => by rw [hk, pdiv_ev hc.all, pow_add', Int.mul_assoc]
    obtain ⟨r, hr, o⟩ := fl.of hx
    obtain ⟨_, hr0⟩ := (restsP_mem (by omega)).mp hr
    rcases o with ⟨_, t, L1, ht, hf, hx1⟩ | ⟨_, y, hy, rfl⟩
    · refine Found.sound hp hf (k := k + c) (fun y => ?_) (.inr ⟨by omega, seen_dv ht hr0⟩) x hx1
      rw [ht.ev, ← hg, Int.pow_succ]
      congr 1
      grind
    · refine ⟨⟨Int.emod_nonneg _ (by omega), Int.emod_lt_of_pos _ q0⟩, ?_⟩
      have h1 : pev f (a + p ^ e * y) % p ^ N = 0 := by
        rw [hg]
        obtain ⟨z, ez⟩ := Int.dvd_of_emod_eq_zero hy.deep
        rw [ez, ← Int.mul_assoc, ← pow_add']
        exact dvd_mul_r z (pow_dv (by omega))
      have h2 := pev_cong f (rest_sub (p ^ N) (a + p ^ e * y))
      have := dvd_add_of h2 h1
      rwa [Int.sub_add_cancel] at this
theorem mod_mod {x p : Int} {M N : Nat} (h : M ≤ N) : x % p ^ N % p ^ M = x % p ^ M := Int.emod_emod_of_dvd x (Int.dvd_of_emod_eq_zero (pow_dv h))
theorem RootAt.low {p r x : Int} {g : List Int} {M M' : Nat} (hp : 2 ≤ p) (h : RootAt p g r M x) (hM : M' ≤ M) : RootAt p g r M' (x % p ^ M') := by
  have q0 := pow_pos hp M'
  have h1 := rest_sub (p ^ M') x
  refine ⟨Int.emod_nonneg _ (by omega), Int.emod_lt_of_pos _ q0, ?_, ?_⟩
  · by_cases c : M' = 0
    · exact .inl c
    · refine .inr ?_
      have h2 := dvd_of_le (p := p) h1 (show 1 ≤ M' by omega)
      rw [Int.pow_succ p 0, Int.pow_zero, Int.one_mul] at h2
      have h3 := h.near.resolve_left (by omega)
      have := dvd_add_of h2 h3
      rwa [show x % p ^ M' - x + (x - r) = x % p ^ M' - r by omega] at this
  · have h2 := pev_cong g h1
    have := dvd_add_of h2 (dvd_of_le (p := p) h.deep hM)
    rwa [Int.sub_add_cancel] at this
theorem FL.low {p a : Int} {N N' e : Nat} {rec rec' : Int → Nat → List Int → List Int → Prop} {g : List Int} (hp : 2 ≤ p) (hN : N' ≤ N) (hrec : ∀ a e s L, rec a e s L → rec' a e s (L.map (· % p ^ N'))) : ∀ {rs L : List Int}, FL p N rec a e g rs L → FL p N' rec' a e g rs (L.map (· % p ^ N')) := by
  intro rs L fl
  induction fl with
  | nil => exact .nil
  | @knot rs L L1 t s fl0 h1 h2 h3 ih =>
    rw [List.map_append]
    exact .knot ih h1 h2 (hrec _ _ _ _ h3)
  | @leaf rs L s y fl0 h1 h2 ih =>
    rw [List.map_append]
    have e2 : [(a + p ^ e * y) % p ^ N].map (· % p ^ N') = [(a + p ^ e * (y % p ^ (N' - e))) % p ^ N'] := by
      simp only [List.map_cons, List.map_nil]
      rw [mod_mod hN]
      congr 1
      refine emod_same ?_
      obtain ⟨k, ek⟩ := Int.dvd_of_emod_eq_zero (rest_sub (p ^ (N' - e)) y)
      rw [show a + p ^ e * y - (a + p ^ e * (y % p ^ (N' - e))) = p ^ (e + (N' - e)) * -k by
        have : y % p ^ (N' - e) = y + p ^ (N' - e) * k := by omega
        rw [this, pow_add']
        grind]
      exact dvd_mul_r _ (pow_dv (by omega))
    rw [e2]
    exact .leaf ih h1 (h2.low hp (by omega))
theorem Found.low {p : Int} {N N' : Nat} (hp : 2 ≤ p) (hN : N' ≤ N) : ∀ {n : Nat} {a : Int} {e : Nat} {s L : List Int}, Found p N n a e s L → Found p N' n a e s (L.map (· % p ^ N'))
  | 0, _, _, _, _, h => h.elim
  | n + 1, a, e, s, L, ⟨c, hc, fl⟩ => ⟨c, hc, fl.low hp hN fun _ _ _ _ h => Found.low hp hN h⟩
theorem FL.fn {p a : Int} {N e : Nat} {rec : Int → Nat → List Int → List Int → Prop} {g : List Int} (hp : p ∈ primes) (hrec : ∀ a e s L L', rec a e s L → rec a e s L' → L = L') : ∀ {rs L : List Int}, FL p N rec a e g rs L → ∀ {rs' L' : List Int}, FL p N rec a e g rs' L' → rs = rs' → L = L' := by
  intro rs L fl
  induction fl with
  | nil =>
    intro rs' L' fl' e
    cases fl' with
    | nil => rfl
    | knot => simp at e
    | leaf => simp at e
  | @knot rs L L1 t s fl0 h1 h2 h3 ih =>
    intro rs' L' fl' e
    cases fl' with
    | nil => simp at e
    | knot f0 g1 g2 g3 =>
      obtain ⟨e1, e2⟩ := List.append_inj' e rfl
      cases e2
      have et := h2.uniq g2
      subst et
      rw [ih f0 e1, hrec _ _ _ _ _ h3 g3]
    | leaf f0 g1 g2 =>
      obtain ⟨e1, e2⟩ := List.append_inj' e rfl
      cases e2
      exact absurd h1 g1
  | @leaf rs L s y fl0 h1 h2 ih =>
    intro rs' L' fl' e
    cases fl' with
    | nil => simp at e
    | knot f0 g1 g2 g3 =>
      obtain ⟨e1, e2⟩ := List.append_inj' e rfl
      cases e2
      exact absurd g1 h1
    | leaf f0 g1 g2 =>
      obtain ⟨e1, e2⟩ := List.append_inj' e rfl
      cases e2
      rw [ih f0 e1, h2.uniq hp h1 g2]
theorem Found.fn {p : Int} {N : Nat} (hp : p ∈ primes) : ∀ {n : Nat} {a : Int} {e : Nat} {s L L' : List Int}, Found p N n a e s L → Found p N n a e s L' → L = L'
  | 0, _, _, _, _, _, h, _ => h.elim
  | n + 1, a, e, s, L, L', ⟨c, hc, fl⟩, ⟨c', hc', fl'⟩ => by
    have p2 := primes_ge hp
    have ec := hc'.uniq (by omega) hc
    subst ec
    exact FL.fn (rec := Found p N n) hp (fun _ _ _ _ _ h h' => Found.fn hp h h') fl fl' rfl
end Dr
namespace Dr
def rho (p : Int) (f : List Int) (a y : Int) (d : Nat) : Nat → Int
  | 0 => a % p ^ (d + 1)
  | k + 1 => rho p f a y d k + -(pev f (rho p f a y d k) / p ^ (d + 1 + k + d)) * y % p * p ^ (d + 1 + k)
theorem rho_root {p : Int} {f : List Int} {a u y : Int} {d : Nat} (hp : 2 ≤ p) (h : Single p f a d u) (hy : (u * y - 1) % p = 0) : ∀ k, Root p f a d (d + 1 + k) (rho p f a y d k)
  | 0 => Root.start hp h
  | k + 1 => Root.step (t := d + 1 + k) hp h hy (Nat.le_add_right ..) (rho_root hp h hy k)
theorem Single.lim {p : Int} {f : List Int} {a u : Int} {d : Nat} (hp : p ∈ primes) (h : Single p f a d u) : ∃ η : Nat → Int, Lim p f η ∧ (∀ M, (η M - a) % p ^ (d + 1) = 0) ∧ (∀ M, d + 1 ≤ M → Root p f a d M (η M)) := by
  have p2 := primes_ge hp
  have p2' : 2 ≤ p := by omega
  obtain ⟨y, _, _, ey⟩ := inv_ex hp h.fac.un
  have hy : (u * y - 1) % p = 0 := by
    have := Int.mul_ediv_add_emod (u * y) p
    rw [ey] at this
    have : u * y - 1 = p * (u * y / p) := by omega
    rw [this]
    simp
  have R := rho_root p2' h hy
  refine ⟨fun M => rho p f a y d (M - (d + 1)), ⟨fun M => ?_, fun M => ?_⟩, fun M => (R _).near, fun M hM => ?_⟩
  · by_cases c : M < d + 1
    · simp only [show M + 1 - (d + 1) = 0 by omega, show M - (d + 1) = 0 by omega]
      simp
    · simp only [show M + 1 - (d + 1) = (M - (d + 1)) + 1 by omega]
      rw [rho]
      have e : d + 1 + (M - (d + 1)) = M := by omega
      rw [e]
      generalize rho p f a y d (M - (d + 1)) = z
      rw [show z + -(pev f z / p ^ (M + d)) * y % p * p ^ M - z = p ^ M * (-(pev f z / p ^ (M + d)) * y % p) by rw [Int.mul_comm (p ^ M)]; omega]
      simp
  · exact dvd_of_le (R (M - (d + 1))).deep (by omega)
  · have := R (M - (d + 1))
    rwa [show d + 1 + (M - (d + 1)) = M by omega] at this
theorem FL.two {p a r s : Int} {N e : Nat} {rec : Int → Nat → List Int → List Int → Prop} {g : List Int} : ∀ {rs L : List Int}, FL p N rec a e g rs L → r ∈ rs → ∃ L1 L2, L.Perm (L1 ++ L2) ∧ ((pdv g r % p = 0 ∧ ∃ t, IsSeen g r p t ∧ rec (a + r * p ^ e) (e + 1) t L1) ∨ (pdv g r % p ≠ 0 ∧ ∃ x, RootAt p g r (N - e) x ∧ L1 = [(a + p ^ e * x) % p ^ N])) ∧
    (s ∈ rs → s ≠ r → ∃ L3, (∀ x, x ∈ L3 → x ∈ L2) ∧ ((pdv g s % p = 0 ∧ ∃ t, IsSeen g s p t ∧ rec (a + s * p ^ e) (e + 1) t L3) ∨ (pdv g s % p ≠ 0 ∧ ∃ x, RootAt p g s (N - e) x ∧ L3 = [(a + p ^ e * x) % p ^ N]))) := by
  intro rs L fl
  have last : ∀ {rs L L1 : List Int} {q : Int}, FL p N rec a e g rs L → q = r → ((pdv g q % p = 0 ∧ ∃ t, IsSeen g q p t ∧ rec (a + q * p ^ e) (e + 1) t L1) ∨ (pdv g q % p ≠ 0 ∧ ∃ x, RootAt p g q (N - e) x ∧ L1 = [(a + p ^ e * x) % p ^ N])) → ∃ M1 M2, (L ++ L1).Perm (M1 ++ M2) ∧ ((pdv g r % p = 0 ∧ ∃ t, IsSeen g r p t ∧ rec (a + r * p ^ e) (e + 1) t M1) ∨ (pdv g r % p ≠ 0 ∧ ∃ x, RootAt p g r (N - e) x ∧ M1 = [(a + p ^ e * x) % p ^ N])) ∧
      (s ∈ rs ++ [q] → s ≠ r → ∃ L3, (∀ x, x ∈ L3 → x ∈ M2) ∧ ((pdv g s % p = 0 ∧ ∃ t, IsSeen g s p t ∧ rec (a + s * p ^ e) (e + 1) t L3) ∨ (pdv g s % p ≠ 0 ∧ ∃ x, RootAt p g s (N - e) x ∧ L3 = [(a + p ^ e * x) % p ^ N]))) := fun {rs L L1 q} fl0 eq o => by
    subst eq
    refine ⟨L1, L, List.perm_append_comm, o, fun hs hn => ?_⟩
    rcases List.mem_append.mp hs with z | z
    · exact fl0.at z
    · exact absurd (List.mem_singleton.mp z) hn
  have first : ∀ {rs L L1 : List Int} {q : Int}, (∃ M1 M2, L.Perm (M1 ++ M2) ∧ ((pdv g r % p = 0 ∧ ∃ t, IsSeen g r p t ∧ rec (a + r * p ^ e) (e + 1) t M1) ∨ (pdv g r % p ≠ 0 ∧ ∃ x, RootAt p g r (N - e) x ∧ M1 = [(a + p ^ e * x) % p ^ N])) ∧
      (s ∈ rs → s ≠ r → ∃ L3, (∀ x, x ∈ L3 → x ∈ M2) ∧ ((pdv g s % p = 0 ∧ ∃ t, IsSeen g s p t ∧ rec (a + s * p ^ e) (e + 1) t L3) ∨ (pdv g s % p ≠ 0 ∧ ∃ x, RootAt p g s (N - e) x ∧ L3 = [(a + p ^ e * x) % p ^ N])))) → ((pdv g q % p = 0 ∧ ∃ t, IsSeen g q p t ∧ rec (a + q * p ^ e) (e + 1) t L1) ∨ (pdv g q % p ≠ 0 ∧ ∃ x, RootAt p g q (N - e) x ∧ L1 = [(a + p ^ e * x) % p ^ N])) →
      ∃ M1 M2, (L ++ L1).Perm (M1 ++ M2) ∧ ((pdv g r % p = 0 ∧ ∃ t, IsSeen g r p t ∧ rec (a + r * p ^ e) (e + 1) t M1) ∨ (pdv g r % p ≠ 0 ∧ ∃ x, RootAt p g r (N - e) x ∧ M1 = [(a + p ^ e * x) % p ^ N])) ∧
      (s ∈ rs ++ [q] → s ≠ r → ∃ L3, (∀ x, x ∈ L3 → x ∈ M2) ∧ ((pdv g s % p = 0 ∧ ∃ t, IsSeen g s p t ∧ rec (a + s * p ^ e) (e + 1) t L3) ∨ (pdv g s % p ≠ 0 ∧ ∃ x, RootAt p g s (N - e) x ∧ L3 = [(a + p ^ e * x) % p ^ N]))) := fun {rs L L1 q} ⟨M1, M2, hM, o1, o2⟩ o => by
    refine ⟨M1, M2 ++ L1, by rw [← List.append_assoc]; exact hM.append_right L1, o1, fun hs hn => ?_⟩
    rcases List.mem_append.mp hs with z | z
    · obtain ⟨L3, h3, o3⟩ := o2 z hn
      exact ⟨L3, fun x hx => List.mem_append_left _ (h3 x hx), o3⟩
    · obtain rfl := List.mem_singleton.mp z
      exact ⟨L1, fun x hx => List.mem_append_right _ hx, o⟩
  induction fl with
  | nil => intro h; cases h
  | @knot rs L L1 t q fl0 h1 h2 h3 ih =>
    intro h
    by_cases c : q = r
    · exact last fl0 c (.inl ⟨h1, t, h2, h3⟩)
    · refine first (ih ?_) (.inl ⟨h1, t, h2, h3⟩)
      rcases List.mem_append.mp h with z | z
      · exact z
      · exact absurd (List.mem_singleton.mp z).symm c
  | @leaf rs L q x fl0 h1 h2 ih =>
    intro h
    by_cases c : q = r
    · exact last fl0 c (.inr ⟨h1, x, h2, rfl⟩)
    · refine first (ih ?_) (.inr ⟨h1, x, h2, rfl⟩)
      rcases List.mem_append.mp h with z | z
      · exact z
      · exact absurd (List.mem_singleton.mp z).symm c
theorem perm_front {α : Type} {x : α} {L : List α} (h : x ∈ L) : ∃ R, L.Perm (x :: R) := by
  obtain ⟨A, B, rfl⟩ := List.append_of_mem h
  exact ⟨A ++ B, List.perm_middle⟩
theorem Found.two {p : Int} {N : Nat} (hp : p ∈ primes) : ∀ {n : Nat} {a : Int} {e : Nat} {s L : List Int} {η θ : Nat → Int}, Found p N n a e s L → Lim p s η → Lim p s θ → (∃ M, (η M - θ M) % p ^ M ≠ 0) → ∃ R, L.Perm (lv p N a e η :: lv p N a e θ :: R)
  | 0, _, _, _, _, _, _, h, _, _, _ => h.elim
  | n + 1, a, e, s, L, η, θ, h, hl, hm, hd => by
    have p2 := primes_ge hp
    have p2' : 2 ≤ p := by omega
    obtain ⟨c, hc, fl⟩ := h
    have hg := hl.free p2' hc
    have hg2 := hm.free p2' hc
    have mo : ∀ z : Int, (z - z % p) % p = 0 := fun z => by
      have := dvd_mul_l (-1) (rest_sub p z)
      rwa [show -1 * (z % p - z) = z - z % p by omega] at this
    have hr := mo (η 1)
    have hs := mo (θ 1)
    have piece : ∀ {ζ : Nat → Int} {L1 : List Int}, Lim p (pdiv (p ^ c) s) ζ → ((pdv (pdiv (p ^ c) s) (ζ 1 % p) % p = 0 ∧ ∃ t, IsSeen (pdiv (p ^ c) s) (ζ 1 % p) p t ∧ Found p N n (a + ζ 1 % p * p ^ e) (e + 1) t L1) ∨ (pdv (pdiv (p ^ c) s) (ζ 1 % p) % p ≠ 0 ∧ ∃ x, RootAt p (pdiv (p ^ c) s) (ζ 1 % p) (N - e) x ∧ L1 = [(a + p ^ e * x) % p ^ N])) → lv p N a e ζ ∈ L1 := fun {ζ L1} hz o => by
      rcases o with ⟨_, t, ht, hf⟩ | ⟨n0, x, hx, rfl⟩
      · have := Found.mem hp hf (hz.seen p2' (mo _) ht)
        rwa [lv_sub hz (mo _)] at this
      · rw [lv_leaf hp hz (mo _) n0 hx]
        exact List.mem_singleton.mpr rfl
    obtain ⟨L1, L2, hL, o1, o2⟩ := fl.two (s := θ 1 % p) (hg.rest p2')
    by_cases c1 : θ 1 % p = η 1 % p
    · rcases o1 with ⟨_, t, ht, hf⟩ | ⟨n0, x, hx, rfl⟩
      · rw [c1] at hs
        have hd2 : ∃ M, (sub1 p (η 1 % p) η M - sub1 p (η 1 % p) θ M) % p ^ M ≠ 0 := by
          obtain ⟨M, hM⟩ := hd
          refine ⟨M, fun z => hM ?_⟩
          have h1 := (p_dv p2').mpr z
          have s1 := hg.sub hr M
          have s2 := hg2.sub hs M
          rw [show p * (sub1 p (η 1 % p) η M - sub1 p (η 1 % p) θ M) = η (M + 1) - θ (M + 1) by rw [Int.mul_sub]; omega] at h1
          have h2 := dvd_of_le (p := p) h1 (Nat.le_succ M)
          have h3 := dvd_sub_of (dvd_add_of h2 (hm.coh M)) (hl.coh M)
          rwa [show η (M + 1) - θ (M + 1) + (θ (M + 1) - θ M) - (η (M + 1) - η M) = η M - θ M by omega] at h3
        obtain ⟨R, hR⟩ := Found.two hp hf (hg.seen p2' hr ht) (hg2.seen p2' hs ht) hd2
        rw [lv_sub hg hr, lv_sub hg2 hs] at hR
        exact ⟨R ++ L2, hL.trans (hR.append_right L2)⟩
      · exfalso
        obtain ⟨M, hM⟩ := hd
        rw [c1] at hs
        apply hM
        by_cases c2 : M = 0
        · rw [c2]; simp
        · have u1 := hg.up 1 (M - 1)
          have u2 := hg2.up 1 (M - 1)
          rw [Int.pow_succ, Int.pow_zero, Int.one_mul, show 1 + (M - 1) = M by omega] at u1 u2
          refine near_uniq hp n0 (r := η 1 % p) ?_ ?_ (dvd_sub_of (hg.root M) (hg2.root M))
          · have := dvd_add_of u1 hr
            rwa [show η M - η 1 + (η 1 - η 1 % p) = η M - η 1 % p by omega] at this
          · have := dvd_add_of u2 hs
            rwa [show θ M - θ 1 + (θ 1 - η 1 % p) = θ M - η 1 % p by omega] at this
    · obtain ⟨L3, h3, o3⟩ := o2 (hg2.rest p2') c1
      obtain ⟨R1, p1⟩ := perm_front (piece hg o1)
      obtain ⟨R2, p2⟩ := perm_front (h3 _ (piece hg2 o3))
      refine ⟨R1 ++ R2, hL.trans ((p1.append p2).trans ?_)⟩
      exact (List.perm_middle (a := lv p N a e θ) (l₁ := lv p N a e η :: R1) (l₂ := R2)).trans (List.Perm.swap _ _ _)
end Dr
namespace Dr
structure RootOf (p : Int) (f : List Int) (a : Int) (d N : Nat) (r : Int) : Prop where
  low : N ≤ d + 1 → r = a % p ^ N
  high : d + 1 < N → Root p f a d N r
theorem Single.told {p : Int} {f L : List Int} {a u : Int} {d N n : Nat} (hp : p ∈ primes) (hs : Single p f a d u) (hN : d + 1 ≤ N) (hf : Found p N n 0 0 f L) : ∃ r, r ∈ L ∧ (r - a) % p ^ (d + 1) = 0 := by
  have p2 := primes_ge hp
  obtain ⟨η, hl, hn, hr⟩ := hs.lim hp
  refine ⟨_, hf.mem hp hl, ?_⟩
  unfold lv
  rw [Int.pow_zero, Int.one_mul, Int.zero_add, Nat.sub_zero]
  have h1 := dvd_of_le (rest_sub (p ^ N) (η N)) hN
  have := dvd_add_of h1 (hn N)
  rwa [show η N % p ^ N - η N + (η N - a) = η N % p ^ N - a by omega] at this
noncomputable def turn (p : Int) (b : Int) : Int := Classical.epsilon fun y => (b * y - 1) % p ^ 64 = 0
def rootless (p c : Nat) : Bool := (List.range p).all fun x => (x * x + x + c) % p != 0
def rootlessAll : Bool := (primes.map Int.toNat).all fun p => (List.range p).any fun c => rootless p (c + 1)
end Dr
namespace Dr
theorem square_start {p r s : Int} (hp : p ∈ primes) (hr : 1 ≤ r ∧ r < p) (hs : s = if p = 2 then 17 else r * r + p) : ∃ (a u v : Int) (d : Nat), Single p [0 - s, 0, 1] a d u ∧ Single p [0 - s, 0, 1] (0 - a) d v ∧ (2 * a) % p ^ (d + 1) ≠ 0 := by
  have p2 := primes_ge hp
  by_cases c : p = 2
  · subst c
    rw [if_pos rfl] at hs
    subst hs
    exact ⟨1, 1, -1, 1, ⟨⟨by decide, by decide⟩, by decide⟩, ⟨⟨by decide, by decide⟩, by decide⟩, by decide⟩
  · rw [if_neg c] at hs
    have r0 : r % p ≠ 0 := by rw [Int.emod_eq_of_lt (by omega) (by omega)]; omega
    have t0 : (2 : Int) % p ≠ 0 := by rw [Int.emod_eq_of_lt (by omega) (by omega)]; decide
    have two : (2 * r) % p ≠ 0 := fun z => r0 (euclid hp z t0)
    have two' : (0 - 2 * r) % p ≠ 0 := fun z => two (by
      have := dvd_mul_l (-1) z
      rwa [show -1 * (0 - 2 * r) = 2 * r by omega] at this)
    have w : ∀ x, x * x = r * r → pev [0 - s, 0, 1] x % p ^ (2 * 0 + 1) = 0 := fun x hx => by
      simp only [pev, Int.mul_zero, Int.add_zero]
      rw [show 0 - s + x * (0 + x * 1) = p ^ (2 * 0 + 1) * (-1) by rw [hs, Nat.mul_zero, Nat.zero_add, Int.pow_one]; grind]
      exact Int.mul_emod_right _ _
    refine ⟨r, 2 * r, 0 - 2 * r, 0, ⟨⟨?_, two⟩, w r rfl⟩, ⟨⟨?_, two'⟩, w _ (by grind)⟩, ?_⟩
    · simp only [pdv, pev]
      grind
    · simp only [pdv, pev]
      grind
    · rw [Nat.zero_add, Int.pow_one]
      exact two
theorem Lim.scaled {p t s : Int} {η : Nat → Int} (j : Nat) (h : Lim p [0 - s, 0, 1] η) {f f0 : List Int} (hf : ∀ x, pev f x = pev f0 x * pev [t * t - s * p ^ (2 * j), 0 - 2 * t, 1] x) : Lim p f fun M => t + p ^ j * η M := by
  refine ⟨fun M => ?_, fun M => ?_⟩
  · have := dvd_mul_l (p ^ j) (h.coh M)
    rwa [show p ^ j * (η (M + 1) - η M) = t + p ^ j * η (M + 1) - (t + p ^ j * η M) by grind] at this
  · rw [hf]
    refine dvd_mul_l _ ?_
    have := dvd_mul_l (p ^ (2 * j)) (h.root M)
    refine Eq.trans (congrArg (· % p ^ M) ?_) this
    simp only [pev]
    have e : p ^ (2 * j) = p ^ j * p ^ j := by rw [← pow_add']; congr 1; omega
    rw [e]
    generalize p ^ j = A
    grind
theorem square_two {p t r s : Int} {j N n : Nat} (hp : p ∈ primes) (hr : 1 ≤ r ∧ r < p) (hs : s = if p = 2 then 17 else r * r + p) {f f0 L : List Int} (hf : ∀ x, pev f x = pev f0 x * pev [t * t - s * p ^ (2 * j), 0 - 2 * t, 1] x) (hL : Found p N n 0 0 f L) : ∃ (x y : Int) (R : List Int), L.Perm (x :: y :: R) ∧ ((x - t) * (x - t) - s * p ^ (2 * j)) % p ^ N = 0 ∧ ((y - t) * (y - t) - s * p ^ (2 * j)) % p ^ N = 0 := by
  have p2 := primes_ge hp
  have p2' : 2 ≤ p := by omega
  obtain ⟨a, u, v, d, s1, s2, ne⟩ := square_start hp hr hs
  obtain ⟨η, l1, n1, _⟩ := s1.lim hp
  obtain ⟨θ, l2, n2, _⟩ := s2.lim hp
  have L1 := Lim.scaled (t := t) j l1 hf
  have L2 := Lim.scaled (t := t) j l2 hf
  have one : ∀ ζ : Nat → Int, Lim p [0 - s, 0, 1] ζ → ((lv p N 0 0 (fun M => t + p ^ j * ζ M) - t) * (lv p N 0 0 (fun M => t + p ^ j * ζ M) - t) - s * p ^ (2 * j)) % p ^ N = 0 := fun ζ hz => by
    have hh := Lim.scaled (t := t) (f := [t * t - s * p ^ (2 * j), 0 - 2 * t, 1]) (f0 := [1]) j hz (fun x => by simp [pev])
    unfold lv
    rw [Int.pow_zero, Int.one_mul, Int.zero_add, Nat.sub_zero]
    have h1 := pev_cong [t * t - s * p ^ (2 * j), 0 - 2 * t, 1] (rest_sub (p ^ N) (t + p ^ j * ζ N))
    have := dvd_add_of h1 (hh.root N)
    rw [Int.sub_add_cancel] at this
    refine Eq.trans (congrArg (· % p ^ N) ?_) this
    simp only [pev]
    grind
  have hne : ∃ M, ((fun M => t + p ^ j * η M) M - (fun M => t + p ^ j * θ M) M) % p ^ M ≠ 0 := ⟨j + (d + 1), fun z => by
    apply ne
    have e : t + p ^ j * η (j + (d + 1)) - (t + p ^ j * θ (j + (d + 1))) = p ^ j * (η (j + (d + 1)) - θ (j + (d + 1))) := by grind
    simp only [e] at z
    rw [mul_pow_dv p2' (by omega), Nat.add_sub_cancel_left] at z
    have := dvd_add_of (dvd_sub_of z (n1 (j + (d + 1)))) (n2 (j + (d + 1)))
    have := dvd_mul_l (-1) this
    rw [show -1 * (η (j + (d + 1)) - θ (j + (d + 1)) - (η (j + (d + 1)) - a) + (θ (j + (d + 1)) - (0 - a))) = -(2 * a) by omega] at this
    exact Int.emod_eq_zero_of_dvd ((Int.dvd_neg).mp (Int.dvd_of_emod_eq_zero this))⟩
  obtain ⟨R, hR⟩ := hL.two hp L1 L2 hne
  exact ⟨_, _, R, hR, one η l1, one θ l2⟩
end Dr
namespace L2
open PySem PySem.Spec PyProof.Rows
section
variable {X : Cx}
theorem op_mulW : OpR X (binaryOp .Mult) (rI IntMulOk fun i j => .int (i * j)) := opI fun _ _ _ _ _ _ _ hc q => mul_int q hc
def CDivW (_ j : Int) : Prop := 0 < j ∧ j.natAbs.log2 < 9000
theorem op_fdivW : OpR X (binaryOp .FloorDiv) (rI CDivW fun i j => .int (i / j)) := opI fun i j _ _ _ _ _ hc q => by
  have h1 : (0 : Int) < j := hc.1
  exact floordiv_int (by omega) (by rw [Int.fdiv_eq_ediv_of_nonneg i (by omega)]; exact q) (.inl (PyProof.noPylong_of_log2 hc.2))
end
def Itc (a c : Int) (n : Nat) : It := ⟨fun i _ => i < n, fun i H x H' => H' = H ∧ x = .int (a + i * c), fun i _ => n ≤ i⟩
section
variable {X : Cx} {tg : Expr}
def turns (a b c : Int) : Nat := if a < b then ((b - a - 1) / c + 1).toNat else 0
def iRng3 (ta : TA) : TI := fun σ H R => ta σ H fun vs H1 => ∃ i j c : Int, vs = [.int i, .int j, .int c] ∧ (-(2 ^ 60) ≤ i ∧ i < 2 ^ 60 ∧ -(2 ^ 60) ≤ j ∧ j < 2 ^ 60 ∧ 0 < c ∧ c < 1000) ∧ R (Itc i c (turns i j c)) H1
end
def clsV : V → Value
  | .ty n => .type n
  | .ref a => .ref a
  | _ => .none
def isCls : V → Bool
  | .ty _ => true
  | .ref _ => true
  | _ => false
section
variable {X : Cx}
theorem call_isinst : CallR X (.builtin "isinstance") (fun xs H Q => ∃ x y t b, xs = [x, y] ∧ isCls y = true ∧ TyOf X.K H x t ∧ PySem.W.kitOne X.K t (clsV y) = some b ∧ Q (.bl b) H) := by
  intro pins s σ H xs us Q I r h
  obtain ⟨x, y, t, b, rfl, hy, ty, e, q⟩ := h
  obtain ⟨u, w', rfl, rx, ry⟩ := vals2 r
  have ec : w' = clsV y := by
    cases y <;> first
      | (simp [isCls] at hy; done)
      | exact ry
  subst ec
  exact isinst_ok I rx ty e fun tk => ⟨.bl b, H, I.tok tk, rfl, q⟩
mutual
inductive DatV (K : PySem.W.Frag) (H : Hp) : V → PyData → Prop
  | non : DatV K H .non .none
  | bl (b : Bool) : DatV K H (.bl b) (.bool b)
  | int (i : Int) : DatV K H (.int i) (.int i)
  | str (x : Str) : DatV K H (.str x) (.str x)
  | lst {a : Addr} {xs : List V} {ds : List PyData} : SqL K H a xs → DatVs K H xs ds → DatV K H (.ref a) (.list ds)
  | tup {a : Addr} {xs : List V} {ds : List PyData} : SqT K H a xs → DatVs K H xs ds → DatV K H (.ref a) (.tuple ds)
inductive DatVs (K : PySem.W.Frag) (H : Hp) : List V → List PyData → Prop
  | nil : DatVs K H [] []
  | cons {x : V} {d : PyData} {xs : List V} {ds : List PyData} : DatV K H x d → DatVs K H xs ds → DatVs K H (x :: xs) (d :: ds)
end
theorem DatVs.ints {K : PySem.W.Frag} {H : Hp} : ∀ ns : List Int, DatVs K H (ns.map V.int) (ns.map PyData.int)
  | [] => .nil
  | n :: r => .cons (.int n) (DatVs.ints r)
variable {pins : List (Addr × Obj)} {σ : St} {H : Hp} {s : Shared}
mutual
theorem reads_of (I : Inv X pins σ H s) : ∀ {x : V} {d : PyData} {u : Value}, DatV X.K H x d → RelV x u → ∃ as, Reads s.heap u d as
  | _, _, _, .non, r => by cases r; exact ⟨_, .none⟩
  | _, _, _, .bl b, r => by cases r; exact ⟨_, .bool b⟩
  | _, _, _, .int i, r => by obtain ⟨t, rfl⟩ := r; exact ⟨_, .int i t⟩
  | _, _, _, .str x, r => by obtain ⟨t, rfl⟩ := r; exact ⟨_, .str x t⟩
  | _, _, _, .lst h q, r => by
    cases r
    obtain ⟨its, rv, pl, _⟩ := I.list h
    obtain ⟨o, ho, hc, n, hd⟩ := pl.isList
    obtain ⟨as, ra⟩ := readsAll_of I q rv
    exact ⟨_, .list ho hc hd (by simpa using ra)⟩
  | _, _, _, .tup h q, r => by
    cases r
    obtain ⟨its, rv, pl, _⟩ := I.tuple h
    obtain ⟨o, ho, hc, n, hd⟩ := pl
    obtain ⟨as, ra⟩ := readsAll_of I q rv
    exact ⟨_, .tuple ho hc hd (by simpa using ra)⟩
theorem readsAll_of (I : Inv X pins σ H s) : ∀ {xs : List V} {ds : List PyData} {us : List Value}, DatVs X.K H xs ds → Vals xs us → ∃ as, ReadsAll s.heap us ds as
  | _, _, _, .nil, r => by cases r; exact ⟨_, .nil⟩
  | _, _, _, .cons h q, r => by
    cases r with
    | cons r rr =>
      obtain ⟨as, ra⟩ := reads_of I h r
      obtain ⟨bs, rb⟩ := readsAll_of I q rr
      exact ⟨_, .cons ra rb⟩
end
def rEqD (K : PySem.W.Frag) (neg : Bool) : R2 := fun x y H Q => ∃ d e, DatV K H x d ∧ DatV K H y e ∧ SeqAt.shaped d = true ∧ SeqAt.shaped e = true ∧ Q (.bl (if neg then !PyData.eqv d e else PyData.eqv d e)) H
theorem op_eqD (hu : X.A.units + 64 < cLine) : OpR X (compareOp .Eq) (rEqD X.K false) := by
  intro pins s σ H x y v u Q I rx ry h
  obtain ⟨d, e, hd, he, sd, se, q⟩ := h
  obtain ⟨as, ra⟩ := reads_of I hd rx
  obtain ⟨bs, rb⟩ := reads_of I he ry
  exact eq_dataH ra rb sd se hu (fin_bl I q rfl)
theorem op_neD (hu : X.A.units + 64 < cLine) : OpR X (compareOp .NotEq) (rEqD X.K true) := by
  intro pins s σ H x y v u Q I rx ry h
  obtain ⟨d, e, hd, he, sd, se, q⟩ := h
  obtain ⟨as, ra⟩ := reads_of I hd rx
  obtain ⟨bs, rb⟩ := reads_of I he ry
  exact ne_dataH ra rb sd se hu (fin_bl I q rfl)
theorem eqvAll_ints : ∀ ns ms : List Int, PyData.eqvAll (ns.map PyData.int) (ms.map PyData.int) = decide (ns = ms)
  | [], [] => by simp [PyData.eqvAll]
  | [], _ :: _ => by simp [PyData.eqvAll]
  | _ :: _, [] => by simp [PyData.eqvAll]
  | a :: r, b :: t => by
    simp only [List.map_cons, PyData.eqvAll, PyData.eqv, eqvAll_ints r t]
    by_cases h : a = b <;> by_cases h' : r = t <;> simp [h, h']
end
end L2
namespace Att
open PySem PySem.W PySem.Calls PyProof.Rows
theorem bits_of_lay {ns : List Int} (h : WData.layableAll [WData.list (ns.map WData.int)] = true) : ∀ n, n ∈ ns → Builtin.Int.intBits n ≤ 2 ^ 20 := fun n hn => by
  have h1 := layableW_arg h _ (List.mem_singleton.mpr rfl)
  have h2 := layableW_item h1 (.int n) (List.mem_map.mpr ⟨n, hn, rfl⟩)
  have h3 := (layableW_iff.mp h2).2.2
  simpa only [WData.weight, Builtin.Int.intBits] using h3
theorem attach_callB {l : OpenLaw} {n : Nat} {q : Program} {loose : List Str} {XP : (Str → Option Value) → Heap → Prop} {YP : World → Heap → Prop} {d : DefRec}
    (hn : l.most = some n) (hdf : d.params.defaults = [])
    (call : ∀ (w : World) (s₀ s₁ : Shared) (mg mb : Str → Option Value) (fa : Addr) (o : Obj) (pm cd doc : Value) (a : Addr) (vs : List Value) (ns : List Int),
      Ground q loose [] XP w s₀ mg mb s₁.heap → YP w s₁.heap →
      s₁.heap.get? fa = some o → o.data = .func (docDef d.name d.params d.body d.scope pm cd doc) → s₁.heap.CodeRec cd d.name → mg d.name = some (.ref fa) →
      s₁.heap.get? a = some { cls := .type "list", data := .seq vs.toArray } → IntsAre vs ns → ns.length ≤ n → (∀ n, n ∈ ns → Builtin.Int.intBits n ≤ 2 ^ 20) → s₁.gens = #[] →
      codeAny (model l.prog w) callerA (.call (.ref fa) ⟨[.ref a], []⟩) (fun r s' => r = .ok (.ret (.bool true)) ∧ OldK s₁.heap s'.heap ∧ s'.os = s₁.os ∧ AllBare s'.gens) s₁) :
    WalkO q loose XP YP l.row.toRowW d [] (fun f vs => PySem.call f vs) := by
  intro w s₀ s₁ mg mb G Y fa o pm cd doc dV kV ho hd hcd hD hmg hg args vals as hpre hlay hrd hwl hlo
  obtain rfl : dV = .none := Dflts.none hD hdf
  obtain rfl : kV = .none := Dflts.noKw hD
  obtain ⟨a, vs, ns, rfl, rfl, hobj, hints, hlen⟩ := script_of hn hpre hwl
  refine enter_call (codeAny_mono (call w s₀ s₁ mg mb fa o pm cd doc a vs ns G Y ho (fd_plain hd) hcd hmg hobj hints hlen (bits_of_lay hlay) hg) fun r s' hq => ?_)
  obtain ⟨rfl, h2, h3, h4⟩ := hq
  exact ⟨.inl ⟨.bool true, .bool true, [], rfl, fun _ => rfl, .bool true, post_true l _, fun _ => ⟨List.Pairwise.nil, fun _ hm => (nomatch hm)⟩⟩, h2, h3, h4⟩
end Att
namespace L2
open PySem PySem.Spec PyProof.Rows
def spLaw (K : PySem.W.Frag) : Sp := fun vs H Q _ => ∃ (a : Addr) (ns : List Int), vs = [.ref a] ∧ SqL K H a (ns.map V.int) ∧ ns.length ≤ 63 ∧ (∀ n, n ∈ ns → Builtin.Int.intBits n ≤ 2 ^ 20) ∧ ∀ H', Q (.bl true) H'
theorem walk_law {l : PySem.W.OpenLaw} {k : Nat} {q : Program} {loose : List Str} {XP : (Str → Option Value) → Heap → Prop} {YP : World → Heap → Prop} {d : DefRec} {K : Params → PySem.W.Frag} {CX : World → CXT}
    (hn : l.most = some 63) (hdf : d.params.defaults = []) (hr : Room k callerA)
    (hY : ∀ (w : World) (h : Heap), YP w h → (K w.params).In h)
    (hCX : ∀ (w : World) (H : Hp) (s : Shared) (e : Value) (s' : Shared), CX w [] H s (fun _ _ _ => False) e s' → False)
    (F : ∀ (w : World) (mg : Str → Option Value) (fa : Addr) (h : Heap), (K w.params).In h → h.Ns mainGlobals mg → mg d.name = some (.ref fa) →
      ∃ fd : FuncData, (∀ (s : Shared) (u : Value), BindsTo s fd ⟨[u], []⟩ [("script", u)]) ∧
        ∀ base : Heap, (K w.params).In base → base.Ns mainGlobals mg → FnOk l.prog w (K w.params) mg base (CX w) k fa fd ["script"] (spLaw (K w.params))) :
    PySem.W.WalkO q loose XP YP l.row.toRowW d [] (fun f vs => PySem.call f vs) := by
  refine Att.attach_callB hn hdf fun w s₀ s₁ mg mb fa o pm cd doc a vs ns G Y ho hd hcd hmg hobj hints hlen hbits hg => ?_
  have KX := hY w _ Y
  obtain ⟨fd, hb, hF⟩ := F w mg fa _ KX G.T.g hmg
  exact law_call KX G.T.g G.T.b G.T.builtins G.T.nolimit hg hobj hints (Nat.le_trans hlen (by decide)) hr hF hb (fun H hO hS => ⟨a, ns, rfl, hS, hlen, hbits, fun _ => rfl⟩) fun H e s' => hCX w H s₁ e s'
end L2
namespace L2
open PySem PySem.Spec PyProof.Rows
theorem adr {a b : Addr} (h : @Ne Nat a b) : a ≠ b := h
theorem ltN {h : Heap} {b : Addr} {o : Obj} (e : h.get? b = some o) : @LT.lt Nat instLTNat b h.objs.size := Heap.lt_size e
def ClOk (cells : List (Str × Addr)) : List (Str × Addr) → Prop
  | [] => True
  | y :: r => cells.lookup y.1 = some y.2 ∧ ClOk cells r
theorem ClOk.get {cells : List (Str × Addr)} : ∀ {cl : List (Str × Addr)}, ClOk cells cl → ∀ {x : Str} {c : Addr}, cl.lookup x = some c → cells.lookup x = some c
  | (y, d) :: r, ⟨h, hr⟩, x, c, e => by
    by_cases q : x = y
    · subst q
      simp only [List.lookup_cons, beq_self_eq_true] at e
      cases e
      exact h
    · have q' : (x == y) = false := by simpa using q
      simp only [List.lookup_cons, q'] at e
      exact ClOk.get hr e
def CapsOk (X : Cx) (sc : Scope) (cl : List (Str × Addr)) : List Nat → List Str → Prop
  | [], [] => True
  | j :: js, x :: xs => X.N[j]? = some x ∧ X.env.scope.names.lookup x = some .cell ∧ sc.names.lookup x = some .cell ∧ (cl.lookup x).isSome = true ∧ CapsOk X sc cl js xs
  | _, _ => False
def capV (caps : List Nat) (σ : St) : St := caps.map fun j => (σ[j]?).getD none
def compCx (X : Cx) (N : List Str) (scope : Scope) (cl : List (Str × Addr)) (C : Addr) (s : Shared) (H : Hp) (fp : List Addr) : Cx where
  prog := X.prog
  w := X.w
  K := X.K
  mg := X.mg
  base := X.base
  A := X.A
  N := N
  s₀ := s
  H₀ := H
  env := compEnvC scope cl C X.env
  outer := X.stack
  stack := X.stack
  ex := fp
  fn := fun _ => false
  calm := X.calm
  pn := []
  xe := fun _ _ => False
theorem mem_of_lookup {α : Type} {x : Str} {k : α} : ∀ {l : List (Str × α)}, l.lookup x = some k → (x, k) ∈ l
  | (y, j) :: r, e => by
    by_cases q : x = y
    · subst q
      simp only [List.lookup_cons, beq_self_eq_true] at e
      cases e
      exact .head _
    · have q' : (x == y) = false := by simpa using q
      simp only [List.lookup_cons, q'] at e
      exact .tail _ (mem_of_lookup e)
section
variable {X : Cx} {pins : List (Addr × Obj)} {σ : St} {H : Hp} {s : Shared} {N : List Str} {scope : Scope} {cl : List (Str × Addr)} {C : Addr} {fp : List Addr} {caps : List Nat} {xs : List Str}
theorem comp_ok (I : Inv X pins σ H s) (hcl : ClOk X.env.cells cl) (hk : scope.kind = .function) (hfp : ∀ b ∈ fp, FpOk X pins H b) (hlt : ∀ b ∈ fp, b < s.heap.objs.size)
    (hhas : ((relabel scope X.env).names.all fun y => !(y.2 == .cell || y.2 == .free) || (cl.lookup y.1).isSome) = true) (hC : s.heap.objs.size ≤ C) : (compCx X N scope cl C s H fp).Ok where
  mod := I.ok.mod
  kind := hk
  glob := I.ok.glob
  blt := I.ok.blt
  above := hC
  inj := fun x y c h1 h2 => I.ok.inj x y c (hcl.get h1) (hcl.get h2)
  has := fun x h => by
    have key : ∀ k : NameKind, (k = .cell ∨ k = .free) → (relabel scope X.env).names.lookup x = some k → ∃ c, cl.lookup x = some c := fun k hk e => by
      have h1 := List.all_eq_true.mp hhas _ (mem_of_lookup e)
      have h2 : (cl.lookup x).isSome = true := by
        rcases hk with rfl | rfl <;> simpa using h1
      exact Option.isSome_iff_exists.mp h2
    rcases h with h | h
    · exact key _ (.inl rfl) h
    · exact key _ (.inr rfl) h
  cab := fun x c h => by cases h
  hd := I.ok.hd
  frames := I.ok.frames
  stk := .inl rfl
  exf := fun b hb => ⟨fun z => by
      have h1 : @LT.lt Nat instLTNat b s.heap.objs.size := hlt b hb
      have z' : @Eq Nat b C := z
      have hC' : @LE.le Nat _ s.heap.objs.size C := hC
      omega, fun x c e => (hfp b hb).2.2.2.2.1 x c (hcl.get e)⟩
  bs := I.bs
  bsz := Nat.le_trans I.ok.bsz I.sz
  noex := fun b o e hb => by
    rcases (hfp b hb).2.2.2.1 with z | z
    · exact I.ok.noex b o e z
    · have h1 : @LT.lt Nat _ b X.base.objs.size := Heap.lt_size e
      have h2 := I.ok.bsz
      have z' : @LE.le Nat _ X.s₀.heap.objs.size b := z
      omega
  exfs := fun b hb z => by
    have h1 := I.stkSub b z
    rcases List.mem_cons.mp h1 with q | q
    · exact (hfp b hb).2.1 q
    · exact (hfp b hb).2.2.1 q
  funs := I.stack
  frf := I.stkFree
theorem cap_get : ∀ {caps : List Nat} {xs : List Str}, CapsOk X (relabel scope X.env) cl caps xs → ∀ {i : Nat} {x : Str} {v : V}, xs[i]? = some x → (capV caps σ)[i]? = some (some v) →
    ∃ j : Nat, X.N[j]? = some x ∧ σ[j]? = some (some v) ∧ X.env.scope.names.lookup x = some .cell ∧ (relabel scope X.env).names.lookup x = some .cell ∧ ∃ c, cl.lookup x = some c
  | [], [], _, i, x, v, h, _ => by simp at h
  | j :: js, y :: ys, ⟨h1, h2, h3, h4, hr⟩, 0, x, v, h, e => by
    simp only [List.getElem?_cons_zero, Option.some.injEq] at h
    subst h
    have e' : (σ[j]?).getD none = some v := by simpa [capV] using e
    refine ⟨j, h1, ?_, h2, h3, Option.isSome_iff_exists.mp h4⟩
    cases q : σ[j]? with
    | none => rw [q] at e'; cases e'
    | some o => rw [q] at e'; exact congrArg some e'
  | j :: js, y :: ys, ⟨_, _, _, _, hr⟩, i + 1, x, v, h, e => cap_get hr (by simpa using h) (by simpa [capV] using e)
theorem comp_start (I : Inv X pins σ H s) (hcl : ClOk X.env.cells cl) (hk : scope.kind = .function) (hfp : ∀ b ∈ fp, FpOk X pins H b) (hlt : ∀ b ∈ fp, b < s.heap.objs.size)
    (hhas : ((relabel scope X.env).names.all fun y => !(y.2 == .cell || y.2 == .free) || (cl.lookup y.1).isSome) = true) (hC : s.heap.objs.size ≤ C)
    (hcap : CapsOk X (relabel scope X.env) cl caps xs) (hlen : caps.length = xs.length) {x : Str} {h₁ : Heap} {t : Nat} {m : Str → Option Value} (hn : h₁.Ns C m) (kp : ∀ b o, s.heap.get? b = some o → h₁.get? b = some o) :
    Inv (compCx X (x :: xs) scope cl C s H fp) [] (none :: capV caps σ) H { s with heap := h₁, toks := t } where
  ok := comp_ok I hcl hk hfp hlt hhas hC
  os := rfl
  bare := I.bare
  base := Un.kept kp
  loc := by
    refine ⟨m, hn, fun i y v h1 h2 _ => ?_⟩
    cases i with
    | zero => simp at h2
    | succ i =>
      obtain ⟨j, e1, e2, e3, e4, c, e5⟩ := cap_get (X := X) (scope := scope) hcap (i := i) (by simpa [compCx] using h1) (by simpa using h2)
      obtain ⟨m₀, _, hl⟩ := I.loc
      obtain ⟨u, r, lk⟩ := hl j y v e1 e2 (.inr (.inl e3))
      refine ⟨u, r, .inr ⟨.inl e4, c, e5, ?_⟩⟩
      rcases lk with ⟨z, _⟩ | ⟨_, c', q1, q2⟩
      · have z' : X.env.scope.names.lookup y = some .local := z
        rw [e3] at z'
        cases z'
      · rw [hcl.get e5] at q1
        cases q1
        obtain ⟨o, ho, hd⟩ := q2
        exact ⟨o, kp _ _ ho, hd⟩
  cell := fun y c e => by
    obtain ⟨v, o, ho, hd⟩ := I.cell y c (hcl.get e)
    exact ⟨v, o, kp _ _ ho, hd⟩
  free := I.hok.fresh hC
  freeC := fun y c e => I.freeC y c (hcl.get e)
  pin := fun p hp => by
    have hp' : p ∈ ([] : List (Addr × Obj)) := hp
    cases hp'
  hok := I.hok.kept kp
  len := by simp [compCx, capV, hlen]
end
def PTs (X : Cx) (ifs : List Expr) (t : TT) : Prop :=
  ∀ (pins : List (Addr × Obj)) (s : Shared) (σ : St) (H : Hp) (Q : Bool → Hp → Prop), Inv X pins σ H s → t σ H Q →
    wpAny (model X.prog X.w) X.A (forIn ifs true fun c r => if r = true then do let ok ← isTrue c X.env (eval c X.env); pure (ForInStep.yield ok) else pure (ForInStep.yield r)) (TP X pins σ Q) X.xe s
theorem pts_nil {X : Cx} : PTs X [] (fun _ H Q => Q true H) := fun _ _ _ H _ I h => wpAny_tests_nil ⟨H, I, h⟩
theorem pts_one {X : Cx} {c : Expr} {t : TT} (h : PT X c t) : PTs X [c] t := fun pins s σ H Q I q => wpAny_tests_one (h pins s σ H Q I q)
def tComp (caps : List Nat) (wi : TI) (tt : TT) (te : TE) : TE := fun σ H Q => wi σ H fun J H1 => ∃ (n : Nat) (W : Nat → List V → Hp → Prop), n ≤ sizeLine ∧ W 0 [] H1 ∧ ∀ i ys H2, W i ys H2 →
  (J.stop i H2 ∧ ∀ p, H2 p = none → Q (.ref p) (upd H2 p (.lst ys))) ∨
  (J.go i H2 ∧ i < n ∧ ∀ x H3, J.yld i H2 x H3 → tt (some x :: capV caps σ) H3 fun b H4 => if b = true then te (some x :: capV caps σ) H4 fun v H5 => W (i + 1) (ys ++ [v]) H5 else W (i + 1) ys H4)
section
variable {prog : Program} {w : World} {A : Around} {R : Result → Shared → Prop} {s : Shared}
theorem comp_loop {elt target iter : Expr} {ifs : List Expr} {scope : Scope} {pos : Pos} {it acc : Value} {env : Env} (I : Nat → Shared → Prop)
    (turn : ∀ n s, I n s → wpAny (model prog w) A (pyNext it) (fun r s₁ => match r with
      | none => R (.ok .next) s₁
      | some v => wpAny (model prog w) A (letOwnedTupleGo target it v) (fun _ s₁ => wpAny (model prog w) A (assign target env v) (fun _ s₂ =>
          wpAny (model prog w) A (forIn ifs true fun c r => if r = true then do let ok ← isTrue c env (eval c env); pure (ForInStep.yield ok) else pure (ForInStep.yield r)) (fun ok s₃ =>
            if ok = true then wpAny (model prog w) A (eval elt env) (fun x s₄ =>
              wpAny (model prog w) A (call (.builtin "list.append") [acc, x]) (fun _ s₅ => ∃ m, m < n ∧ I m s₅) (fun _ _ => False) s₄) (fun _ _ => False) s₃
            else ∃ m, m < n ∧ I m s₃) (fun _ _ => False) s₂) (fun _ _ => False) s₁) (fun _ _ => False) s₁) (fun _ _ => False) s)
    (n : Nat) (h : I n s) :
    codeAny (model prog w) A (.compLoop (.ListComp elt [⟨target, iter, ifs, 0⟩] scope pos) 0 it acc env) R s := by
  refine codeAny_loop rfl I (fun n s hI => ?_) n h
  show wpAny _ A ((compTurn (.ListComp elt [⟨target, iter, ifs, 0⟩] scope pos) 0 it acc env).onRaise (fun x => do noteFrame x env; theTreesLotGoes x)) _ _ s
  refine wpAny_noted ?_
  rw [compTurn_list]
  refine wpAny_bind (wpAny_standAt (wpAny_bind (wpAny_mono (turn n s hI) (fun r s₁ h₁ => ?_) fun _ _ h' => h'.elim)))
  cases r with
  | none => exact wpAny_pure h₁
  | some v =>
    refine wpAny_bind (wpAny_mono h₁ (fun _ s₁ h₁ => ?_) fun _ _ h' => h'.elim)
    refine wpAny_bind (wpAny_mono h₁ (fun _ s₂ h₂ => wpAny_bind (wpAny_mono h₂ (fun ok s₃ h₃ => ?_) fun _ _ h' => h'.elim)) fun _ _ h' => h'.elim)
    cases ok with
    | false => exact wpAny_pure ⟨rfl, h₃⟩
    | true =>
      exact wpAny_bind (wpAny_bind (wpAny_mono h₃ (fun x s₄ h₄ => wpAny_bind (wpAny_mono h₄ (fun _ s₅ h₅ => wpAny_pure (wpAny_pure ⟨rfl, h₅⟩)) fun _ _ h' => h'.elim)) fun _ _ h' => h'.elim))
end
def Loose (X : Cx) (pins : List (Addr × Obj)) (H : Hp) (C : Addr) : Prop :=
  H C = none ∧ C ≠ X.env.locals ∧ X.s₀.heap.objs.size ≤ C ∧ (∀ x c, X.env.cells.lookup x = some c → c ≠ C) ∧ ∀ p ∈ X.pn ++ pins, p.1 ≠ C
theorem Inv.letGo {X : Cx} {pins : List (Addr × Obj)} {σ : St} {H : Hp} {s : Shared} {C : Addr} {h' : Heap} (I : Inv X pins σ H s) (l : Loose X pins H C) (k : Heap.SameBut C s.heap h') : Inv X pins σ H { s with heap := h' } :=
  I.turned (it := C) (t' := s.toks) (fun b o hb e => k.extBut b o hb e) l.1 l.2.1 (.inr l.2.2.1) l.2.2.2.1 l.2.2.2.2
section
variable {X : Cx}
theorem comp_block {elt iter : Expr} {x : Str} {px pos : Pos} {ifs : List Expr} {scope : Scope} {cl : List (Str × Addr)} {caps : List Nat} {xs : List Str} {tt : TT} {te : TE}
    (hc : X.calm = true) (hcl : ClOk X.env.cells cl) (hcap : CapsOk X (relabel scope X.env) cl caps xs) (hlen : caps.length = xs.length)
    (hkind : scope.kind = .function) (hcell : ∀ y ∈ scope.names, y.2 ≠ .cell)
    (hhas : ((relabel scope X.env).names.all fun y => !(y.2 == .cell || y.2 == .free) || (cl.lookup y.1).isSome) = true)
    (hx : (relabel scope X.env).names.lookup x = some .local) (hN : (x :: xs).Nodup)
    (ht : ∀ C s H fp, PTs (compCx X (x :: xs) scope cl C s H fp) ifs tt) (he : ∀ C s H fp, PE (compCx X (x :: xs) scope cl C s H fp) elt te)
    {pins : List (Addr × Obj)} {σ : St} {H1 : Hp} {s2 : Shared} {it : Addr} {fp : List Addr} {tn : Nat → Heap → Prop} {J : It} {Q : VK}
    (I2 : Inv X pins σ H1 s2) (T : Turn X.prog X.w X.K (.Name x px) J fp it tn) (st0 : tn 0 s2.heap) (hfp : ∀ b ∈ fp, FpOk X pins H1 b)
    (hq : ∃ (n : Nat) (W : Nat → List V → Hp → Prop), n ≤ sizeLine ∧ W 0 [] H1 ∧ ∀ i ys H2, W i ys H2 →
      (J.stop i H2 ∧ ∀ p, H2 p = none → Q (.ref p) (upd H2 p (.lst ys))) ∨
      (J.go i H2 ∧ i < n ∧ ∀ x H3, J.yld i H2 x H3 → tt (some x :: capV caps σ) H3 fun b H4 => if b = true then te (some x :: capV caps σ) H4 fun v H5 => W (i + 1) (ys ++ [v]) H5 else W (i + 1) ys H4))
    {RR : Value → Addr → Result → Shared → Prop}
    (hRR : ∀ s1 D C m H', Inv X pins σ H' s1 → s1.heap.Ns C m → Loose X pins H' C → Q (.ref D) H' → RR (.ref D) C (.ok .next) s1) :
    wpAny (model X.prog X.w) X.A (newList []) (fun acc s₃ => wpAny (model X.prog X.w) X.A (newFunctionEnv scope X.env.globals cl [] X.env.qual none .none (some X.env)) (fun cenv s₄ =>
      codeAny (model X.prog X.w) X.A (.compStart (.ListComp elt [⟨.Name x px, iter, ifs, 0⟩] scope pos) 0 (.ref it) acc { cenv with scope := relabel scope X.env }) (RR acc cenv.locals) s₄) X.xe s₃) X.xe s2 := by
  obtain ⟨n, W, hn, w0, hW⟩ := hq
  have hlt : ∀ b ∈ fp, b < s2.heap.objs.size := fun b hb => by
    obtain ⟨o, ho, _⟩ := T.obj 0 s2.heap st0 b hb
    exact Heap.lt_size ho
  refine wpAny_newObj_type (wpAny_newFunctionEnv hcell (by intro y hy; simp at hy) (fun h₁ hns₁ hsb₁ => ?_) hkind)
  dsimp only at hns₁ hsb₁ ⊢
  generalize hH2 : s2.heap.push { cls := .type "list", dict := none, data := .seq ([] : List Value).toArray } = G at hns₁ hsb₁ ⊢
  have hC : G.objs.size = s2.heap.objs.size + 1 := by rw [← hH2, Heap.size_push]
  have hDC : s2.heap.objs.size ≠ G.objs.size := by omega
  have old : ∀ b o, s2.heap.get? b = some o → h₁.get? b = some o := fun b o e => hsb₁.extBut b o (adr (by have h1 : @LT.lt Nat _ b s2.heap.objs.size := Heap.lt_size e; omega)) (Heap.get?_push_of_some _ (hH2 ▸ Heap.get?_push_of_some _ e))
  have hacc : h₁.get? s2.heap.objs.size = some { cls := .type "list", dict := none, data := .seq ([] : List Value).toArray } :=
    hsb₁.extBut _ _ hDC (Heap.get?_push_of_some _ (hH2 ▸ Heap.get?_push_size _ rfl))
  have I3 : Inv (compCx X (x :: xs) scope cl G.objs.size s2 H1 fp) [] (none :: capV caps σ) H1 { s2 with heap := h₁, toks := s2.toks + ([] : List (Str × Value)).length } :=
    comp_start I2 hcl hkind hfp hlt hhas (by omega) hcap hlen hns₁ old
  have st1 : tn 0 h₁ := T.keep 0 _ _ st0 fun b hb o e => old b o e
  have fpX : ∀ {pins' : List (Addr × Obj)} {H' : Hp} (b : Addr), b ∈ fp → H' b = none → (∀ p ∈ pins', p.1 ≠ b) → FpOk (compCx X (x :: xs) scope cl G.objs.size s2 H1 fp) pins' H' b := fun b hb hh hp =>
    ⟨hh, fun z => by have h1 : @LT.lt Nat _ b s2.heap.objs.size := hlt b hb; have z' : @Eq Nat b G.objs.size := z; omega, fun z => by
      rcases List.mem_cons.mp (I2.stkSub b z) with q | q
      · exact (hfp b hb).2.1 q
      · exact (hfp b hb).2.2.1 q, .inl hb, fun y c e => (hfp b hb).2.2.2.2.1 y c (hcl.get e), fun p hp' => hp p hp'⟩
  let XC := compCx X (x :: xs) scope cl G.objs.size s2 H1 fp
  have loop : ∀ s3 : Shared, s3 = { s2 with heap := h₁, toks := s2.toks + ([] : List (Str × Value)).length } →
      codeAny (model X.prog X.w) X.A (.compLoop (.ListComp elt [⟨.Name x px, iter, ifs, 0⟩] scope pos) 0 (.ref it) (.ref s2.heap.objs.size) (compEnvC scope cl G.objs.size X.env))
        (RR (.ref s2.heap.objs.size) G.objs.size) s3 := by
    rintro s3 rfl
    refine comp_loop (fun m s' => ∃ (i : Nat) (ys : List V) (Hn : Hp) (its : List Value) (k : Nat) (v0 : Option V), m = n + 1 - i ∧ i ≤ n ∧ ys.length ≤ i ∧ W i ys Hn ∧ Vals ys its ∧ tn i s'.heap ∧ (∀ b ∈ fp, Hn b = none) ∧
      Inv XC [(s2.heap.objs.size, { cls := .type "list", data := .seq its.toArray k })] (v0 :: capV caps σ) Hn s') ?_ (n + 1) ?_
    · rintro m s' ⟨i, ys, Hn, its, k, v0, rfl, hin, hyl, w, rv, st, hfn, J'⟩
      have pD := J'.pin _ (List.mem_append_right _ (List.mem_singleton.mpr rfl))
      have neD : ∀ b ∈ fp, ∀ p ∈ [((s2.heap.objs.size, ({ cls := .type "list", data := .seq its.toArray k } : Obj)))], p.1 ≠ b := fun b hb p hp z => by
        have h1 : @LT.lt Nat instLTNat b s2.heap.objs.size := hlt b hb
        rw [List.mem_singleton.mp hp] at z
        have z' : @Eq Nat s2.heap.objs.size b := z
        omega
      rcases hW i ys Hn w with ⟨hstop, fin⟩ | ⟨hgo, hi', hgo'⟩
      · -- it stops
        refine wpAny_mono (T.done XC rfl rfl rfl hc i _ s' _ Hn (fun _ _ => False) J' (fun b hb => fpX b hb (hfn b hb) (neD b hb)) st hstop) (fun r s1 hr => ?_) fun _ _ z => z
        obtain ⟨rfl, J1⟩ := hr
        obtain ⟨mC, hnC, _⟩ := J1.loc
        have pD1 := J1.pin _ (List.mem_append_right _ (List.mem_singleton.mpr rfl))
        have hD' : s1.heap.get? s2.heap.objs.size = some { cls := .type "list", data := .seq its.toArray k } := pD1.1
        have hHD : Hn s2.heap.objs.size = none := pD1.2.1
        have hHC : Hn G.objs.size = none := J1.free
        have un : Un (frs X.stack) fp H1 (upd Hn s2.heap.objs.size (.lst ys)) s2.heap s1.heap := by
          have u := J1.base
          have lt2 : ∀ b o, s2.heap.get? b = some o → b ≠ G.objs.size ∧ b ≠ s2.heap.objs.size := fun b o e => by
            have h1 := ltN e
            exact ⟨adr (by omega), adr (by omega)⟩
          refine ⟨u.keep, u.slot, fun b o e n1 n2 => ?_, u.there, fun b zs e => ?_, fun b o u' e => ?_, fun b ps e => ?_⟩
          · rw [upd_ne (lt2 b o e).2]
            exact u.free b o e n1 n2
          · have q := u.tups b zs e
            rw [upd_ne (fun z => by rw [z, hHD] at q; cases q)]
            exact q
          · have q := u.frzs b o u' e
            rw [upd_ne (fun z => by rw [z, hHD] at q; cases q)]
            exact q
          · obtain ⟨more, q⟩ := u.tbls b ps e
            refine ⟨more, ?_⟩
            rw [upd_ne (fun z => by rw [z, hHD] at q; cases q)]
            exact q
        have hok : HOk X.prog X.w (upd Hn s2.heap.objs.size (.lst ys)) s1.heap := fun a o e => by
          by_cases ha : a = s2.heap.objs.size
          · subst ha
            rw [upd_same] at e
            cases e
            exact ⟨by omega, its, k, rv, hD'⟩
          · rw [upd_ne ha] at e
            have q : ObjOk X.prog X.w Hn s1.heap a o := J1.hok a o e
            refine q.stay (fun b u' hb e' => e') (fun b e' => ?_) fun b zs e' => ?_
            · rw [upd_ne (fun z => by rw [z, hHD] at e'; cases e')]; exact e'
            · rw [upd_ne (fun z => by rw [z, hHD] at e'; cases e')]; exact e'
        have I4 : Inv X pins σ (upd Hn s2.heap.objs.size (.lst ys)) s1 :=
          I2.call' (ch := fp) J1.os un hok J1.bare fun b hb => ⟨(hfp b hb).2.2.2.1, (hfp b hb).2.1, (hfp b hb).2.2.2.2.1, (hfp b hb).2.2.2.2.2⟩
        refine hRR s1 _ _ mC _ I4 hnC ⟨by rw [upd_ne (Ne.symm hDC)]; exact hHC, fun z => ?_, by have := I2.sz; omega, fun y c e z => ?_, fun p hp z => ?_⟩ (fin _ hHD)
        · have h1 : @LT.lt Nat instLTNat X.env.locals s2.heap.objs.size := I2.lt
          have z' : @Eq Nat G.objs.size X.env.locals := z
          omega
        · obtain ⟨v', o', ho', _⟩ := I2.cell y c e
          have h1 := ltN ho'
          have z' : @Eq Nat c G.objs.size := z
          omega
        · have h1 := ltN (I2.pin p hp).1
          have z' : @Eq Nat p.1 G.objs.size := z
          omega
      · -- a turn
        refine wpAny_mono (T.item XC rfl rfl rfl hc i _ s' _ Hn (fun _ _ => False) J' (fun b hb => fpX b hb (hfn b hb) (neD b hb)) st hgo) (fun r s1 hr => ?_) fun _ _ z => z
        obtain ⟨u, rfl, hr⟩ := hr
        refine wpAny_mono hr (fun _ s2' h2 => ?_) fun _ _ z => z
        obtain ⟨v, H3, J1, ru, hy, st1', hf3⟩ := h2
        refine wpAny_assign_Name ?_
        refine store_ok2 (v := v) J1 hN (i := 0) rfl (.inl hx) ru (fun s4 J2 hsb => ?_) (.inr hx)
        have st4 : tn (i + 1) s4.heap := by
          obtain ⟨a, hsa, ha⟩ := hsb
          refine T.keep _ _ _ st1' fun b hb o e => hsa.extBut b o (fun z => ?_) e
          rcases ha with ha | ha
          · have h1 : @LT.lt Nat instLTNat b s2.heap.objs.size := hlt b hb
            have ha' : @Eq Nat a G.objs.size := ha
            have z' : @Eq Nat b a := z
            omega
          · exact (hfp b hb).2.2.2.2.1 x a (hcl.get ha) z.symm
        have J2' : Inv XC [(s2.heap.objs.size, { cls := .type "list", data := .seq its.toArray k })] (some v :: capV caps σ) H3 s4 := J2
        have ob4 : ∀ b ∈ fp, ∃ o, s4.heap.get? b = some o ∧ ∀ v, o.data ≠ .cell v := fun b hb => T.obj _ _ st4 b hb
        have J3 := J2'.pinned (fun b hb => fpX b hb (hf3 b hb) (neD b hb)) ob4
        have tnAt : ∀ {σ' : St} {H' : Hp} {s'' : Shared}, Inv XC ([(s2.heap.objs.size, ({ cls := .type "list", data := .seq its.toArray k } : Obj))] ++ pinsAt fp s4.heap) σ' H' s'' → tn (i + 1) s''.heap ∧ ∀ b ∈ fp, H' b = none := fun J4 =>
          ⟨T.keep _ _ _ st4 fun b hb o e => (J4.pin (b, o) (List.mem_append_right _ (List.mem_append_right _ (mem_pinsAt hb e)))).1, fun b hb => by
            obtain ⟨o, e, _⟩ := ob4 b hb
            exact (J4.pin (b, o) (List.mem_append_right _ (List.mem_append_right _ (mem_pinsAt hb e)))).2.1⟩
        refine thn (ht _ _ _ _ _ s4 _ H3 _ J3 (hgo' v H3 hy)) fun ok s5 ⟨H4, J4, q4⟩ => ?_
        cases ok with
        | false =>
          rw [if_neg (by simp)]
          have q4' : W (i + 1) ys H4 := q4
          obtain ⟨a1, a2⟩ := tnAt J4
          exact ⟨n + 1 - (i + 1), by omega, i + 1, ys, H4, its, k, some v, rfl, by omega, by omega, q4', rv, a1, a2, J4.unpinned⟩
        | true =>
          rw [if_pos rfl]
          have q4' : te (some v :: capV caps σ) H4 fun v H5 => W (i + 1) (ys ++ [v]) H5 := q4
          refine thn (he _ _ _ _ _ s5 _ H4 _ J4 q4') fun uv s6 ⟨y, H5, J5, ry, q5⟩ => ?_
          obtain ⟨a1, a2⟩ := tnAt J5
          have pD6 := J5.pin _ (List.mem_append_right _ (List.mem_append_left _ (List.mem_singleton.mpr rfl)))
          have hl6 := rv.length
          refine call_meets F.slot_list_append ⟨_, pD6.1, rfl⟩ F.entry_list_append (F.args_list_append_2 _ _) (PySem.list_append s2.heap.objs.size its.toArray k uv (by rw [List.size_toArray]; omega)) ⟨pD6.1, ?_⟩
          have J6 : Inv XC [] (some v :: capV caps σ) H5 s6 := J5.pins_of fun p hp => by cases hp
          have ne6 : s2.heap.objs.size ∉ fp := fun z => by have h1 : @LT.lt Nat instLTNat s2.heap.objs.size s2.heap.objs.size := hlt _ z; omega
          have J7 : Inv XC [] (some v :: capV caps σ) H5 { s6 with heap := s6.heap.update s2.heap.objs.size (Obj.mapSeq fun xs => xs.push uv), toks := s6.toks } :=
            J6.turned (it := s2.heap.objs.size) (fun b o hb e => by rw [Heap.get?_update_other _ _ (Ne.symm hb)]; exact e) pD6.2.1 (fun z => hDC z) (.inr (Nat.le_refl _)) (fun y c e z => by
              have e1 := I2.cell y c (hcl.get e)
              obtain ⟨v', o', ho', _⟩ := e1
              have h1 := ltN ho'
              have z' : @Eq Nat c s2.heap.objs.size := z
              omega) (fun p hp => by cases hp)
          refine ⟨n + 1 - (i + 1), by omega, i + 1, ys ++ [y], H5, its ++ [uv], k + 1, some v, rfl, by omega, by rw [List.length_append, List.length_singleton]; omega, q5, rv.append (.cons ry .nil), ?_, a2, ?_⟩
          · refine T.keep _ _ _ a1 fun b hb o e => ?_
            show (s6.heap.update s2.heap.objs.size _).get? b = some o
            rw [Heap.get?_update_other _ _ (fun z => ne6 (by rw [z]; exact hb))]
            exact e
          · refine J7.pins_of fun p hp => ?_
            rw [List.mem_singleton.mp hp]
            refine ⟨?_, pD6.2.1, fun z => hDC z, pD6.2.2.2.1, fun v' z => ?_⟩
            · show (s6.heap.update s2.heap.objs.size _).get? s2.heap.objs.size = _
              rw [Heap.get?_update_self _ pD6.1 rfl]
              simp only [Obj.mapSeq, List.push_toArray]
              rw [if_neg (by simp)]
            · have z' : Data.seq _ _ = Data.cell v' := z
              cases z'
    · exact ⟨0, [], H1, [], 0, none, by omega, by omega, by simp, w0, .nil, st1, fun b hb => (hfp b hb).1, I3.pins_of fun p hp => by
        rw [List.mem_singleton.mp hp]
        refine ⟨hacc, I2.hok.fresh (Nat.le_refl _), fun z => hDC z, fun z => ?_, fun v' z => ?_⟩
        · have := I2.stkFree _ z
          rcases List.mem_cons.mp (I2.stkSub _ z) with q | q
          · have h1 : @LT.lt Nat instLTNat X.env.locals s2.heap.objs.size := I2.lt
            have z' : @Eq Nat s2.heap.objs.size X.env.locals := q
            omega
          · exact I2.nofs (Nat.le_refl _) q
        · have z' : Data.seq _ _ = Data.cell v' := z
          cases z'⟩
  exact codeAny_compStart_list (loop _ rfl) (T.self X.A 0 _ _ _ st1 (loop _ rfl))
theorem pe_comp {elt iter : Expr} {x : Str} {px pos : Pos} {ifs : List Expr} {scope : Scope} {cl : List (Str × Addr)} (caps : List Nat) (xs : List Str) {wi : TI} {tt : TT} {te : TE}
    (hc : X.calm = true) (hclos : closureFor scope X.env = pure cl) (hcl : ClOk X.env.cells cl) (hcap : CapsOk X (relabel scope X.env) cl caps xs) (hlen : caps.length = xs.length)
    (hkind : scope.kind = .function) (hcell : ∀ y ∈ scope.names, y.2 ≠ .cell) (hnames : ∀ y ∈ scope.names, y.2 = .local → scope.names.lookup y.1 = some .local)
    (hhas : ((relabel scope X.env).names.all fun y => !(y.2 == .cell || y.2 == .free) || (cl.lookup y.1).isSome) = true)
    (hx : (relabel scope X.env).names.lookup x = some .local) (hN : (x :: xs).Nodup)
    (hi : PI X (.Name x px) iter wi) (ht : ∀ C s H fp, PTs (compCx X (x :: xs) scope cl C s H fp) ifs tt) (he : ∀ C s H fp, PE (compCx X (x :: xs) scope cl C s H fp) elt te)
    (hs : ∀ v, foldedSetIterable iter X.env v = pure v := by intro _; rfl) : PE X (.ListComp elt [⟨.Name x px, iter, ifs, 0⟩] scope pos) (tComp caps wi tt te) := by
  intro pins s σ H Q I h
  rw [eval_ListComp]
  refine wpAny_comprehension_free (use := none) rfl hs hclos hkind hnames (wpAny_mono (hi pins s σ H _ I h) (fun v s1 h1 => wpAny_mono h1 (fun itv s2 h2 => ?_) fun _ _ e => e) fun _ _ e => e)
  obtain ⟨it, fp, tn, J, H1, rfl, I2, T, st0, hfp, hq⟩ := h2
  refine comp_block (RR := fun acc C => compPost (model X.prog X.w) X.A X.xe none (EP X pins σ Q) acc C) hc hcl hcap hlen hkind hcell hhas hx hN ht he I2 T st0 hfp hq ?_
  intro s1 D C m H' I4 hn l q
  exact ⟨m, hn, fun h' hsb => ⟨.ref D, H', I4.letGo l hsb, rfl, q⟩⟩
theorem ps_comp {elt iter : Expr} {x y : Str} {px py pos spos : Pos} {ifs : List Expr} {scope : Scope} {cl : List (Str × Addr)} {k : Nat} (caps : List Nat) (xs : List Str) {wi : TI} {tt : TT} {te : TE}
    (hsw : swapsWith (.ListComp elt [⟨.Name x px, iter, ifs, 0⟩] scope pos) (some (.Name y py)) spos.line X.env = pure true)
    (hNX : X.N.Nodup) (hk : X.N[k]? = some y) (hy : X.env.scope.names.lookup y = some .local)
    (hc : X.calm = true) (hclos : closureFor scope X.env = pure cl) (hcl : ClOk X.env.cells cl) (hcap : CapsOk X (relabel scope X.env) cl caps xs) (hlen : caps.length = xs.length)
    (hkind : scope.kind = .function) (hcell : ∀ y ∈ scope.names, y.2 ≠ .cell) (hnames : ∀ y ∈ scope.names, y.2 = .local → scope.names.lookup y.1 = some .local)
    (hhas : ((relabel scope X.env).names.all fun y => !(y.2 == .cell || y.2 == .free) || (cl.lookup y.1).isSome) = true)
    (hx : (relabel scope X.env).names.lookup x = some .local) (hN : (x :: xs).Nodup)
    (hi : PI X (.Name x px) iter wi) (ht : ∀ C s H fp, PTs (compCx X (x :: xs) scope cl C s H fp) ifs tt) (he : ∀ C s H fp, PE (compCx X (x :: xs) scope cl C s H fp) elt te)
    (hs : ∀ v, foldedSetIterable iter X.env v = pure v := by intro _; rfl) : PS X (.Assign [.Name y py] (.ListComp elt [⟨.Name x px, iter, ifs, 0⟩] scope pos) spos) (tAsg (tComp caps wi tt te) (gName k)) := by
  intro pins s σ H D I h
  rw [exec_Assign_Name_used _ _ _ _ hsw]
  refine wpAny_bind (wpAny_standAt (wpAny_bind ?_))
  show wpAny _ X.A (do let _ ← comprehension (.ListComp elt [⟨.Name x px, iter, ifs, 0⟩] scope pos) scope X.env _ (newList []) false (eval iter X.env) (some (assign (.Name y py) X.env))) _ _ s
  refine wpAny_bind (wpAny_mono (wpAny_comprehension_free (use := some (assign (.Name y py) X.env)) (Q := fun _ s' => SP X pins D .next s') rfl hs hclos hkind hnames
    (wpAny_mono (hi pins s σ H _ I h) (fun xv s₁ h₁ => wpAny_mono h₁ (fun itv s2 h2 => ?_) fun _ _ e => e) fun _ _ e => e)) (fun _ s' hq => wpAny_pure (wpAny_pure hq)) fun _ _ e => e)
  obtain ⟨it, fp, tn, J, H1, rfl, I2, T, st0, hfp, hq⟩ := h2
  refine comp_block (Q := fun v H1 => gName k v σ H1 D.nx) (RR := fun acc C => compPost (model X.prog X.w) X.A X.xe (some (assign (.Name y py) X.env)) (fun _ s' => SP X pins D .next s') acc C) hc hcl hcap hlen hkind hcell hhas hx hN ht he I2 T st0 hfp hq ?_
  intro s1 Da C m H' I4 hn l q
  show wpAny _ X.A (assign (.Name y py) X.env (.ref Da)) _ _ s1
  refine wpAny_assign_Name (store_ok2 (v := .ref Da) I4 hNX hk (.inl hy) rfl (fun s4 I5 hsb => ?_) (.inr hy))
  obtain ⟨a, hsa, ha⟩ := hsb
  have hCa : C ≠ a := by
    rcases ha with ha | ha
    · rw [ha]; exact l.2.1
    · exact Ne.symm (l.2.2.2.1 y a ha)
  refine ⟨m, hn.sameBut hsa hCa, fun h' hsb => ⟨_, H', I5.letGo l hsb, q⟩⟩
end
end L2
namespace L2
open PySem PySem.Spec PyProof.Rows
theorem same_new {H : Hp} {p : Addr} (h : H p = none) (o : HO) : Same H (upd H p o) := fun b u q => by rw [upd_ne (ne_of_none q h)]; exact q
structure Def (P : Program) (w : World) (K : PySem.W.Frag) (mg : Str → Option Value) (base : Heap) (x : Str) (k : Nat) (ps : List Str) (sp : Sp) : Prop where
  ex : ∃ (f : Addr) (fd : FuncData), FnOk P w K mg base CX0 k f fd ps sp ∧ Binds K fd ps [] ∧ PySem.W.keepIn K (.ref f) = true ∧ mg x = some (.ref f)
theorem def_mk {P : Program} {w : World} {K : PySem.W.Frag} {mg : Str → Option Value} {base : Heap} {x qual : Str} {st : Stmt} {f : Addr} {fd : FuncData} {k : Nat} {ps : List Str} {sp : Sp} (F : Fun K x qual st f fd)
    (ok : FnOk P w K mg base CX0 k f fd ps sp) (b : Binds K fd ps []) (m : mg x = some (.ref f)) : Def P w K mg base x k ps sp := ⟨⟨f, fd, ok, b, F.kp, m⟩⟩
section
variable {X : Cx} {x : Str} {j k : Nat} {ps : List Str} {sp : Sp} {p pos : Pos} {e : Expr} {es : List Expr} {t : TA}
theorem pe_def (D : Def X.prog X.w X.K X.mg X.base x j ps sp) (hr : Room k X.A) (hg : Gl X x) (ha : PA X (e :: es) t) (hjk : j ≤ k := by decide) (hdb : (x == ("__debug__" : Str)) = false := by decide)
    (he : starEach (e :: es) X.env = (false, eval e X.env) :: starEach es X.env := by rfl) (hpl : (backTo pos (starEach es X.env)).any (·.1) = false := by rfl) :
    PE X (.Call (.Name x p) (e :: es) [] pos) (tCall sp [] E0 t) := by
  obtain ⟨f, fd, ok, b, kp, m⟩ := D.ex
  exact pe_call ok (hr.mono hjk) hg m kp b .nil pass0 ha hdb he hpl
end
end L2
namespace L2
open PySem PySem.Spec PyProof.Rows
def tJoin (t : TS) : TS := fun D σ H => ∃ R : St → Hp → Prop, (∀ σ' H', R σ' H' → D.nx σ' H') ∧ t { D with nx := R } σ H
theorem ps_join {X : Cx} {st : Stmt} {t : TS} (h : PS X st t) : PS X st (tJoin t) := by
  intro pins s σ H D I ⟨R, hR, q⟩
  refine thn (h pins s σ H _ I q) fun f s' hq => ?_
  cases f with
  | next =>
    obtain ⟨σ', H', I', r⟩ := hq
    exact ⟨σ', H', I', hR _ _ r⟩
  | brk => exact hq
  | cont => exact hq
  | ret v => exact hq
end L2
namespace L2
open PySem PySem.Spec PyProof.Rows
theorem bt_isinstance : bootBuiltins "isinstance" = some (.builtin "isinstance") := by decide +kernel
theorem bt_min : bootBuiltins "min" = some (.builtin "min") := by decide +kernel
theorem bt_max : bootBuiltins "max" = some (.builtin "max") := by decide +kernel
theorem bt_int : bootBuiltins "int" = some (.type "int") := by decide +kernel
theorem bt_bool : bootBuiltins "bool" = some (.type "bool") := by decide +kernel
theorem bt_list : bootBuiltins "list" = some (.type "list") := by decide +kernel
theorem bt_reversed : bootBuiltins "reversed" = some (.type "reversed") := by decide +kernel
def cInts : List Expr → Option (List Int)
  | [] => some []
  | .Constant (.int i) _ _ :: r => (cInts r).map (i :: ·)
  | _ => none
theorem pa_ints {X : Cx} : ∀ {es : List Expr} {ns : List Int}, cInts es = some ns → PA X es (fun _ H Q => Q (ns.map V.int) H)
  | [], ns, h => by
    simp only [cInts, Option.some.injEq] at h
    subst h
    exact pa_nil
  | e :: es, ns, h => by
    cases e with
    | Constant c k p =>
      cases c with
      | int i =>
        simp only [cInts, Option.map_eq_some_iff] at h
        obtain ⟨ms, h1, rfl⟩ := h
        have q := pa_cons (X := X) (e := .Constant (.int i) k p) pe_int (pa_ints h1) rfl
        exact q
      | _ => simp [cInts] at h
    | _ => simp [cInts] at h
theorem int_pow_le {a b : Int} (h0 : 0 ≤ a) (h : a ≤ b) : ∀ n : Nat, a ^ n ≤ b ^ n
  | 0 => by simp
  | n + 1 => by
    rw [Int.pow_succ, Int.pow_succ]
    have h1 := int_pow_le h0 h n
    have h2 : 0 ≤ a ^ n := Int.pow_nonneg h0
    exact Int.mul_le_mul h1 h h0 (Int.le_trans h2 h1)
end L2
namespace L2
open PySem PySem.Spec PyProof.Rows
theorem ps_eq {X : Cx} {st st' : Stmt} {t : TS} (e : st = st') (h : PS X st' t) : PS X st t := by subst e; exact h
theorem ps_setInts {X : Cx} {st : Stmt} {i : Nat} {x : Str} {es : List Expr} {ns : List Int} {p1 p2 pos : Pos} (e : st = .Assign [.Name x p1] (.List es p2) pos) (hc : cInts es = some ns) (hN : X.N.Nodup) (hi : X.N[i]? = some x) (hx : Loc X.env.scope x)
    (hf : X.fn x = true ∨ X.env.scope.names.lookup x = some .local) : PS X st (tAsg (tLst fun _ H Q => Q (ns.map V.int) H) (gName i)) := by
  subst e
  exact ps_set hN hi hx (pe_lst (pa_ints hc)) rfl hf
end L2
namespace L2
open PySem PySem.Spec PyProof.Rows
def ForIt (J : It) (g : TG) (tb : TS) (D : Ends) (σ : St) (H : Hp) : Prop := ∃ W : Nat → Nat → St → Hp → Prop, (∃ m, W 0 m σ H) ∧ ∀ i m σ H, W i m σ H →
  (J.stop i H ∧ D.nx σ H) ∨ (J.go i H ∧ ∃ N : St → Hp → Prop, (∀ σ' H', N σ' H' → ∃ m', m' < m ∧ W (i + 1) m' σ' H') ∧ ∀ x H', J.yld i H x H' → g x σ H' fun σ2 H2 => tb { D with nx := N, ct := N, bk := D.nx } σ2 H2)
theorem w_for {wi : TI} {g : TG} {tb : TS} {D : Ends} {σ : St} {H : Hp} : tFor wi g tb D σ H = wi σ H fun J H1 => ForIt J g tb D σ H1 := rfl
section
variable {lo c : Int} {n : Nat} {K : PySem.W.Frag} {a : Addr} {xs : List V} {g : TG} {tb : TS} {D : Ends} {σ : St} {H : Hp}
theorem forR (Pv : Nat → St → Hp → Prop) (h0 : Pv 0 σ H)
    (hs : ∀ i σ H, i < n → Pv i σ H → g (.int (lo + i)) σ H fun σ2 H2 => tb { D with nx := Pv (i + 1), ct := Pv (i + 1), bk := D.nx } σ2 H2) (hd : ∀ σ H, Pv n σ H → D.nx σ H) : ForIt (Itr lo n) g tb D σ H := for_range Pv h0 hs hd
theorem forL (xs : List V) (Pv : Nat → St → Hp → Prop) (h0 : Pv 0 σ H) (hl : ∀ i σ H, i ≤ xs.length → Pv i σ H → SqL K H a xs)
    (hs : ∀ i x σ H, xs[i]? = some x → Pv i σ H → g x σ H fun σ2 H2 => tb { D with nx := Pv (i + 1), ct := Pv (i + 1), bk := D.nx } σ2 H2) (hd : ∀ σ H, Pv xs.length σ H → D.nx σ H) : ForIt (Itl K a) g tb D σ H := for_list Pv h0 hl hs hd
theorem forI (ns : List Int) (Pv : Nat → St → Hp → Prop) (h0 : Pv 0 σ H) (hl : ∀ i σ H, Pv i σ H → SqL K H a (ns.map V.int))
    (hs : ∀ i (x : Int) σ H, ns[i]? = some x → Pv i σ H → g (.int x) σ H fun σ2 H2 => tb { D with nx := Pv (i + 1), ct := Pv (i + 1), bk := D.nx } σ2 H2) (hd : ∀ σ H, Pv ns.length σ H → D.nx σ H) : ForIt (Itl K a) g tb D σ H := by
  refine forL (ns.map V.int) Pv h0 (fun i σ H _ h => hl i σ H h) (fun i v σ H hv p => ?_) (fun σ H p => hd σ H (by rw [List.length_map] at p; exact p))
  rw [List.getElem?_map] at hv
  cases z : ns[i]? with
  | none => rw [z] at hv; cases hv
  | some x =>
    rw [z] at hv
    cases hv
    exact hs i x σ H z p
end
theorem whB {c : TT} {tb : TS} {D : Ends} {σ : St} {H : Hp} (W : Nat → St → Hp → Prop) (m : Nat) (h0 : W m σ H) (hs : ∀ m σ H, W m σ H →
    c σ H fun b H1 => if b = true then ∃ N : St → Hp → Prop, (∀ σ' H', N σ' H' → ∃ m', m' < m ∧ W m' σ' H') ∧ tb { D with nx := N, ct := N, bk := D.nx } σ H1 else D.nx σ H1) : tWhile c tb D σ H := ⟨W, ⟨m, h0⟩, hs⟩
theorem Same.up {H H' : Hp} (g : Same H H') {p : Addr} (hp : H p = none) (o : HO) : Same H (upd H' p o) := fun b u q => by rw [upd_ne (ne_of_none q hp)]; exact g b u q
theorem joinB {t : TS} {D : Ends} {σ : St} {H : Hp} (R : St → Hp → Prop) (h : t { D with nx := R } σ H) (hR : ∀ σ' H', R σ' H' → D.nx σ' H') : tJoin t D σ H := ⟨R, hR, h⟩
theorem sc_ii {a b : Int} : scal (.int a) (.int b) = true := rfl
theorem sc_bb {a b : Bool} : scal (.bl a) (.bl b) = true := rfl
theorem sc_in {a : Int} : scal (.int a) .non = true := rfl
theorem sc_ni {a : Int} : scal .non (.int a) = true := rfl
theorem sc_ss {a b : Str} : scal (.str a) (.str b) = true := rfl
theorem sc_nn : scal .non .non = true := rfl
theorem sc_bn {a : Bool} : scal (.bl a) .non = true := rfl
theorem sc_is {a : Int} {b : Str} : scal (.int a) (.str b) = true := rfl
theorem kit_int_int (K : PySem.W.Frag) : PySem.W.kitOne K (.type "int") (.type "int") = some true := by unfold PySem.W.kitOne; rw [if_pos (by decide)]
theorem kit_int_bool (K : PySem.W.Frag) : PySem.W.kitOne K (.type "int") (.type "bool") = some false := by unfold PySem.W.kitOne; rw [if_neg (by decide)]; kernel_rfl
theorem kit_int_str (K : PySem.W.Frag) : PySem.W.kitOne K (.type "int") (.type "str") = some false := by unfold PySem.W.kitOne; rw [if_neg (by decide)]; kernel_rfl
theorem kit_int_list (K : PySem.W.Frag) : PySem.W.kitOne K (.type "int") (.type "list") = some false := by unfold PySem.W.kitOne; rw [if_neg (by decide)]; kernel_rfl
theorem kit_int_tuple (K : PySem.W.Frag) : PySem.W.kitOne K (.type "int") (.type "tuple") = some false := by unfold PySem.W.kitOne; rw [if_neg (by decide)]; kernel_rfl
theorem kit_int_dict (K : PySem.W.Frag) : PySem.W.kitOne K (.type "int") (.type "dict") = some false := by unfold PySem.W.kitOne; rw [if_neg (by decide)]; kernel_rfl
theorem kit_bool_int (K : PySem.W.Frag) : PySem.W.kitOne K (.type "bool") (.type "int") = some true := by unfold PySem.W.kitOne; rw [if_neg (by decide)]; kernel_rfl
theorem kit_bool_bool (K : PySem.W.Frag) : PySem.W.kitOne K (.type "bool") (.type "bool") = some true := by unfold PySem.W.kitOne; rw [if_pos (by decide)]
theorem kit_bool_str (K : PySem.W.Frag) : PySem.W.kitOne K (.type "bool") (.type "str") = some false := by unfold PySem.W.kitOne; rw [if_neg (by decide)]; kernel_rfl
theorem kit_bool_list (K : PySem.W.Frag) : PySem.W.kitOne K (.type "bool") (.type "list") = some false := by unfold PySem.W.kitOne; rw [if_neg (by decide)]; kernel_rfl
theorem kit_bool_tuple (K : PySem.W.Frag) : PySem.W.kitOne K (.type "bool") (.type "tuple") = some false := by unfold PySem.W.kitOne; rw [if_neg (by decide)]; kernel_rfl
theorem kit_bool_dict (K : PySem.W.Frag) : PySem.W.kitOne K (.type "bool") (.type "dict") = some false := by unfold PySem.W.kitOne; rw [if_neg (by decide)]; kernel_rfl
theorem kit_NoneType_int (K : PySem.W.Frag) : PySem.W.kitOne K (.type "NoneType") (.type "int") = some false := by unfold PySem.W.kitOne; rw [if_neg (by decide)]; kernel_rfl
theorem kit_NoneType_bool (K : PySem.W.Frag) : PySem.W.kitOne K (.type "NoneType") (.type "bool") = some false := by unfold PySem.W.kitOne; rw [if_neg (by decide)]; kernel_rfl
theorem kit_NoneType_str (K : PySem.W.Frag) : PySem.W.kitOne K (.type "NoneType") (.type "str") = some false := by unfold PySem.W.kitOne; rw [if_neg (by decide)]; kernel_rfl
theorem kit_NoneType_list (K : PySem.W.Frag) : PySem.W.kitOne K (.type "NoneType") (.type "list") = some false := by unfold PySem.W.kitOne; rw [if_neg (by decide)]; kernel_rfl
theorem kit_NoneType_tuple (K : PySem.W.Frag) : PySem.W.kitOne K (.type "NoneType") (.type "tuple") = some false := by unfold PySem.W.kitOne; rw [if_neg (by decide)]; kernel_rfl
theorem kit_NoneType_dict (K : PySem.W.Frag) : PySem.W.kitOne K (.type "NoneType") (.type "dict") = some false := by unfold PySem.W.kitOne; rw [if_neg (by decide)]; kernel_rfl
theorem kit_str_int (K : PySem.W.Frag) : PySem.W.kitOne K (.type "str") (.type "int") = some false := by unfold PySem.W.kitOne; rw [if_neg (by decide)]; kernel_rfl
theorem kit_str_bool (K : PySem.W.Frag) : PySem.W.kitOne K (.type "str") (.type "bool") = some false := by unfold PySem.W.kitOne; rw [if_neg (by decide)]; kernel_rfl
theorem kit_str_str (K : PySem.W.Frag) : PySem.W.kitOne K (.type "str") (.type "str") = some true := by unfold PySem.W.kitOne; rw [if_pos (by decide)]
theorem kit_str_list (K : PySem.W.Frag) : PySem.W.kitOne K (.type "str") (.type "list") = some false := by unfold PySem.W.kitOne; rw [if_neg (by decide)]; kernel_rfl
theorem kit_str_tuple (K : PySem.W.Frag) : PySem.W.kitOne K (.type "str") (.type "tuple") = some false := by unfold PySem.W.kitOne; rw [if_neg (by decide)]; kernel_rfl
theorem kit_str_dict (K : PySem.W.Frag) : PySem.W.kitOne K (.type "str") (.type "dict") = some false := by unfold PySem.W.kitOne; rw [if_neg (by decide)]; kernel_rfl
theorem kit_list_int (K : PySem.W.Frag) : PySem.W.kitOne K (.type "list") (.type "int") = some false := by unfold PySem.W.kitOne; rw [if_neg (by decide)]; kernel_rfl
theorem kit_list_bool (K : PySem.W.Frag) : PySem.W.kitOne K (.type "list") (.type "bool") = some false := by unfold PySem.W.kitOne; rw [if_neg (by decide)]; kernel_rfl
theorem kit_list_str (K : PySem.W.Frag) : PySem.W.kitOne K (.type "list") (.type "str") = some false := by unfold PySem.W.kitOne; rw [if_neg (by decide)]; kernel_rfl
theorem kit_list_list (K : PySem.W.Frag) : PySem.W.kitOne K (.type "list") (.type "list") = some true := by unfold PySem.W.kitOne; rw [if_pos (by decide)]
theorem kit_list_tuple (K : PySem.W.Frag) : PySem.W.kitOne K (.type "list") (.type "tuple") = some false := by unfold PySem.W.kitOne; rw [if_neg (by decide)]; kernel_rfl
theorem kit_list_dict (K : PySem.W.Frag) : PySem.W.kitOne K (.type "list") (.type "dict") = some false := by unfold PySem.W.kitOne; rw [if_neg (by decide)]; kernel_rfl
theorem kit_tuple_int (K : PySem.W.Frag) : PySem.W.kitOne K (.type "tuple") (.type "int") = some false := by unfold PySem.W.kitOne; rw [if_neg (by decide)]; kernel_rfl
theorem kit_tuple_bool (K : PySem.W.Frag) : PySem.W.kitOne K (.type "tuple") (.type "bool") = some false := by unfold PySem.W.kitOne; rw [if_neg (by decide)]; kernel_rfl
theorem kit_tuple_str (K : PySem.W.Frag) : PySem.W.kitOne K (.type "tuple") (.type "str") = some false := by unfold PySem.W.kitOne; rw [if_neg (by decide)]; kernel_rfl
theorem kit_tuple_list (K : PySem.W.Frag) : PySem.W.kitOne K (.type "tuple") (.type "list") = some false := by unfold PySem.W.kitOne; rw [if_neg (by decide)]; kernel_rfl
theorem kit_tuple_tuple (K : PySem.W.Frag) : PySem.W.kitOne K (.type "tuple") (.type "tuple") = some true := by unfold PySem.W.kitOne; rw [if_pos (by decide)]
theorem kit_tuple_dict (K : PySem.W.Frag) : PySem.W.kitOne K (.type "tuple") (.type "dict") = some false := by unfold PySem.W.kitOne; rw [if_neg (by decide)]; kernel_rfl
theorem kit_dict_int (K : PySem.W.Frag) : PySem.W.kitOne K (.type "dict") (.type "int") = some false := by unfold PySem.W.kitOne; rw [if_neg (by decide)]; kernel_rfl
theorem kit_dict_bool (K : PySem.W.Frag) : PySem.W.kitOne K (.type "dict") (.type "bool") = some false := by unfold PySem.W.kitOne; rw [if_neg (by decide)]; kernel_rfl
theorem kit_dict_str (K : PySem.W.Frag) : PySem.W.kitOne K (.type "dict") (.type "str") = some false := by unfold PySem.W.kitOne; rw [if_neg (by decide)]; kernel_rfl
theorem kit_dict_list (K : PySem.W.Frag) : PySem.W.kitOne K (.type "dict") (.type "list") = some false := by unfold PySem.W.kitOne; rw [if_neg (by decide)]; kernel_rfl
theorem kit_dict_tuple (K : PySem.W.Frag) : PySem.W.kitOne K (.type "dict") (.type "tuple") = some false := by unfold PySem.W.kitOne; rw [if_neg (by decide)]; kernel_rfl
theorem kit_dict_dict (K : PySem.W.Frag) : PySem.W.kitOne K (.type "dict") (.type "dict") = some true := by unfold PySem.W.kitOne; rw [if_pos (by decide)]
abbrev bnames : List String := ["int", "bool", "str", "list", "tuple", "dict"]
def isiT (a b : String) : Option Bool := if b ∈ bnames then some (a == b || (a == "bool" && b == "int")) else none
theorem isi_int {K : PySem.W.Frag} {b : String} {v : Bool} (h : isiT "int" b = some v) : PySem.W.kitOne K (.type "int") (.type b) = some v := by
  unfold isiT at h
  split at h
  · rename_i z
    cases h
    simp only [bnames, List.mem_cons, List.not_mem_nil, or_false] at z
    rcases z with rfl | rfl | rfl | rfl | rfl | rfl
    · exact kit_int_int K
    · exact kit_int_bool K
    · exact kit_int_str K
    · exact kit_int_list K
    · exact kit_int_tuple K
    · exact kit_int_dict K
  · cases h
theorem isi_bool {K : PySem.W.Frag} {b : String} {v : Bool} (h : isiT "bool" b = some v) : PySem.W.kitOne K (.type "bool") (.type b) = some v := by
  unfold isiT at h
  split at h
  · rename_i z
    cases h
    simp only [bnames, List.mem_cons, List.not_mem_nil, or_false] at z
    rcases z with rfl | rfl | rfl | rfl | rfl | rfl
    · exact kit_bool_int K
    · exact kit_bool_bool K
    · exact kit_bool_str K
    · exact kit_bool_list K
    · exact kit_bool_tuple K
    · exact kit_bool_dict K
  · cases h
theorem isi_NoneType {K : PySem.W.Frag} {b : String} {v : Bool} (h : isiT "NoneType" b = some v) : PySem.W.kitOne K (.type "NoneType") (.type b) = some v := by
  unfold isiT at h
  split at h
  · rename_i z
    cases h
    simp only [bnames, List.mem_cons, List.not_mem_nil, or_false] at z
    rcases z with rfl | rfl | rfl | rfl | rfl | rfl
    · exact kit_NoneType_int K
    · exact kit_NoneType_bool K
    · exact kit_NoneType_str K
    · exact kit_NoneType_list K
    · exact kit_NoneType_tuple K
    · exact kit_NoneType_dict K
  · cases h
theorem isi_str {K : PySem.W.Frag} {b : String} {v : Bool} (h : isiT "str" b = some v) : PySem.W.kitOne K (.type "str") (.type b) = some v := by
  unfold isiT at h
  split at h
  · rename_i z
    cases h
    simp only [bnames, List.mem_cons, List.not_mem_nil, or_false] at z
    rcases z with rfl | rfl | rfl | rfl | rfl | rfl
    · exact kit_str_int K
    · exact kit_str_bool K
    · exact kit_str_str K
    · exact kit_str_list K
    · exact kit_str_tuple K
    · exact kit_str_dict K
  · cases h
theorem isi_list {K : PySem.W.Frag} {b : String} {v : Bool} (h : isiT "list" b = some v) : PySem.W.kitOne K (.type "list") (.type b) = some v := by
  unfold isiT at h
  split at h
  · rename_i z
    cases h
    simp only [bnames, List.mem_cons, List.not_mem_nil, or_false] at z
    rcases z with rfl | rfl | rfl | rfl | rfl | rfl
    · exact kit_list_int K
    · exact kit_list_bool K
    · exact kit_list_str K
    · exact kit_list_list K
    · exact kit_list_tuple K
    · exact kit_list_dict K
  · cases h
theorem isi_tuple {K : PySem.W.Frag} {b : String} {v : Bool} (h : isiT "tuple" b = some v) : PySem.W.kitOne K (.type "tuple") (.type b) = some v := by
  unfold isiT at h
  split at h
  · rename_i z
    cases h
    simp only [bnames, List.mem_cons, List.not_mem_nil, or_false] at z
    rcases z with rfl | rfl | rfl | rfl | rfl | rfl
    · exact kit_tuple_int K
    · exact kit_tuple_bool K
    · exact kit_tuple_str K
    · exact kit_tuple_list K
    · exact kit_tuple_tuple K
    · exact kit_tuple_dict K
  · cases h
theorem isi_dict {K : PySem.W.Frag} {b : String} {v : Bool} (h : isiT "dict" b = some v) : PySem.W.kitOne K (.type "dict") (.type b) = some v := by
  unfold isiT at h
  split at h
  · rename_i z
    cases h
    simp only [bnames, List.mem_cons, List.not_mem_nil, or_false] at z
    rcases z with rfl | rfl | rfl | rfl | rfl | rfl
    · exact kit_dict_int K
    · exact kit_dict_bool K
    · exact kit_dict_str K
    · exact kit_dict_list K
    · exact kit_dict_tuple K
    · exact kit_dict_dict K
  · cases h
def isiV : V → String → Option Bool
  | .int _, n => isiT "int" n
  | .bl _, n => isiT "bool" n
  | .non, n => isiT "NoneType" n
  | .str _, n => isiT "str" n
  | _, _ => none
def isiO : HO → String → Option Bool
  | .lst _, n => isiT "list" n
  | .tup _, n => isiT "tuple" n
  | .dK _, n => isiT "dict" n
  | _, _ => none
section
variable {X : Cx}
theorem call_isiS : CallR X (.builtin "isinstance") (fun xs H Q => ∃ x n, xs = [x, .ty n] ∧ ∃ b, isiV x n = some b ∧ Q (.bl b) H) := by
  intro pins s σ H xs us Q I r h
  obtain ⟨x, n, rfl, b, e, q⟩ := h
  refine call_isinst pins s σ H _ us Q I r ?_
  cases x with
  | int i => exact ⟨_, _, _, b, rfl, rfl, .int i, isi_int e, q⟩
  | bl i => exact ⟨_, _, _, b, rfl, rfl, .bl i, isi_bool e, q⟩
  | non => exact ⟨_, _, _, b, rfl, rfl, .non, isi_NoneType e, q⟩
  | str i => exact ⟨_, _, _, b, rfl, rfl, .str i, isi_str e, q⟩
  | _ => cases e
theorem call_isiO : CallR X (.builtin "isinstance") (fun xs H Q => ∃ a n, xs = [.ref a, .ty n] ∧ ∃ o, H a = some o ∧ ∃ b, isiO o n = some b ∧ Q (.bl b) H) := by
  intro pins s σ H xs us Q I r h
  obtain ⟨a, n, rfl, o, ho, b, e, q⟩ := h
  refine call_isinst pins s σ H _ us Q I r ?_
  cases o with
  | lst ys => exact ⟨_, _, _, b, rfl, rfl, .lst ho, isi_list e, q⟩
  | tup ys => exact ⟨_, _, _, b, rfl, rfl, .tup ho, isi_tuple e, q⟩
  | dK ys => exact ⟨_, _, _, b, rfl, rfl, .dK ho, isi_dict e, q⟩
  | _ => cases e
end
theorem isv_int_int {i : Int} : isiV (.int i) "int" = some true := (by decide : isiT "int" "int" = _)
theorem isv_int_bool {i : Int} : isiV (.int i) "bool" = some false := (by decide : isiT "int" "bool" = _)
theorem isv_int_str {i : Int} : isiV (.int i) "str" = some false := (by decide : isiT "int" "str" = _)
theorem isv_int_list {i : Int} : isiV (.int i) "list" = some false := (by decide : isiT "int" "list" = _)
theorem isv_int_tuple {i : Int} : isiV (.int i) "tuple" = some false := (by decide : isiT "int" "tuple" = _)
theorem isv_int_dict {i : Int} : isiV (.int i) "dict" = some false := (by decide : isiT "int" "dict" = _)
theorem isv_bool_int {i : Bool} : isiV (.bl i) "int" = some true := (by decide : isiT "bool" "int" = _)
theorem isv_bool_bool {i : Bool} : isiV (.bl i) "bool" = some true := (by decide : isiT "bool" "bool" = _)
theorem isv_bool_str {i : Bool} : isiV (.bl i) "str" = some false := (by decide : isiT "bool" "str" = _)
theorem isv_bool_list {i : Bool} : isiV (.bl i) "list" = some false := (by decide : isiT "bool" "list" = _)
theorem isv_bool_tuple {i : Bool} : isiV (.bl i) "tuple" = some false := (by decide : isiT "bool" "tuple" = _)
theorem isv_bool_dict {i : Bool} : isiV (.bl i) "dict" = some false := (by decide : isiT "bool" "dict" = _)
theorem isv_NoneType_int  : isiV (.non) "int" = some false := by decide
theorem isv_NoneType_bool  : isiV (.non) "bool" = some false := by decide
theorem isv_NoneType_str  : isiV (.non) "str" = some false := by decide
theorem isv_NoneType_list  : isiV (.non) "list" = some false := by decide
theorem isv_NoneType_tuple  : isiV (.non) "tuple" = some false := by decide
theorem isv_NoneType_dict  : isiV (.non) "dict" = some false := by decide
theorem isv_str_int {i : Str} : isiV (.str i) "int" = some false := (by decide : isiT "str" "int" = _)
theorem isv_str_bool {i : Str} : isiV (.str i) "bool" = some false := (by decide : isiT "str" "bool" = _)
theorem isv_str_str {i : Str} : isiV (.str i) "str" = some true := (by decide : isiT "str" "str" = _)
theorem isv_str_list {i : Str} : isiV (.str i) "list" = some false := (by decide : isiT "str" "list" = _)
theorem isv_str_tuple {i : Str} : isiV (.str i) "tuple" = some false := (by decide : isiT "str" "tuple" = _)
theorem isv_str_dict {i : Str} : isiV (.str i) "dict" = some false := (by decide : isiT "str" "dict" = _)
theorem iso_list_int {xs : List V} : isiO (.lst xs) "int" = some false := (by decide : isiT "list" "int" = _)
theorem iso_list_bool {xs : List V} : isiO (.lst xs) "bool" = some false := (by decide : isiT "list" "bool" = _)
theorem iso_list_str {xs : List V} : isiO (.lst xs) "str" = some false := (by decide : isiT "list" "str" = _)
theorem iso_list_list {xs : List V} : isiO (.lst xs) "list" = some true := (by decide : isiT "list" "list" = _)
theorem iso_list_tuple {xs : List V} : isiO (.lst xs) "tuple" = some false := (by decide : isiT "list" "tuple" = _)
theorem iso_list_dict {xs : List V} : isiO (.lst xs) "dict" = some false := (by decide : isiT "list" "dict" = _)
theorem iso_tuple_int {xs : List V} : isiO (.tup xs) "int" = some false := (by decide : isiT "tuple" "int" = _)
theorem iso_tuple_bool {xs : List V} : isiO (.tup xs) "bool" = some false := (by decide : isiT "tuple" "bool" = _)
theorem iso_tuple_str {xs : List V} : isiO (.tup xs) "str" = some false := (by decide : isiT "tuple" "str" = _)
theorem iso_tuple_list {xs : List V} : isiO (.tup xs) "list" = some false := (by decide : isiT "tuple" "list" = _)
theorem iso_tuple_tuple {xs : List V} : isiO (.tup xs) "tuple" = some true := (by decide : isiT "tuple" "tuple" = _)
theorem iso_tuple_dict {xs : List V} : isiO (.tup xs) "dict" = some false := (by decide : isiT "tuple" "dict" = _)
theorem iso_dict_int {xs : List (Key × V)} : isiO (.dK xs) "int" = some false := (by decide : isiT "dict" "int" = _)
theorem iso_dict_bool {xs : List (Key × V)} : isiO (.dK xs) "bool" = some false := (by decide : isiT "dict" "bool" = _)
theorem iso_dict_str {xs : List (Key × V)} : isiO (.dK xs) "str" = some false := (by decide : isiT "dict" "str" = _)
theorem iso_dict_list {xs : List (Key × V)} : isiO (.dK xs) "list" = some false := (by decide : isiT "dict" "list" = _)
theorem iso_dict_tuple {xs : List (Key × V)} : isiO (.dK xs) "tuple" = some false := (by decide : isiT "dict" "tuple" = _)
theorem iso_dict_dict {xs : List (Key × V)} : isiO (.dK xs) "dict" = some true := (by decide : isiT "dict" "dict" = _)
end L2
namespace L2
open PySem PySem.Spec PyProof.Rows
def CompIt (J : It) (caps : List Nat) (tt : TT) (te : TE) (σ : St) (H : Hp) (Q : VK) : Prop := ∃ (n : Nat) (W : Nat → List V → Hp → Prop), n ≤ sizeLine ∧ W 0 [] H ∧ ∀ i ys H2, W i ys H2 →
  (J.stop i H2 ∧ ∀ p, H2 p = none → Q (.ref p) (upd H2 p (.lst ys))) ∨
  (J.go i H2 ∧ i < n ∧ ∀ x H3, J.yld i H2 x H3 → tt (some x :: capV caps σ) H3 fun b H4 => if b = true then te (some x :: capV caps σ) H4 fun v H5 => W (i + 1) (ys ++ [v]) H5 else W (i + 1) ys H4)
theorem w_comp {caps : List Nat} {wi : TI} {tt : TT} {te : TE} {σ : St} {H : Hp} {Q : VK} : tComp caps wi tt te σ H Q = wi σ H fun J H1 => CompIt J caps tt te σ H1 Q := rfl
section
variable {lo : Int} {n : Nat} {K : PySem.W.Frag} {a : Addr} {caps : List Nat} {tt : TT} {te : TE} {σ : St} {H : Hp} {Q : VK}
theorem compR (Pv : Nat → List V → Hp → Prop) (hn : n ≤ sizeLine) (h0 : Pv 0 [] H)
    (hs : ∀ i ys H, i < n → Pv i ys H → tt (some (.int (lo + i)) :: capV caps σ) H fun b H4 => if b = true then te (some (.int (lo + i)) :: capV caps σ) H4 fun v H5 => Pv (i + 1) (ys ++ [v]) H5 else Pv (i + 1) ys H4)
    (hd : ∀ ys H, Pv n ys H → ∀ p, H p = none → Q (.ref p) (upd H p (.lst ys))) : CompIt (Itr lo n) caps tt te σ H Q := by
  refine ⟨n, fun i ys H => i ≤ n ∧ Pv i ys H, hn, ⟨Nat.zero_le _, h0⟩, ?_⟩
  rintro i ys H2 ⟨hi, p⟩
  by_cases hlt : i < n
  · refine .inr ⟨hlt, hlt, ?_⟩
    rintro x H3 ⟨rfl, rfl⟩
    have key := hs i ys H3 hlt p
    have e1 : ∀ H5 zs, Pv (i + 1) zs H5 → i + 1 ≤ n ∧ Pv (i + 1) zs H5 := fun _ _ h => ⟨hlt, h⟩
    have e2 : (fun (b : Bool) (H4 : Hp) => if b = true then te (some (.int (lo + i)) :: capV caps σ) H4 fun v H5 => Pv (i + 1) (ys ++ [v]) H5 else Pv (i + 1) ys H4) = fun b H4 => if b = true then te (some (.int (lo + i)) :: capV caps σ) H4 fun v H5 => i + 1 ≤ n ∧ Pv (i + 1) (ys ++ [v]) H5 else i + 1 ≤ n ∧ Pv (i + 1) ys H4 := by
      funext b H4
      have z : i + 1 ≤ n := hlt
      simp only [z, true_and]
    rw [e2] at key
    exact key
  · have e : i = n := by omega
    subst e
    exact .inl ⟨Nat.le_refl _, hd ys H2 p⟩
theorem compI (ns : List Int) (Pv : Nat → List V → Hp → Prop) (hn : ns.length ≤ sizeLine) (h0 : Pv 0 [] H) (hl : ∀ i ys H, Pv i ys H → SqL K H a (ns.map V.int))
    (hs : ∀ i (x : Int) ys H, ns[i]? = some x → Pv i ys H → tt (some (.int x) :: capV caps σ) H fun b H4 => if b = true then te (some (.int x) :: capV caps σ) H4 fun v H5 => Pv (i + 1) (ys ++ [v]) H5 else Pv (i + 1) ys H4)
    (hd : ∀ ys H, Pv ns.length ys H → ∀ p, H p = none → Q (.ref p) (upd H p (.lst ys))) : CompIt (Itl K a) caps tt te σ H Q := by
  refine ⟨ns.length, fun i ys H => i ≤ ns.length ∧ Pv i ys H, hn, ⟨Nat.zero_le _, h0⟩, ?_⟩
  rintro i ys H2 ⟨hi, p⟩
  have hS := hl i ys H2 p
  by_cases hlt : i < ns.length
  · obtain ⟨x, hx⟩ : ∃ x, ns[i]? = some x := ⟨ns[i], List.getElem?_eq_getElem hlt⟩
    have hv : (ns.map V.int)[i]? = some (.int x) := by rw [List.getElem?_map, hx]; rfl
    refine .inr ⟨⟨_, _, hS, hv⟩, hlt, ?_⟩
    rintro y H3 ⟨rfl, hy⟩
    have hxy : y = .int x := (Option.some.inj (hv.symm.trans (hy _ hS))).symm
    subst hxy
    have key := hs i x ys H3 hx p
    have e2 : (fun (b : Bool) (H4 : Hp) => if b = true then te (some (.int x) :: capV caps σ) H4 fun v H5 => Pv (i + 1) (ys ++ [v]) H5 else Pv (i + 1) ys H4) = fun b H4 => if b = true then te (some (.int x) :: capV caps σ) H4 fun v H5 => i + 1 ≤ ns.length ∧ Pv (i + 1) (ys ++ [v]) H5 else i + 1 ≤ ns.length ∧ Pv (i + 1) ys H4 := by
      funext b H4
      have z : i + 1 ≤ ns.length := hlt
      simp only [z, true_and]
    rw [e2] at key
    exact key
  · have e : i = ns.length := by omega
    subst e
    exact .inl ⟨⟨_, hS, by rw [List.length_map]; exact Nat.le_refl _⟩, hd ys H2 p⟩
end
theorem cx_K {CX : CXT} {P : Program} {w : World} {K : PySem.W.Frag} {mg : Str → Option Value} {base : Heap} {N : List Str} {qual : Str} {scope : Scope} {f : Addr} {cd : Value} {A : Around} {outer : List Env} {s : Shared} {H : Hp} {E : XK} : (cxOf CX P w K mg base N qual scope f cd A outer s H E).K = K := rfl
theorem cc_K {X : Cx} {N : List Str} {scope : Scope} {cl : List (Str × Addr)} {C : Addr} {s : Shared} {H : Hp} {fp : List Addr} : (compCx X N scope cl C s H fp).K = X.K := rfl
end L2
namespace Rv
open PySem PySem.Spec PyProof.Rows
theorem lri_nolen : typeLookup (.type "list_reverseiterator") "__len__" = pure none := by rw [typeLookup_type, builtinLookup_eq_fast]; kernel_rfl
theorem lri_hint : typeLookup (.type "list_reverseiterator") "__length_hint__" = pure (some (.builtin "list_reverseiterator.__length_hint__")) := by rw [typeLookup_type, builtinLookup_eq_fast]; kernel_rfl
section
variable {prog : Program} {w : World} {A : Around} {E : Value → Shared → Prop} {s : Shared}
theorem hint_rev {it l : Addr} {i : Int} {Q : Bool → Shared → Prop} (hit : s.heap.IsRevIter it l i) (h : Q false s) : wpAny (model prog w) A (Builtin.List.listLengthHint (.ref it)) Q E s := by
  unfold Builtin.List.listLengthHint
  refine wpAny_bind (wpAny_specialOf hit.typeIs lri_nolen ?_)
  wp_delta
  refine wpAny_bind (wpAny_specialOf hit.typeIs lri_hint ?_)
  wp_delta
  refine wpAny_bind (wpAny_isInstance (T := "list_reverseiterator") (b := true) hit.typeIs (by rw [isSubtype_type]; kernel_rfl) ?_)
  exact wpAny_pure h
theorem extend_rev {R : Result → Shared → Prop} {it l : Addr} {items : Array Value} (hh : A.handled = none) (hit : s.heap.IsRevIter it l ((items.size : Int) - 1)) (hl : s.heap.IsList l items) (hli : l ≠ it) (hz : items.size ≤ sizeLine)
    (S : Addr) (hSi : S ≠ it) (hSl : S ≠ l) (res : Value) (c₀ : Nat) (hS : s.heap.get? S = some { cls := .type "list", data := .seq #[] c₀ })
    (hR : ∀ h' tk acc' c', (∀ b o, b ≠ S → b ≠ it → s.heap.get? b = some o → h'.get? b = some o) → h'.get? S = some { cls := .type "list", dict := none, data := .seq acc' c', slots := #[] } →
      ItemsOf (fun i v => items[items.size - 1 - i]? = some v) acc' items.size → R (.ok (.ret res)) { s with heap := h', toks := tk }) :
    wpAny (model prog w) A.in1 (Builtin.List.listExtendWith (.ref S) (.ref it) res)
      (fun fin s' => match fin with | .done f => R (.ok f) s' | .again c' => c'.quiet = true ∧ codeAny (model prog w) A c' R s') (fun e s' => R (.error e) s') s := by
  have hSf : S ∉ [it, l] := fun hm => by
    simp only [List.mem_cons, List.not_mem_nil, or_false] at hm
    rcases hm with z | z
    · exact hSi z
    · exact hSl z
  have W := (Walks.listRev (prog := prog) (w := w) (A := A.in1) hh it l hli items).toS
  unfold Builtin.List.listExtendWith
  refine wpAny_bind (wpAny_typeOf (T := "list_reverseiterator") hit.typeIs ?_)
  have h1 : Builtin.List.listSameRef (.ref S) (.ref it) = false := by simp [Builtin.List.listSameRef, hSi]
  have h2 : (Value.type "list_reverseiterator" == Value.type "list") = false := by decide
  have h3 : (Value.type "list_reverseiterator" == Value.type "tuple") = false := by decide
  simp only [h1, h2, h3, Bool.or_false, Bool.false_eq_true, if_false]
  refine wpAny_bind (wpAny_pyIter_revIter hit ?_)
  refine wpAny_bind (wpAny_holding (hint_rev hit ?_))
  rw [if_neg (by decide)]
  refine wpAny_pure ⟨plainId_quiet F.plain_extend_loop _, codeAny_extend_loopS W hz _ hSf _ items.size 0 _ _ _ rfl (Nat.zero_le _) ⟨Nat.zero_le _, by simpa using hit, hl⟩ hS (ItemsOf.nil _) fun s' acc' c' hm hS' hacc => ?_⟩
  rw [Moved.eq_with hm]
  refine hR s'.heap s'.toks acc' c' (fun b ob hb hb2 e => hm.heap b ob (fun hmem => ?_) e) hS' hacc
  rcases List.mem_cons.mp hmem with e' | hmem
  · exact hb e'
  · exact hb2 (List.mem_singleton.mp hmem)
theorem init_rev {R : Result → Shared → Prop} {it l : Addr} {items : Array Value} (hh : A.handled = none) (hit : s.heap.IsRevIter it l ((items.size : Int) - 1)) (hl : s.heap.IsList l items) (hli : l ≠ it) (hz : items.size ≤ sizeLine)
    (S : Addr) (hSi : S ≠ it) (hSl : S ≠ l) (hS : s.heap.get? S = some { cls := .type "list", data := .seq #[] })
    (hR : ∀ h' tk acc' c', (∀ b o, b ≠ S → b ≠ it → s.heap.get? b = some o → h'.get? b = some o) → h'.get? S = some { cls := .type "list", dict := none, data := .seq acc' c', slots := #[] } →
      ItemsOf (fun i v => items[items.size - 1 - i]? = some v) acc' items.size → R (.ok (.ret .none)) { s with heap := h', toks := tk }) :
    wpAny (model prog w) A.in1 (Builtin.«list.__init__» ⟨[.ref S, .ref it], []⟩)
      (fun fin s' => match fin with | .done f => R (.ok f) s' | .again c' => c'.quiet = true ∧ codeAny (model prog w) A c' R s') (fun e s' => R (.error e) s') s := by
  show wpAny _ _ (do let old ← Builtin.List.listItems (.ref S); Builtin.List.listUpdate (.ref S) (fun _ => #[]); letGo old.toList.reverse; Builtin.List.listExtendWith (.ref S) (.ref it) .none) _ _ s
  refine wpAny_bind ?_
  unfold Builtin.List.listItems
  refine wpAny_bind (wpAny_seqItems hS rfl (wpAny_pure ?_))
  show wpAny _ _ (updateSeq S (fun _ => #[]) >>= fun _ => letGo (#[] : Array Value).toList.reverse >>= fun _ => Builtin.List.listExtendWith (.ref S) (.ref it) .none) _ _ s
  refine wpAny_bind (wpAny_updateSeq hS rfl ?_)
  have hS₂ := Heap.get?_update_self (Obj.mapSeq (fun _ => (#[] : Array Value))) hS rfl
  have oth : ∀ b o, b ≠ S → s.heap.get? b = some o → (s.heap.update S (Obj.mapSeq (fun _ => (#[] : Array Value)))).get? b = some o :=
    fun b o hb e => (Heap.get?_update_other _ _ (Ne.symm hb)).trans e
  refine wpAny_bind (wpAny_letGo ?_)
  refine extend_rev hh (hit.at fun o e => oth it o (Ne.symm hSi) e) (hl.at fun o e => oth l o (Ne.symm hSl) e) hli hz S hSi hSl .none _ hS₂ fun h' tk acc' c' hk hS' hacc => ?_
  exact hR h' tk acc' c' (fun b o hb hb2 e => hk b o hb hb2 (oth b o hb e)) hS' hacc
end
section
variable {prog : Program} {w : World} {A : Around} {E : Value → Shared → Prop} {s : Shared}
theorem call_list_rev {Q : Value → Shared → Prop} {it l : Addr} {items : Array Value} (hh : A.handled = none) (hit : s.heap.IsRevIter it l ((items.size : Int) - 1)) (hl : s.heap.IsList l items) (hli : l ≠ it) (hz : items.size ≤ sizeLine)
    (hQ : ∀ h' tk acc' c', (∀ b o, b ≠ it → s.heap.get? b = some o → h'.get? b = some o) →
      h'.get? s.heap.objs.size = some { cls := .type "list", dict := none, data := .seq acc' c', slots := #[] } → ItemsOf (fun i v => items[items.size - 1 - i]? = some v) acc' items.size → Q (.ref s.heap.objs.size) { s with heap := h', toks := tk }) :
    wpAny (model prog w) A (call (.type "list") [.ref it]) Q E s := by
  refine callType_codes (Q₁ := fun obj s₁ => obj = .ref s.heap.objs.size ∧ s₁ = { s with heap := s.heap.push { cls := .type "list", data := .seq #[] } }) F.called_list (F.typeCall_list_1 _) F.entry_list_init
    (code_list_new _ ⟨rfl, rfl⟩) fun obj s₁ h₁ => ?_
  obtain ⟨rfl, rfl⟩ := h₁
  have hS : (s.heap.push { cls := .type "list", data := .seq #[] }).get? s.heap.objs.size = some { cls := .type "list", data := .seq #[] } := Heap.get?_push_size _ rfl
  obtain ⟨o1, ho1, _⟩ := id hit
  obtain ⟨o2, ho2, _⟩ := id hl
  refine ⟨⟨_, hS, rfl⟩, F.args_list_init_2 _ _, init_rev (A := A.in1) hh (hit.at fun o e => Heap.get?_push_of_some _ e) (hl.at fun o e => Heap.get?_push_of_some _ e) hli hz _ (Nat.ne_of_gt (Heap.lt_size ho1)) (Nat.ne_of_gt (Heap.lt_size ho2)) hS fun h' tk acc' c' hk hS' hacc => ?_⟩
  exact ⟨rfl, hQ h' tk acc' c' (fun b o hb e => hk b o (Nat.ne_of_lt (Heap.lt_size e)) hb (Heap.get?_push_of_some _ e)) hS' hacc⟩
end
end Rv
namespace L2
open PySem PySem.Spec PyProof.Rows
def Itv (K : PySem.W.Frag) (a : Addr) (n : Nat) : It :=
  ⟨fun i H => i < n ∧ ∃ xs, SqL K H a xs ∧ xs.length = n, fun i H x H' => H' = H ∧ ∀ xs, SqL K H a xs → xs[n - 1 - i]? = some x, fun i _ => n ≤ i⟩
theorem turn_rev {P : Program} {w : World} {K : PySem.W.Frag} {tg : Expr} (a it : Addr) (n : Nat) : Turn P w K tg (Itv K a n) [it] it (fun i h => i ≤ n ∧ h.IsRevIter it a ((n : Int) - 1 - (i : Int))) where
  mem := by simp
  obj := fun i h st b hb => by
    have e : b = it := by simpa using hb
    subst e
    obtain ⟨_, o, e, c, d⟩ := st
    exact ⟨o, e, fun v z => by rw [d] at z; cases z⟩
  keep := fun i h h' st k => ⟨st.1, st.2.at fun o e => k it (by simp) o e⟩
  item := by
    intro X hP hw hK hc i pins s σ H E I hf st hg
    subst hP hw hK
    obtain ⟨hi, xs, hq, hn⟩ := hg
    obtain ⟨its, rv, p, hz⟩ := I.list hq
    have hlt : n - 1 - i < xs.length := by omega
    have hx : xs[n - 1 - i]? = some xs[n - 1 - i] := List.getElem?_eq_getElem hlt
    obtain ⟨u, hu, ru⟩ := rv.get hx
    obtain ⟨f0, f1, f2, f3, f4, f5⟩ := hf it (by simp)
    have st2 := st.2
    rw [show (n : Int) - 1 - (i : Int) = ((n - 1 - i : Nat) : Int) by omega] at st2
    refine wpAny_pyNext_rev_item st2 p.isList (x := u) (by simpa using hu) fun h' st' sb => ?_
    have I1 : Inv X pins σ H { s with heap := h' } := I.turned (t' := s.toks) (fun b o hb e => (sb.2 b hb).trans e) f0 f1 f3 f4 f5
    rw [show ((n - 1 - i : Nat) : Int) - 1 = (n : Int) - 1 - ((i + 1 : Nat) : Int) by omega] at st'
    obtain ⟨o, e, c, d⟩ := id st'
    exact ⟨u, rfl, go_of (s := { s with heap := h' }) e c d (by decide) ⟨_, H, I1, ru, ⟨rfl, fun ys hy => by rw [I.list_inj hy hq]; exact hx⟩, ⟨hi, st'⟩, fun b hb => (hf b hb).1⟩⟩
  done := by
    intro X hP hw hK hc i pins s σ H E I hf st hg
    subst hP hw hK
    obtain ⟨f0, f1, f2, f3, f4, f5⟩ := hf it (by simp)
    have hg' : n ≤ i := hg
    have st2 := st.2
    rw [show (n : Int) - 1 - (i : Int) = -1 by have := st.1; omega] at st2
    exact wpAny_pyNext_rev_end (I.ok.hd hc) st2 fun h' eb => ⟨rfl, I.turned (t' := s.toks) (fun b o hb e => eb b o hb e) f0 f1 f3 f4 f5⟩
  self := fun _ _ _ _ _ st h => wpAny_pyIter_revIter st.2 h
section
variable {X : Cx} {tg e : Expr} {te : TE} {p p2 pos pos2 : Pos}
theorem ev_rev {pins : List (Addr × Obj)} {σ : St} {H : Hp} {s : Shared} {R : Addr → List V → Hp → Prop} (hg : Gl X "reversed") (hm : X.mg "reversed" = none) (he : PE X e te) (I : Inv X pins σ H s)
    (h : te σ H fun x H1 => ∃ a xs, x = .ref a ∧ SqL X.K H1 a xs ∧ R a xs H1)
    (hs : starEach [e] X.env = (false, eval e X.env) :: starEach [] X.env := by rfl) :
    wpAny (model X.prog X.w) X.A (eval (.Call (.Name "reversed" p) [e] [] pos) X.env) (fun v s1 => ∃ it a xs H1, v = .ref it ∧ Inv X pins σ H1 s1 ∧ s1.heap.IsRevIter it a ((xs.length : Int) - 1) ∧ FpOk X pins H1 it ∧ SqL X.K H1 a xs ∧ a ≠ it ∧ R a xs H1) X.xe s := by
  refine wpAny_Call_Name_kw (ld_blt I hg hm bt_reversed ?_ (by decide) (by decide))
  refine PyProof.Rows.callWith_type1 (thn (pa_cons he pa_nil hs pos pins s σ H (fun vs H1 => ∃ a xs, vs = [.ref a] ∧ SqL X.K H1 a xs ∧ R a xs H1) I ?_) fun us s1 ⟨vs, H1, I1, r1, q1⟩ => ?_) hs rfl
  · show te σ H _
    have e2 : (fun x H1 => tNil σ H1 fun xs H2 => (fun vs H1 => ∃ a ys, vs = [V.ref a] ∧ SqL X.K H1 a ys ∧ R a ys H1) (x :: xs) H2) = fun x H1 => ∃ a xs, x = V.ref a ∧ SqL X.K H1 a xs ∧ R a xs H1 := by
      funext x H1
      simp only [tNil, List.cons.injEq, and_true]
    have := h
    rw [← e2] at this
    exact this
  · obtain ⟨a, xs, rfl, hq, hR⟩ := q1
    obtain ⟨u, rfl, ru⟩ := vals1 r1
    cases ru
    obtain ⟨its, rv, pl, hz⟩ := I1.list hq
    refine call_reversed_list pl.isList ?_
    have hl := rv.length
    obtain ⟨o, ho, _⟩ := id pl.isList
    refine ⟨s1.heap.objs.size, a, xs, H1, rfl, I1.kept (t' := s1.toks) fun b o e => Heap.get?_push_of_some _ e, ⟨_, Heap.get?_push_size _ rfl, rfl, ?_⟩, I1.fpOk (Nat.le_refl _) (I1.hok.fresh (Nat.le_refl _)), hq, Nat.ne_of_lt (Heap.lt_size ho), hR⟩
    simp only [revObj, List.size_toArray]
    rw [← hl]
def iRev (K : PySem.W.Frag) (tl : TE) : TI := fun σ H R => tl σ H fun x H1 => ∃ a xs, x = .ref a ∧ SqL K H1 a xs ∧ R (Itv K a xs.length) H1
theorem pi_rev (hg : Gl X "reversed") (hm : X.mg "reversed" = none) (he : PE X e te) (hs : starEach [e] X.env = (false, eval e X.env) :: starEach [] X.env := by rfl) : PI X tg (.Call (.Name "reversed" p) [e] [] pos) (iRev X.K te) := by
  intro pins s σ H R I h
  refine thn (ev_rev hg hm he I h hs) fun v s1 ⟨it, a, xs, H1, hv, I1, hit, hf, hq, hne, hR⟩ => ?_
  subst hv
  refine wpAny_pyIter_revIter hit ?_
  refine ⟨it, [it], _, _, H1, rfl, I1, turn_rev a it xs.length, ⟨Nat.zero_le _, by simpa using hit⟩, fun b hb => ?_, hR⟩
  have e : b = it := by simpa using hb
  subst e
  exact hf
def tListRev (K : PySem.W.Frag) (te : TE) : TE := fun σ H Q => te σ H fun x H1 => ∃ a xs, x = .ref a ∧ SqL K H1 a xs ∧ ∀ l, H1 l = none → Q (.ref l) (upd H1 l (.lst xs.reverse))
theorem pe_listRev (hc : X.calm = true) (hgl : Gl X "list") (hml : X.mg "list" = none) (hg : Gl X "reversed") (hm : X.mg "reversed" = none) (he : PE X e te)
    (hs : starEach [e] X.env = (false, eval e X.env) :: starEach [] X.env := by rfl)
    (hs2 : starEach [.Call (.Name "reversed" p) [e] [] pos] X.env = (false, eval (.Call (.Name "reversed" p) [e] [] pos) X.env) :: starEach [] X.env := by rfl) :
    PE X (.Call (.Name "list" p2) [.Call (.Name "reversed" p) [e] [] pos] [] pos2) (tListRev X.K te) := by
  intro pins s σ H Q I h
  refine wpAny_Call_Name_kw (ld_blt I hgl hml bt_list ?_ (by decide) (by decide))
  refine PyProof.Rows.callWith_type1 ?_ hs2 rfl
  rw [hs2]
  show wpAny _ _ (spliced ((false, eval (.Call (.Name "reversed" p) [e] [] pos) X.env) :: backTo pos2 (starEach [] X.env))) _ _ s
  refine Calls.spliced_cons (thn (ev_rev hg hm he I h hs) fun v s1 ⟨it, a, xs, H1, hv, I1, hit, hf, hq, hne, hR⟩ => ?_)
  subst hv
  refine Calls.spliced_nil ?_
  obtain ⟨its, rv, pl, hz⟩ := I1.list hq
  have hl := rv.length
  refine Rv.call_list_rev (items := its.toArray) (I1.ok.hd hc) (by rw [List.size_toArray, ← hl]; exact hit) pl.isList hne (by rw [List.size_toArray, ← hl]; exact hz) fun h' tk acc' c' kp hS hacc => ?_
  obtain ⟨f0, f1, f2, f3, f4, f5⟩ := hf
  have rr : Vals xs.reverse acc'.toList := by
    have e : acc'.toList = its.reverse := by
      obtain ⟨sz, all⟩ := hacc
      have sz' : acc'.size = its.length := sz.trans (by simp)
      refine List.ext_getElem (by rw [Array.length_toList, List.length_reverse, sz']) fun j h1 h2 => ?_
      have h1' : j < acc'.size := by rwa [Array.length_toList] at h1
      have := all j acc'[j] (Array.getElem?_eq_getElem h1')
      simp only [List.size_toArray, List.getElem?_toArray] at this
      rw [List.getElem_reverse, Array.getElem_toList]
      have h3 : its.length - 1 - j < its.length := by omega
      rw [List.getElem?_eq_getElem h3] at this
      exact (Option.some.inj this).symm
    rw [e]
    exact rv.reverse
  have hnone : H1 s1.heap.objs.size = none := I1.hok.fresh (Nat.le_refl _)
  refine ⟨.ref s1.heap.objs.size, upd H1 s1.heap.objs.size (.lst xs.reverse), ?_, rfl, hR _ hnone⟩
  have nit : ∀ b, b ∉ [it] → b ≠ it := fun b hb z => hb (List.mem_singleton.mpr z)
  have lts : ∀ b o, s1.heap.get? b = some o → b ≠ s1.heap.objs.size := fun b o e => Nat.ne_of_lt (Heap.lt_size e)
  have un : Un (frs X.stack) [it] H1 (upd H1 s1.heap.objs.size (.lst xs.reverse)) s1.heap h' :=
    ⟨fun b o e _ _ hx => kp b o (nit b hx) e, fun b o e _ _ hx => ⟨o.slots, kp b o (nit b hx) e⟩, fun b o e n _ => by rw [upd_ne (lts b o e)]; exact n, fun b o e hx => ⟨o, kp b o (nit b hx) e⟩,
      fun b zs e => by rw [upd_ne (ne_of_none e hnone)]; exact e, fun b o u e => by rw [upd_ne (ne_of_none e hnone)]; exact e, fun b ps e => ⟨#[], by rw [upd_ne (ne_of_none e hnone), e]; simp⟩⟩
  have hit0 : ∀ b o, H1 b = some o → b ≠ it := fun b o e => ne_of_none e f0
  have hok : HOk X.prog X.w (upd H1 s1.heap.objs.size (.lst xs.reverse)) h' := fun b o e => by
    by_cases hb : b = s1.heap.objs.size
    · subst hb
      rw [upd_same] at e
      cases e
      exact ⟨by rw [List.length_reverse]; exact hz, acc'.toList, c', rr, by simpa using hS⟩
    · rw [upd_ne hb] at e
      have q : ObjOk X.prog X.w H1 s1.heap b o := I1.hok b o e
      refine q.stay (fun c u hc e' => kp c u ?_ e') (fun c e' => ?_) fun c zs e' => ?_
      · rcases hc with hc | hc
        · rw [hc]; exact hit0 b o e
        · exact hit0 c _ hc
      · rw [upd_ne (ne_of_none e' hnone)]; exact e'
      · rw [upd_ne (ne_of_none e' hnone)]; exact e'
  exact I1.call' (s' := { s1 with heap := h', toks := tk }) (ch := [it]) rfl un hok I1.bare fun b hb => by
    rw [List.mem_singleton.mp hb]
    exact ⟨f3, f1, f4, f5⟩
end
theorem forV {K : PySem.W.Frag} {a : Addr} {g : TG} {tb : TS} {D : Ends} {σ : St} {H : Hp} (ns : List Int) (Pv : Nat → St → Hp → Prop) {n : Nat} (hn : n = ns.length) (h0 : Pv 0 σ H) (hl : ∀ i σ H, Pv i σ H → SqL K H a (ns.map V.int))
    (hs : ∀ i (x : Int) σ H, ns.reverse[i]? = some x → Pv i σ H → g (.int x) σ H fun σ2 H2 => tb { D with nx := Pv (i + 1), ct := Pv (i + 1), bk := D.nx } σ2 H2) (hd : ∀ σ H, Pv ns.length σ H → D.nx σ H) : ForIt (Itv K a n) g tb D σ H := by
  subst hn
  refine ⟨fun i m σ H => m = ns.length - i ∧ i ≤ ns.length ∧ Pv i σ H, ⟨ns.length, by simp, Nat.zero_le _, h0⟩, ?_⟩
  rintro i m σ H ⟨rfl, hi, p⟩
  have q := hl i σ H p
  by_cases hlt : i < ns.length
  · refine .inr ⟨⟨hlt, _, q, by simp⟩, Pv (i + 1), fun σ' H' p' => ⟨ns.length - (i + 1), by omega, rfl, hlt, p'⟩, fun x H' y => ?_⟩
    obtain ⟨e, y⟩ := y
    subst e
    have y' := y _ q
    rw [List.getElem?_map] at y'
    have hr : ns.reverse[i]? = ns[ns.length - 1 - i]? := List.getElem?_reverse hlt
    cases z : ns[ns.length - 1 - i]? with
    | none => rw [z] at y'; cases y'
    | some v =>
      rw [z] at y'
      cases y'
      exact hs i v σ _ (hr.trans z) p
  · have e : i = ns.length := by omega
    subst e
    exact .inl ⟨Nat.le_refl _, hd σ H p⟩
theorem cut_to {α : Type} (f : α → V) (xs : List α) {k : Int} (hk : 0 ≤ k) : cutV (xs.map f) none (some k) = (xs.take k.toNat).map f := by
  obtain ⟨n, rfl⟩ : ∃ n : Nat, k = (n : Int) := ⟨k.toNat, by omega⟩
  unfold cutV
  rw [HT.sIx_none, HT.sIx_nat, List.drop_zero, Nat.sub_zero, Int.toNat_natCast, List.map_take]
  rcases Nat.le_total n (xs.map f).length with h | h
  · rw [Nat.min_eq_left h]
  · rw [Nat.min_eq_right h, List.take_of_length_le (Nat.le_refl _), List.take_of_length_le h]
theorem newH {H H1 : Hp} {p : Addr} {o : HO} (e : upd H p o = H1) (n : H p = none) : Same H H1 ∧ H1 p = some o := by
  subst e
  exact ⟨same_new n o, upd_same⟩
theorem w_tyl {K : PySem.W.Frag} {p : Addr} {H : Hp} : tyV K "list" (.ref p) H = ∃ xs, SqL K H p xs := by
  unfold tyV
  simp
section
variable {K : PySem.W.Frag} {H : Hp} {a b : Addr} {ns ms : List Int} {Q : VK}
theorem eqv_il : PyData.eqv (.list (ns.map PyData.int)) (.list (ms.map PyData.int)) = decide (ns = ms) := by
  rw [← eqvAll_ints]
  simp only [PyData.eqv]
theorem canLay_ints : ∀ ns : List Int, PyData.canLayAll0 (ns.map PyData.int) = true
  | [] => by simp [PyData.canLayAll0]
  | n :: r => by simp [PyData.canLayAll0, PyData.canLay0, canLay_ints r]
theorem depth_ints : ∀ ns : List Int, PyData.depthAll (ns.map PyData.int) = 0
  | [] => by simp [PyData.depthAll]
  | n :: r => by simp [PyData.depthAll, PyData.depth, depth_ints r]
theorem shaped_l (ns : List Int) : SeqAt.shaped (.list (ns.map PyData.int)) = true := by
  unfold SeqAt.shaped
  simp [PyData.canLay0, PyData.depth, canLay_ints, depth_ints]
theorem eqL (h : SqL K H a (ns.map V.int)) (h' : SqL K H b (ms.map V.int)) (q : Q (.bl (decide (ns = ms))) H) : rEqD K false (.ref a) (.ref b) H Q := by
  refine ⟨_, _, .lst h (DatVs.ints ns), .lst h' (DatVs.ints ms), shaped_l ns, shaped_l ms, ?_⟩
  rw [if_neg (by decide), eqv_il]
  exact q
theorem neL (h : SqL K H a (ns.map V.int)) (h' : SqL K H b (ms.map V.int)) (q : Q (.bl (!decide (ns = ms))) H) : rEqD K true (.ref a) (.ref b) H Q := by
  refine ⟨_, _, .lst h (DatVs.ints ns), .lst h' (DatVs.ints ms), shaped_l ns, shaped_l ms, ?_⟩
  rw [if_pos rfl, eqv_il]
  exact q
theorem eqL1 (h : SqL K H a (ns.map V.int)) (h' : SqL K H b (ns.map V.int)) (q : Q (.bl true) H) : rEqD K false (.ref a) (.ref b) H Q := eqL h h' (by rw [decide_eq_true rfl]; exact q)
theorem neL1 (h : SqL K H a (ns.map V.int)) (h' : SqL K H b (ns.map V.int)) (q : Q (.bl false) H) : rEqD K true (.ref a) (.ref b) H Q := neL h h' (by rw [decide_eq_true rfl]; exact q)
end
theorem seqI {t u : TS} {D : Ends} {σ : St} {H : Hp} (h : t { D with nx := u D } σ H) : tSeq t u D σ H := h
section
variable {X : Cx}
theorem call_intB : CallR X (.type "int") (fun xs H Q => ∃ k, xs = [.bl k] ∧ Q (.int (if k = true then 1 else 0)) H) := fun pins s σ H xs us Q I r ⟨k, e, q⟩ => call_int1 pins s σ H xs us Q I r (.inr ⟨k, e, q⟩)
end
end L2
namespace Ul
open PySem PySem.Spec PyProof.Rows
section
variable {prog : Program} {w : World} {A : Around} {E : Value → Shared → Prop}
theorem draw_list {it l : Addr} {items : Array Value} (hne : l ≠ it) : ∀ (n i : Nat) (s : Shared) (Q : List Value → Shared → Prop), s.heap.IsListIter it l i → s.heap.IsList l items → i + n ≤ items.size →
    (∀ h', h'.IsListIter it l (i + n) → Heap.SameBut it s.heap h' → Q ((items.toList.drop i).take n) { s with heap := h' }) → wpAny (model prog w) A (draw (.ref it) n) Q E s
  | 0, i, s, Q, hit, _, _, hQ => by
    show wpAny _ _ (pure []) Q E s
    exact wpAny_pure (by simpa using hQ s.heap hit (Heap.SameBut.refl ..))
  | n + 1, i, s, Q, hit, ht, hle, hQ => by
    have hlt : i < items.size := by omega
    show wpAny _ _ (pyNext (.ref it) >>= _) Q E s
    refine wpAny_bind (wpAny_pyNext_list_item hit ht (x := items[i]) (by simp [hlt]) fun h₁ hit₁ hs₁ => ?_)
    refine wpAny_bind (wpAny_holding (draw_list hne n (i + 1) _ _ hit₁ (ht.at fun o e => (hs₁.2 l hne).trans e) (by omega) fun h₂ hit₂ hs₂ => wpAny_pure ?_))
    have hd : items.toList.drop i = items[i] :: items.toList.drop (i + 1) := by simp [List.drop_eq_getElem_cons, hlt]
    have := hQ h₂ (by rw [show i + (n + 1) = i + 1 + n by omega]; exact hit₂) (hs₁.trans hs₂)
    rw [hd, List.take_succ_cons] at this
    exact this
variable {s : Shared}
theorem unpackItems_list {l : Addr} {items : Array Value} {Q : List Value → Shared → Prop} (hh : A.handled = none) (ht : s.heap.IsList l items)
    (hQ : ∀ h', Heap.ExtBut s.heap.objs.size s.heap h' → Q items.toList { s with heap := h' }) : wpAny (model prog w) A (unpackItems (.ref l) items.size none) Q E s := by
  have hlt : l ≠ s.heap.objs.size := by obtain ⟨o, ho, _⟩ := id ht; exact Nat.ne_of_lt (Heap.lt_size ho)
  unfold unpackItems
  refine wpAny_bind ?_
  · unfold notIterableAtAll
    refine wpAny_bind (wpAny_specialOf ht.typeIs PySem.slot_list_iter.lookup ?_)
    refine wpAny_pure ?_
    simp only [Bool.false_eq_true, if_false]
    refine wpAny_bind (wpAny_holding (wpAny_pyIter_list ht ?_))
    refine wpAny_bind (wpAny_holding (draw_list hlt items.size 0 _ _ ⟨_, Heap.get?_push_size _ rfl, rfl, rfl⟩ (ht.at fun o e => Heap.get?_push_of_some _ e) (by omega) fun h₁ hit₁ hs₁ => ?_))
    have hall : List.take items.size (List.drop 0 items.toList) = items.toList := by
      rw [List.drop_zero]; exact List.take_of_length_le (by simp)
    rw [hall]
    rw [if_neg (by simp)]
    have ht₁ : h₁.IsList l items := (ht.at (h' := s.heap.push _) fun o e => Heap.get?_push_of_some _ e).at fun o e => (hs₁.2 l hlt).trans e
    refine wpAny_bind (wpAny_holding (wpAny_pyNext_list_end hh hit₁ ht₁ (by simp) fun h₂ he₂ => ?_))
    simp only [Option.isSome_none, Bool.false_eq_true, if_false]
    refine wpAny_pure (hQ h₂ fun b o hb e => he₂ b o hb (hs₁.extBut b o hb (Heap.get?_push_of_some _ e)))
theorem assign_Tuple_list {env : Env} {elts : List Expr} {x1} {pos : Pos} {l : Addr} {items : Array Value} {Q : Unit → Shared → Prop} (hh : A.handled = none) (ht : s.heap.IsList l items)
    (hn : (assignEach elts env).length = items.size) (hstar : (assignEach elts env).findIdx? (·.1) = none)
    (h : ∀ h', Heap.ExtBut s.heap.objs.size s.heap h' → wpAny (model prog w) A (assignInOrder ((assignEach elts env).map (·.2)) items.toList) Q E { s with heap := h' }) :
    wpAny (model prog w) A (assign (.Tuple elts x1 pos) env (.ref l)) Q E s := by
  rw [assign_Tuple]
  refine wpAny_bind (wpAny_standAt ?_)
  unfold unpack
  rw [hn, hstar]
  exact wpAny_bind (wpAny_holding (unpackItems_list hh ht h))
end
end Ul
namespace L2
open PySem PySem.Spec PyProof.Rows
section
variable {X : Cx} {pos : Pos}
def gLst (K : PySem.W.Frag) (n : Nat) (t : TGs) : TG := fun v σ H Q => ∃ a xs, v = .ref a ∧ SqL K H a xs ∧ xs.length = n ∧ t xs σ H Q
theorem pg_lst {es : List Expr} {k : Nat} {t : TGs} {n : Nat} (hc : X.calm = true) (h : PGs X es t)
    (hn : (assignEach es X.env).length = n := by rfl) (hst : (assignEach es X.env).findIdx? (·.1) = none := by rfl) : PG X (.Tuple es k pos) (gLst X.K n t) := by
  intro pins s σ H v u Q I r hw
  obtain ⟨a, xs, e1, hq, hl, hw⟩ := hw
  subst e1
  cases r
  obtain ⟨its, rv, ht, hz⟩ := I.list hq
  refine Ul.assign_Tuple_list (I.ok.hd hc) ht.isList (by simp [hn, ← hl, rv.length]) hst fun h' hx => ?_
  have I1 : Inv X pins σ H { s with heap := h' } := I.kept (t' := s.toks) fun b o e => hx b o (Nat.ne_of_lt (Heap.lt_size e)) e
  exact h pins _ σ H xs _ Q I1 (by simpa using rv) hw
end
end L2
namespace L2
open PySem PySem.Spec PyProof.Rows
def CXE (P : Program) (w : World) : CXT := fun outer H s E e s' => ∃ (ea t : Addr) (C : Value) (vs : List Value) (B : Heap) (H' : Hp), e = .ref ea ∧ s'.os = s.os ∧ AllBare s'.gens ∧ Heap.FlyingW B outer ea C (.ref t) s'.heap ∧ s'.heap.TupAt t vs ∧ B.get? t = none ∧
  HOk P w H' B ∧ (∀ b o, s.heap.get? b = some o → H b = none → b ∉ frs outer → B.get? b = some o) ∧ (∀ b o, s.heap.get? b = some o → b ∉ frs outer → ∃ o', B.get? b = some o') ∧ Un (frs outer) [] H H' s.heap s'.heap ∧ E C none H'
section
variable {X : Cx} {pins : List (Addr × Obj)} {σ : St} {H H1 : Hp} {s s1 : Shared}
theorem frs_cons {env : Env} {L : Addr} {l : List Env} (h : env.frame = some L) {b : Addr} : b ∈ frs (env :: l) ↔ b = L ∨ b ∈ frs l := by
  unfold frs
  rw [List.filterMap_cons, h]
  exact List.mem_cons
theorem Inv.old (I : Inv X pins σ H s) {b : Addr} {o : Obj} (e : X.s₀.heap.get? b = some o) : b ≠ X.env.locals := fun z => by
  have h1 : @LT.lt Nat instLTNat b X.s₀.heap.objs.size := Heap.lt_size e
  have h2 : @LE.le Nat _ X.s₀.heap.objs.size X.env.locals := I.ok.above
  have z' : @Eq Nat b X.env.locals := z
  omega
theorem hid_ok {fs : List Addr} (I : Inv X pins σ H s) (hf : ∀ b ∈ fs, H b = none) : HOk X.prog X.w H (PySem.W.hideAll s.heap fs) := fun a o e => by
  have q : ObjOk X.prog X.w H s.heap a o := I.hok a o e
  refine q.stay (fun c u hc e' => PySem.W.hideAll_get _ e' fun z => ?_) (fun c e' => e') fun c zs e' => e'
  have h0 := hf c z
  rcases hc with hc | hc
  · rw [hc, e] at h0; cases h0
  · rw [hc] at h0; cases h0
theorem thr {M : Model} {h' : Heap} {ea : Addr} {C : Value} {vs : List Value} {E : XK} {EE : Value → Shared → Prop} (hst : X.stack = X.env :: X.outer) (hfr : X.env.frame = some X.env.locals) (hex : X.ex = []) (I : Inv X pins σ H s)
    (hx : Heap.MadeExcOf s.heap h' ea C vs) (hE : E C none H) :
    wpAny M X.A (leaving X.env (.ref ea)) (fun _ s'' => CXE X.prog X.w X.outer X.H₀ X.s₀ E (.ref ea) s'') EE { s with heap := h' } := by
  have hA : X.A.frames = some (X.env :: X.outer) := by rw [← hst]; exact I.ok.frames
  have fstk : ∀ b ∈ frs (X.env :: X.outer), H b = none := by rw [← hst]; exact I.stkFree
  have hfun : s.heap.FunFrames X.base (X.env :: X.outer) := by rw [← hst]; exact I.stack
  have hin : ∀ env ∈ (X.env :: X.outer), ∀ b, env.frame = some b → b ∈ frs (X.env :: X.outer) := fun env he b hb => List.mem_filterMap.mpr ⟨env, he, hb⟩
  refine wpAny_leaves_madeW (base := PySem.W.hideAll s.heap (frs (X.env :: X.outer))) hA hfr (fun b o q => PySem.W.of_hideAll _ q) (PySem.W.funFrames_hide hfun hin) hx fun h2 t fly tup tn up => ?_
  have u := I.base
  rw [hex] at u
  have keepB : ∀ b o, X.s₀.heap.get? b = some o → X.H₀ b = none → b ∉ frs X.outer → (PySem.W.hideAll s.heap (frs (X.env :: X.outer))).get? b = some o := fun b o e n nf => by
    refine PySem.W.hideAll_get _ (u.keep b o e n nf (by simp)) fun z => ?_
    rcases (frs_cons hfr).mp z with z | z
    · exact I.old e z
    · exact nf z
  have slots : ∀ b o, s.heap.get? b = some o → b ∈ frs (X.env :: X.outer) → ∃ sl, h2.get? b = some { o with slots := sl } := fun b o e hb => by
    obtain ⟨_, o', ho', hd⟩ := hfun.mem hb
    rw [e] at ho'
    cases ho'
    exact up b o (hx.keeps _ _ e) hd
  have thereB : ∀ b o, X.s₀.heap.get? b = some o → b ∉ frs X.outer → ∃ o', (PySem.W.hideAll s.heap (frs (X.env :: X.outer))).get? b = some o' := fun b o e nf => by
    obtain ⟨o', e1⟩ := u.there b o e (by simp)
    refine ⟨o', PySem.W.hideAll_get _ e1 fun z => ?_⟩
    rcases (frs_cons hfr).mp z with z | z
    · exact I.old e z
    · exact nf z
  refine ⟨ea, t, C, vs, _, H, rfl, I.os, I.bare, fly, tup, tn, hid_ok I fstk, keepB, thereB, ?_, hE⟩
  refine ⟨fun b o e n nf _ => fly.1 _ _ (keepB b o e n nf), fun b o e n hb _ => ?_, fun b o e n _ => u.free b o e n (by simp), fun b o e _ => ?_, u.tups, u.frzs, u.tbls⟩
  · obtain ⟨sl, e1⟩ := u.slot b o e n hb (by simp)
    obtain ⟨sl', e2⟩ := slots b _ e1 ((frs_cons hfr).mpr (.inr hb))
    exact ⟨sl', e2⟩
  · obtain ⟨o', e1⟩ := u.there b o e (by simp)
    by_cases hb : b ∈ frs (X.env :: X.outer)
    · obtain ⟨sl, e2⟩ := slots b _ e1 hb
      exact ⟨_, e2⟩
    · exact ⟨o', fly.1 _ _ (PySem.W.hideAll_get _ e1 hb)⟩
theorem pas {M : Model} {e : Value} {s' : Shared} {E : XK} {EE : Value → Shared → Prop} (hst : X.stack = X.env :: X.outer) (hfr : X.env.frame = some X.env.locals) (hex : X.ex = []) (I : Inv X pins σ H s)
    (hc : CXE X.prog X.w X.stack H s E e s') : wpAny M X.A (leaving X.env e) (fun _ s'' => CXE X.prog X.w X.outer X.H₀ X.s₀ E e s'') EE s' := by
  have hA : X.A.frames = some (X.env :: X.outer) := by rw [← hst]; exact I.ok.frames
  rw [hst] at hc
  obtain ⟨ea, t, C, vs, B, H', rfl, os, bare, fly, tup, tn, hok, kB, tB, un, hE⟩ := hc
  refine wpAny_leaves_onW hA hfr fly fun h2 fly2 up => ?_
  have u := I.base
  rw [hex] at u
  have n2 : ∀ b o, X.s₀.heap.get? b = some o → b ∉ frs X.outer → b ∉ frs (X.env :: X.outer) := fun b o e nf z => by
    rcases (frs_cons hfr).mp z with z | z
    · exact I.old e z
    · exact nf z
  have keepB : ∀ b o, X.s₀.heap.get? b = some o → X.H₀ b = none → b ∉ frs X.outer → B.get? b = some o := fun b o e n nf =>
    kB b o (u.keep b o e n nf (by simp)) (u.free b o e n (by simp)) (n2 b o e nf)
  have thereB : ∀ b o, X.s₀.heap.get? b = some o → b ∉ frs X.outer → ∃ o', B.get? b = some o' := fun b o e nf => by
    obtain ⟨o', e1⟩ := u.there b o e (by simp)
    exact tB b o' e1 (n2 b o e nf)
  have slots : ∀ b o, s'.heap.get? b = some o → b ∈ frs X.outer → ∃ sl, h2.get? b = some { o with slots := sl } := fun b o e hb => by
    obtain ⟨_, o', ho', hd⟩ := fly.2.2.1.mem (show b ∈ (X.env :: X.outer).filterMap (·.frame) from (frs_cons hfr).mpr (.inr hb))
    rw [e] at ho'
    cases ho'
    exact up b o e hd
  refine ⟨ea, t, C, vs, B, H', rfl, by rw [os]; exact I.os, bare, fly2, tup.of_slots up, tn, hok, keepB, thereB, ?_, hE⟩
  refine ⟨fun b o e n nf _ => fly2.1 _ _ (keepB b o e n nf), fun b o e n hb _ => ?_, fun b o e n _ => ?_, fun b o e _ => ?_, fun b zs e => un.tups b zs (u.tups b zs e), fun b o v e => un.frzs b o v (u.frzs b o v e), fun b ps e => ?_⟩
  · obtain ⟨sl, e1⟩ := u.slot b o e n hb (by simp)
    have n1 := u.free b o e n (by simp)
    obtain ⟨sl2, e2⟩ := un.slot b _ e1 n1 ((frs_cons hfr).mpr (.inr hb)) (by simp)
    obtain ⟨sl3, e3⟩ := slots b _ e2 hb
    exact ⟨sl3, e3⟩
  · have n1 := u.free b o e n (by simp)
    obtain ⟨o', e1⟩ := u.there b o e (by simp)
    exact un.free b o' e1 n1 (by simp)
  · obtain ⟨o', e1⟩ := u.there b o e (by simp)
    obtain ⟨o2, e2⟩ := un.there b o' e1 (by simp)
    by_cases hb : b ∈ frs X.outer
    · obtain ⟨sl, e3⟩ := slots b _ e2 hb
      exact ⟨_, e3⟩
    · obtain ⟨o3, e3⟩ := thereB b o e hb
      exact ⟨o3, fly2.1 _ _ e3⟩
  · obtain ⟨m1, e1⟩ := u.tbls b ps e
    obtain ⟨m2, e2⟩ := un.tbls b _ e1
    exact ⟨m1 ++ m2, by rw [e2, Array.append_assoc]⟩
end
abbrev bmV : List Value := [.type "ValueError", .type "Exception", .type "BaseException", .type "object"]
abbrev ExcK (K : PySem.W.Frag) (C : Addr) : Prop := PySem.W.excIn K C bmV "ValueError.__new__" = true
theorem own_at {K : PySem.W.Frag} {h : Heap} {mg : Str → Option Value} {x : Str} {C : Addr} (X : K.In h) (e : mg x = some (.ref C)) (q : ExcK K C) : OwnCls x C bmV "ValueError.__new__" mg h := by
  refine ⟨e, ?_⟩
  unfold ExcK PySem.W.excIn at q
  split at q
  · rename_i dd cd sl ho
    split at q
    · rename_i C' bm k0 k1 k2 k3 n k5 hm hs
      simp only [Bool.and_eq_true, beq_iff_eq, Bool.not_eq_true'] at q
      obtain ⟨⟨⟨⟨⟨rfl, rfl⟩, hdel⟩, ht⟩, hok⟩, hni⟩ := q
      obtain ⟨nm, bs, mro, ns, qn, hd, sn, sub, ab, col, del⟩ := cd
      dsimp only at hm hdel hok hni
      subst hm hdel
      have hsl : sl = #[k0, k1, k2, k3, some (.builtin "ValueError.__new__"), k5] := by
        obtain ⟨l⟩ := sl
        simp only at hs
        rw [hs]
      subst hsl
      exact ⟨bm, ns, nm, qn, bs, hd, sn, sub, ab, col, dd, k0, k1, k2, k3, k5, _, X _ _ ho, .of_isNs (PySem.W.isNs_of_in X hok), PySem.W.nsMap_none_of_in X hok hni, PySem.W.tail_of_in X ht⟩
    · cases q
  · cases q
def Thr (X : Cx) (E : XK) : Prop := ∀ (pins : List (Addr × Obj)) (σ : St) (H : Hp) (s : Shared) (h' : Heap) (ea : Addr) (C : Value) (vs : List Value), Inv X pins σ H s → Heap.MadeExcOf s.heap h' ea C vs → E C none H → X.xe (.ref ea) { s with heap := h' }
def tRaise (C : Addr) (E : XK) (ta : TA) : TS := fun _ σ H => ta σ H fun vs H1 => vs.length ≤ sizeLine ∧ E (.ref C) none H1
section
variable {X : Cx} {x : Str} {C : Addr} {np cpos pos : Pos} {e : Expr} {es : List Expr} {ta : TA} {E : XK}
theorem ps_raise (hT : Thr X E) (hc : X.calm = true) (hg : Gl X x) (hm : X.mg x = some (.ref C)) (q : ExcK X.K C) (ha : PA X (e :: es) ta)
    (he : starEach (e :: es) X.env = (false, eval e X.env) :: starEach es X.env := by rfl) (hpl : (backTo cpos (starEach es X.env)).any (·.1) = false := by rfl) (hdb : (x == ("__debug__" : Str)) = false := by decide) :
    PS X (.Raise (some (.Call (.Name x np) (e :: es) [] cpos)) none pos) (tRaise C E ta) := by
  intro pins s σ H D I h
  have O := own_at I.ok.mod.kin hm q
  obtain ⟨tl, N, nm, qq, bs, hdct, sn, sub, ab, col, dd, k0, k1, k2, k3, k5, mN, hC, hN, hni, T⟩ := O.obj
  refine wpAny_Raise_call_subT (C := C) (nm := nm) (q := qq) (N := N) (bs := bs) (bm := tl) (hdct := hdct) (sn := sn) (sub := sub) (ab := ab) (col := col) (dd := dd) (k0 := k0) (k1 := k1) (k2 := k2) (k3 := k3) (k5 := k5)
    PySem.F.excBase_ValueError (mN := mN) (T.hasType PySem.F.excBase_ValueError.hasBase) (I.ok.hd hc) (by rw [he]; show (false || (backTo cpos (starEach es X.env)).any (·.1)) = false; rw [hpl]; rfl) hni (ld_glob I hg hm ⟨rfl, ?_⟩ hdb)
  have ha' := ha cpos pins s σ H _ I h
  rw [he] at ha' ⊢
  exact Calls.evalArgs_plain (thn ha' fun us s2 ⟨vs, H1, I1, r, z, hE⟩ => ⟨rfl, by rw [← r.length]; exact z, I1.bk _ _ hC, hN.keeps I1.bk, T.keeps I1.bk, fun h' ea hx => hT pins σ H1 s2 h' ea _ us I1 hx hE⟩)
end
section
variable {P : Program} {w : World} {K : PySem.W.Frag} {mg : Str → Option Value} {base : Heap}
theorem Fun.okE {x qual : Str} {st : Stmt} {f : Addr} {fd : FuncData} {N ps : List Str} {k : Nat} {sp : Sp} (F : Fun K x qual st f fd) (S : FnScope N ps (defScope st)) (len : ∀ vs H Q E, sp vs H Q E → vs.length = ps.length)
    (hbody : ∀ (cdv : Value) (A : Around) (outer : List Env) (s : Shared) (H : Hp) (vs : List V) (Q : VK) (E : XK), Room k (A.deeper (envOfC qual (defScope st) s.heap.objs.size f cdv)) → sp vs H Q E →
      ∃ t, PSs (cxOf (CXE P w) P w K mg base N qual (defScope st) f cdv A outer s H E) (defBody st) t ∧ t { nx := fun _ H' => Q .non H', rt := Q } (start N vs) H) : FnOk P w K mg base (CXE P w) (k + 1) f fd ps sp := by
  obtain ⟨oc, od, kV, doc, pm, an, cdv, ct, osl, rfl, lk, hcd⟩ := F.ex
  refine fn_of lk hcd S len fun A outer s H vs Q E hr hsp => ?_
  obtain ⟨t, h, q⟩ := hbody cdv A outer s H vs Q E hr hsp
  exact ⟨t, h, q⟩
variable {N : List Str} {qual : Str} {scope : Scope} {f : Addr} {cd : Value} {A : Around} {outer : List Env} {s : Shared} {H : Hp} {E : XK}
theorem passE : Passes (CXE P w) (cxOf (CXE P w) P w K mg base N qual scope f cd A outer s H E) E := fun _ _ _ _ _ _ I hc => pas rfl rfl rfl I hc
theorem thrE : Thr (cxOf (CXE P w) P w K mg base N qual scope f cd A outer s H E) E := fun _ _ _ _ _ _ _ _ I hx hE => thr rfl rfl rfl I hx hE
end
structure DefE (P : Program) (w : World) (K : PySem.W.Frag) (mg : Str → Option Value) (base : Heap) (x : Str) (k : Nat) (ps : List Str) (sp : Sp) : Prop where
  ex : ∃ (f : Addr) (fd : FuncData), FnOk P w K mg base (CXE P w) k f fd ps sp ∧ Binds K fd ps [] ∧ PySem.W.keepIn K (.ref f) = true ∧ mg x = some (.ref f)
theorem defE_mk {P : Program} {w : World} {K : PySem.W.Frag} {mg : Str → Option Value} {base : Heap} {x qual : Str} {st : Stmt} {f : Addr} {fd : FuncData} {k : Nat} {ps : List Str} {sp : Sp} (F : Fun K x qual st f fd)
    (ok : FnOk P w K mg base (CXE P w) k f fd ps sp) (b : Binds K fd ps []) (m : mg x = some (.ref f)) : DefE P w K mg base x k ps sp := ⟨⟨f, fd, ok, b, F.kp, m⟩⟩
section
variable {X : Cx} {x : Str} {j k : Nat} {ps : List Str} {sp : Sp} {p pos : Pos} {e : Expr} {es : List Expr} {t : TA} {E : XK}
theorem pe_defE (hx : Passes (CXE X.prog X.w) X E) (D : DefE X.prog X.w X.K X.mg X.base x j ps sp) (hr : Room k X.A) (hg : Gl X x) (ha : PA X (e :: es) t) (hjk : j ≤ k := by decide) (hdb : (x == ("__debug__" : Str)) = false := by decide)
    (he : starEach (e :: es) X.env = (false, eval e X.env) :: starEach es X.env := by rfl) (hpl : (backTo pos (starEach es X.env)).any (·.1) = false := by rfl) :
    PE X (.Call (.Name x p) (e :: es) [] pos) (tCall sp [] E t) := by
  obtain ⟨f, fd, ok, b, kp, m⟩ := D.ex
  exact pe_call ok (hr.mono hjk) hg m kp b .nil hx ha hdb he hpl
theorem ps_nox {st : Stmt} {t : TS} (h : PS X.nox st t) : PS X st t := fun pins s σ H D I hw =>
  wpAny_mono (h pins s σ H D (I.wish _) hw) (fun _ _ q => SP.unwish q) fun _ _ z => z.elim
end
end L2
namespace L2
open PySem PySem.Spec PyProof.Rows
abbrev Cx.inTry (X : Cx) (E : Value → Shared → Prop) (pn : List (Addr × Obj)) : Cx := { X with xe := E, pn := pn }
abbrev Cx.inExc (X : Cx) (e : Value) : Cx := { X with A := X.A.mark (some e), calm := false, xe := fun _ _ => False }
section
variable {X : Cx} {pins pins' : List (Addr × Obj)} {σ : St} {H H1 H' : Hp} {s s1 s' : Shared} {E : Value → Shared → Prop}
theorem Inv.inTry (I : Inv X pins σ H s) (E : Value → Shared → Prop) : Inv (X.inTry E (X.pn ++ pins)) [] σ H s :=
  ⟨⟨I.ok.mod, I.ok.kind, I.ok.glob, I.ok.blt, I.ok.above, I.ok.inj, I.ok.has, I.ok.cab, I.ok.hd, I.ok.frames, I.ok.stk, I.ok.exf, I.ok.bs, I.ok.bsz, I.ok.noex, I.ok.exfs, I.ok.funs, I.ok.frf⟩, I.os, I.bare, I.base, I.loc, I.cell, I.free, I.freeC,
    fun p hp => I.pin p (by simpa using hp), I.hok, I.len⟩
theorem Inv.outTry (I : Inv (X.inTry E (X.pn ++ pins)) pins' σ H s) : Inv X pins σ H s :=
  ⟨⟨I.ok.mod, I.ok.kind, I.ok.glob, I.ok.blt, I.ok.above, I.ok.inj, I.ok.has, I.ok.cab, I.ok.hd, I.ok.frames, I.ok.stk, I.ok.exf, I.ok.bs, I.ok.bsz, I.ok.noex, I.ok.exfs, I.ok.funs, I.ok.frf⟩, I.os, I.bare, I.base, I.loc, I.cell, I.free, I.freeC,
    fun p hp => I.pin p (List.mem_append_left _ hp), I.hok, I.len⟩
theorem Inv.inExc (I : Inv X pins σ H s) (e : Value) : Inv (X.inExc e) pins σ H s :=
  ⟨⟨I.ok.mod, I.ok.kind, I.ok.glob, I.ok.blt, I.ok.above, I.ok.inj, I.ok.has, I.ok.cab, fun z => (by cases z), I.ok.frames, I.ok.stk, I.ok.exf, I.ok.bs, I.ok.bsz, I.ok.noex, I.ok.exfs, I.ok.funs, I.ok.frf⟩, I.os, I.bare, I.base, I.loc, I.cell, I.free, I.freeC,
    I.pin, I.hok, I.len⟩
theorem Inv.outExc {hd : X.calm = true → X.A.handled = none} {fr : X.A.frames = some X.stack} {e : Value} (I : Inv (X.inExc e) pins σ H s) : Inv X pins σ H s :=
  ⟨⟨I.ok.mod, I.ok.kind, I.ok.glob, I.ok.blt, I.ok.above, I.ok.inj, I.ok.has, I.ok.cab, hd, fr, I.ok.stk, I.ok.exf, I.ok.bs, I.ok.bsz, I.ok.noex, I.ok.exfs, I.ok.funs, I.ok.frf⟩, I.os, I.bare, I.base, I.loc, I.cell, I.free, I.freeC,
    I.pin, I.hok, I.len⟩
theorem land {ea t : Addr} {C : Value} {B h5 : Heap} (I : Inv X pins σ H1 s1) (os : s'.os = s1.os) (bare : AllBare s'.gens) (fly : Heap.FlyingW B X.stack ea C (.ref t) s'.heap) (stay : B.StaysIn h5) (up : s'.heap.UpToSlots h5)
    (hok : HOk X.prog X.w H' B) (kB : ∀ b o, s1.heap.get? b = some o → H1 b = none → b ∉ frs X.stack → B.get? b = some o) (tB : ∀ b o, s1.heap.get? b = some o → b ∉ frs X.stack → ∃ o', B.get? b = some o')
    (un : Un (frs X.stack) [] H1 H' s1.heap s'.heap) : Inv X pins σ H' { s' with heap := h5 } := by
  have slots : ∀ b o, s'.heap.get? b = some o → b ∈ frs X.stack → ∃ sl, h5.get? b = some { o with slots := sl } := fun b o e hb => by
    obtain ⟨_, o', ho', hd⟩ := fly.2.2.1.mem hb
    rw [e] at ho'
    cases ho'
    exact up b o e hd
  have un5 : Un (frs X.stack) [] H1 H' s1.heap h5 := by
    refine ⟨fun b o e n nf _ => stay _ _ (kB b o e n nf), fun b o e n hb _ => ?_, un.free, fun b o e _ => ?_, un.tups, un.frzs, un.tbls⟩
    · obtain ⟨sl, e1⟩ := un.slot b o e n hb (by simp)
      obtain ⟨sl2, e2⟩ := slots b _ e1 hb
      exact ⟨sl2, e2⟩
    · by_cases hb : b ∈ frs X.stack
      · obtain ⟨o', e1⟩ := un.there b o e (by simp)
        obtain ⟨sl, e2⟩ := slots b _ e1 hb
        exact ⟨_, e2⟩
      · obtain ⟨o', e1⟩ := tB b o e hb
        exact ⟨o', stay _ _ e1⟩
  exact I.call' (s' := { s' with heap := h5 }) (ch := []) os un5 (hok.kept stay) bare fun b hb => by cases hb
theorem typ_exc {M : Model} {h : Heap} {e : Addr} {o : Obj} {c : Value} (h1 : h.get? e = some o) (h2 : o.cls = c) : PySem.W.Looks M h (typeOf (.ref e)) c := by
  intro A Q E s k q
  unfold typeOf
  exact wpAny_bind (wpAny_loadPart (k _ _ h1) (wpAny_pure (by rw [h2]; exact q)))
def PassX (X : Cx) (EE : St → XK) : Prop := ∀ (pins : List (Addr × Obj)) (σ : St) (H : Hp) (s : Shared) (e : Value) (s' : Shared), Inv X pins σ H s → CXE X.prog X.w X.stack H s (EE σ) e s' → X.xe e s'
def tCallX (sp : Sp) (EE : St → XK) (t : TA) : TE := fun σ H Q => t σ H fun vs H1 => sp vs H1 Q (EE σ)
end
section
variable {X : Cx} {x : Str} {j k : Nat} {ps : List Str} {sp : Sp} {p pos : Pos} {e : Expr} {es : List Expr} {t : TA} {EE : St → XK}
theorem pe_defX (hx : PassX X EE) (D : DefE X.prog X.w X.K X.mg X.base x j ps sp) (hr : Room k X.A) (hg : Gl X x) (ha : PA X (e :: es) t) (hjk : j ≤ k := by decide) (hdb : (x == ("__debug__" : Str)) = false := by decide)
    (he : starEach (e :: es) X.env = (false, eval e X.env) :: starEach es X.env := by rfl) (hpl : (backTo pos (starEach es X.env)).any (·.1) = false := by rfl) :
    PE X (.Call (.Name x p) (e :: es) [] pos) (tCallX sp EE t) := by
  obtain ⟨f, fd, F, hb, kp, m⟩ := D.ex
  intro pins s σ H Q I h
  refine wpAny_Call_Name_kw (ld_glob I hg m ?_ hdb)
  refine PySem.W.callWith_K (h₀ := X.base) I.ok.mod.kin kp (thn (ha pos pins s σ H _ I h) fun us s1 ⟨vs, H1, I1, r, q⟩ => ⟨I1.kIn, ?_⟩) he hpl
  have hl : us.length = ps.length := by rw [← r.length]; exact F.len _ _ _ _ q
  have hbs : BindsTo s1 fd ⟨us, []⟩ (ps.zip us) := by
    have := hb s1 us I1.kIn (by rw [List.append_nil]; exact hl)
    rwa [List.append_nil] at this
  refine wpAny_call (codeAny_mono (F.run X.A X.stack s1 H1 ⟨us, []⟩ us vs Q (EE σ) (hr.mono hjk) I1.env0 hbs r q) fun r s' hq => ?_)
  cases r with
  | error e => exact hx pins σ H1 s1 e s' I1 hq
  | ok fl =>
    cases fl with
    | ret u => exact I1.after hq
    | next => exact False.elim hq
    | brk => exact False.elim hq
    | cont => exact False.elim hq
end
section
variable {X : Cx} {body suite : List Stmt} {b₀ : Stmt} {D : Addr} {cx : Str} {np hpos pos : Pos} {tb : (St → XK) → TS} {ts : TS}
def tTry (K : PySem.W.Frag) (D : Addr) (tb : (St → XK) → TS) (ts : TS) : TS := fun En σ H => tb (fun σ1 C _ H1 => PySem.W.exmOne K C (.ref D) = some true ∧ ts En σ1 H1) En σ H
end
def clK (K : PySem.W.Frag) (x : Str) : Addr := match PySem.W.nsIn K mainGlobals x with
  | some (some (.ref C)) => C
  | _ => 0
theorem clK_of {K : PySem.W.Frag} {x : Str} {C : Addr} (h : PySem.W.nsIn K mainGlobals x = some (some (.ref C))) : clK K x = C := by
  unfold clK
  rw [h]
end L2
namespace Xc
open PySem PySem.W PySem.Spec PySem.Calls PyProof.Rows Builtin.ObjectAttr
structure ExcC (K : Frag) (C : Addr) : Prop where
  ga : findIn K (.ref C) "__getattribute__" = some (some (.builtin "BaseException.__getattribute__"))
  gh : findIn K (.ref C) "__getattr__" = some none
  ca : findIn K (.ref C) "__class__" = some (some (.builtin "object.__class__"))
  gg : specialIn K (.builtin "object.__class__") "__get__" = some (some (.builtin "getset_descriptor.__get__"))
  tk : takesIn K (.builtin "object.__class__") = some true
  mo : mroIn K C (.type "object") = some true
  mb : mroIn K C (.type "BaseException") = some true
  hd : hasDictIn K C = true
section
variable {prog : Program} {w : World} {A : Around} {E : Value → Shared → Prop} {s : Shared} {K : Frag} {x C : Addr} {ox : Obj} {odo : Option Obj}
theorem typ {M : Model} {h : Heap} (hx : h.get? x = some ox) (hc : ox.cls = .ref C) : Looks M h (typeOf (.ref x)) (.ref C) := hc ▸ (Looks.ld hx).andThen .now
open Builtin Builtin.Getset_descriptor in
theorem exc_get {tp : Value} {R : Result → Shared → Prop} (X : K.In s.heap) (hx : s.heap.get? x = some ox) (hc : ox.cls = .ref C) (hm : mroIn K C (.type "object") = some true)
    (h : R (.ok (.ret (.ref C))) s) : codeAny (model prog w) A (.call (.builtin "getset_descriptor.__get__") ⟨[.builtin "object.__class__", .ref x, tp], []⟩) R s := by
  obtain ⟨hh, g, dr, t, os⟩ := s
  have L0 := typ (M := model prog w) hx hc
  have L1 := looks_mroIn (M := model prog w) X hm
  refine codeAny_call_builtin KF.slot_gs.plain KF.entry_gs (KF.slot_gs.check _ _ _ _ _ _ _ _ KF.type_class (KF.args_gs _ _ _) ?_)
  unfold Builtin.«getset_descriptor.__get__» descrGet
  rw [dga_obj]
  refine wpAny_bind (wpAny_pure ?_)
  unfold descrGetter descrCheckInstance descrNameAndClass isInstance
  simp only [KF.owner_class]
  repeat lk
  refine ⟨Code.quiet_builtin _ (by decide +kernel), codeAny_builtin KF.entry_class ?_⟩
  unfold Builtin.«object.__class__» shownTypeOf
  repeat lk
  exact h
end
end Xc
namespace L2
open PySem PySem.Spec PyProof.Rows
def ExcO (a C : Addr) : HO := .ext fun h => ∃ ox : Obj, h.get? a = some ox ∧ ox.cls = .ref C
section
variable {X : Cx} {pins : List (Addr × Obj)} {σ : St} {H H1 H' : Hp} {s s1 s' : Shared}
end
section
variable {X : Cx} {body suite : List Stmt} {b₀ : Stmt} {D : Addr} {cx n : Str} {i : Nat} {np hpos pos : Pos} {tb : (St → XK) → TS} {ts : TS}
def Ends.gone (En : Ends) (i : Nat) : Ends := ⟨fun σ H => En.nx (σ.set i none) H, En.rt, fun σ H => En.bk (σ.set i none) H, fun σ H => En.ct (σ.set i none) H⟩
def tTryAs (K : PySem.W.Frag) (D : Addr) (i : Nat) (tb : (St → XK) → TS) (ts : TS) : TS := fun En σ H =>
  tb (fun σ1 C _ H1 => PySem.W.exmOne K C (.ref D) = some true ∧ ∃ Ca, C = .ref Ca ∧ ∀ ea, H1 ea = none → ts (En.gone i) (σ1.set i (some (.ref ea))) (upd H1 ea (ExcO ea Ca))) En σ H
end
end L2
namespace L2
open PySem PySem.Spec PyProof.Rows
section
variable {X : Cx} {pins : List (Addr × Obj)} {σ : St} {H : Hp} {s : Shared} {h' : Heap}
theorem Inv.turned2 {t' : Nat} {a e it : Addr} {o : HO} (I : Inv X pins σ H s) (k : ∀ b u, b ≠ e → b ≠ it → s.heap.get? b = some u → h'.get? b = some u) (ha : a = s.heap.objs.size) (new : ObjOk X.prog X.w (upd H a o) h' a o) (fe : FpOk X pins H e) (fi : FpOk X pins H it) :
    Inv X pins σ (upd H a o) { s with heap := h', toks := t' } := by
  have hnone : H a = none := I.hok.fresh (by rw [ha]; exact Nat.le_refl _)
  have lts : ∀ b u, s.heap.get? b = some u → b ≠ a := fun b u q => by rw [ha]; exact Nat.ne_of_lt (Heap.lt_size q)
  have nin : ∀ b, b ∉ [e, it] → b ≠ e ∧ b ≠ it := fun b hb => ⟨fun z => hb (by simp [z]), fun z => hb (by simp [z])⟩
  have ntr : ∀ b u, H b = some u → b ≠ e ∧ b ≠ it := fun b u q => ⟨ne_of_none q fe.1, ne_of_none q fi.1⟩
  refine I.step (g' := s.gens) (d' := s.drawn) (ch := [e, it]) (fun b hb => ?_) (fun b u _ _ hc q _ => k b u (nin b hc).1 (nin b hc).2 q) (fun b u _ _ hc q _ => ⟨u.slots, k b u (nin b hc).1 (nin b hc).2 q⟩) (fun b u _ q n => by rw [upd_ne (lts b u q)]; exact n)
    (fun b u hc q => ⟨u, k b u (nin b hc).1 (nin b hc).2 q⟩) (fun b zs q => by rw [upd_ne (ne_of_none q hnone)]; exact q) (fun b u v q => by rw [upd_ne (ne_of_none q hnone)]; exact q) (fun b ps q => ⟨#[], by rw [upd_ne (ne_of_none q hnone), q]; simp⟩) (fun m hm => ?_) (fun b u q => ?_) I.bare
  · have fb : FpOk X pins H b := by
      rcases List.mem_cons.mp hb with z | z
      · rw [z]; exact fe
      · rw [List.mem_singleton.mp z]; exact fi
    obtain ⟨f0, f1, f2, f3, f4, f5⟩ := fb
    exact ⟨f3, f1, f4, f5⟩
  · obtain ⟨u, es, ep, ho, r⟩ := hm
    exact ⟨u, es, ep, k _ u (Ne.symm fe.2.1) (Ne.symm fi.2.1) ho, r⟩
  · by_cases hb : b = a
    · subst hb
      rw [upd_same] at q
      cases q
      exact new
    · rw [upd_ne hb] at q
      have w : ObjOk X.prog X.w H s.heap b u := I.hok b u q
      have ntr' : ∀ c, (c = b ∨ ∃ u, H c = some u) → c ≠ e ∧ c ≠ it := fun c hc => by
        rcases hc with z | ⟨_, z⟩
        · rw [z]; exact ntr b u q
        · exact ntr c _ z
      refine w.stay (fun c v hc q' => k c v (ntr' c ?_).1 (ntr' c ?_).2 q') (fun c q' => ?_) fun c zs q' => ?_
      · rcases hc with z | z
        · exact .inl z
        · exact .inr ⟨_, z⟩
      · rcases hc with z | z
        · exact .inl z
        · exact .inr ⟨_, z⟩
      · rw [upd_ne (ne_of_none q' hnone)]; exact q'
      · rw [upd_ne (ne_of_none q' hnone)]; exact q'
end
def Ite (K : PySem.W.Frag) (a : Addr) : It :=
  ⟨fun i H => ∃ xs x, SqL K H a xs ∧ xs[i]? = some x, fun i H x H' => ∃ y t, (∀ xs, SqL K H a xs → xs[i]? = some y) ∧ H t = none ∧ x = .ref t ∧ H' = upd H t (.tup [.int (i : Int), y]), fun i H => ∃ xs, SqL K H a xs ∧ xs.length ≤ i⟩
theorem turn_enum {P : Program} {w : World} {K : PySem.W.Frag} {elts : List Expr} {x1} {tp : Pos} (a e it : Addr) (hne : e ≠ it) : Turn P w K (.Tuple elts x1 tp) (Ite K a) [e, it] e (fun i h => (∃ old, IsEnum h e it ((i : Nat) : Int) old) ∧ h.IsListIter it a i) where
  mem := by simp
  obj := fun i h st b hb => by
    obtain ⟨⟨old, he⟩, o, ho, c, d⟩ := st
    rcases List.mem_cons.mp hb with z | z
    · subst z
      exact ⟨_, he, fun v z => by
        have z' : Data.fields _ = Data.cell v := z
        cases z'⟩
    · rw [List.mem_singleton.mp z]
      exact ⟨o, ho, fun v z => by rw [d] at z; cases z⟩
  keep := fun i h h' st k => by
    obtain ⟨⟨old, he⟩, hi⟩ := st
    exact ⟨⟨old, k e (by simp) _ he⟩, hi.at fun o q => k it (by simp) o q⟩
  item := by
    intro X hP hw hK hc i pins s σ H E I hf st hg
    subst hP hw hK
    obtain ⟨xs, x, hq, hx⟩ := hg
    obtain ⟨its, rv, p, hz⟩ := I.list hq
    obtain ⟨u, hu, ru⟩ := rv.get hx
    obtain ⟨⟨old, he⟩, hit⟩ := st
    have fe := hf e (by simp)
    have fi := hf it (by simp)
    have hel : e < s.heap.objs.size := Heap.lt_size he
    refine wpAny_pyNext_enum_item he hit p.isList (x := u) (by simpa using hu) hne fun h1 he1 hit1 ht1 hz1 hk1 => ⟨_, rfl, ?_⟩
    refine wpAny_letOwnedTupleGo_enum he1 fun h2 he2 hs2 => ?_
    have hs2' : Heap.SameBut e h1 h2 := hs2
    have hnone : H s.heap.objs.size = none := I.hok.fresh (Nat.le_refl _)
    refine ⟨.ref s.heap.objs.size, upd H s.heap.objs.size (.tup [.int (i : Int), x]), I.turned2 (t' := s.toks + 1) (e := e) (it := it) (fun b o hb1 hb2 q => (hs2'.2 b hb1).trans (hk1 b o hb1 hb2 q)) rfl ?_ fe fi, rfl, ⟨x, _, fun ys hy => by rw [I.list_inj hy hq]; exact hx, hnone, rfl, rfl⟩, ⟨⟨_, by rw [Int.natCast_add]; exact he2⟩, hit1.extBut hs2'.extBut (Ne.symm hne)⟩, fun b hb => ?_⟩
    · exact ⟨by show 2 ≤ sizeLine; decide, [.int i s.toks, u], .cons ⟨_, rfl⟩ (.cons ru .nil), ⟨_, (hs2'.2 _ (Nat.ne_of_gt hel)).trans ht1, rfl, _, rfl⟩⟩
    · have hb0 : H b = none := (hf b hb).1
      have hbl : b < s.heap.objs.size := by
        rcases List.mem_cons.mp hb with z | z
        · rw [z]; exact hel
        · rw [List.mem_singleton.mp z]
          obtain ⟨o, ho, _⟩ := id hit
          exact Heap.lt_size ho
      rw [upd_ne (Nat.ne_of_lt hbl)]
      exact hb0
  done := by
    intro X hP hw hK hc i pins s σ H E I hf st hg
    subst hP hw hK
    obtain ⟨xs, hq, hx⟩ := hg
    obtain ⟨its, rv, p, hz⟩ := I.list hq
    obtain ⟨⟨old, he⟩, hit⟩ := st
    obtain ⟨f0, f1, f2, f3, f4, f5⟩ := hf it (by simp)
    have hl := rv.length
    exact wpAny_pyNext_enum_end (I.ok.hd hc) he hit p.isList (by simp; omega) fun h' eb => ⟨rfl, I.turned (t' := s.toks) (fun b o hb q => eb b o hb q) f0 f1 f3 f4 f5⟩
  self := fun _ _ _ _ _ ⟨⟨_, he⟩, _⟩ h => wpAny_pyIter_enum he h
section
variable {X : Cx} {e : Expr} {te : TE} {p p2 pos pos2 : Pos}
def iEnum (K : PySem.W.Frag) (tl : TE) : TI := fun σ H R => tl σ H fun x H1 => ∃ a, x = .ref a ∧ (∃ xs, SqL K H1 a xs) ∧ R (Ite K a) H1
theorem pi_enum {elts : List Expr} {x1} {tp : Pos} (hg : Gl X "enumerate") (hm : X.mg "enumerate" = none) (he : PE X e te) (hs : starEach [e] X.env = (false, eval e X.env) :: starEach [] X.env := by rfl) : PI X (.Tuple elts x1 tp) (.Call (.Name "enumerate" p) [e] [] pos) (iEnum X.K te) := by
  intro pins s σ H R I h
  refine wpAny_Call_Name_kw (ld_blt I hg hm PyProof.Rows.boot_enumerate ?_ (by decide) (by decide))
  refine PyProof.Rows.callWith_type1 (thn (pa_cons he pa_nil hs pos pins s σ H (fun vs H1 => ∃ a, vs = [.ref a] ∧ (∃ xs, SqL X.K H1 a xs) ∧ R (Ite X.K a) H1) I ?_) fun us s1 ⟨vs, H1, I1, r1, q1⟩ => ?_) hs rfl
  · show te σ H _
    have e2 : (fun x H1 => tNil σ H1 fun xs H2 => (fun vs H1 => ∃ a, vs = [V.ref a] ∧ (∃ xs, SqL X.K H1 a xs) ∧ R (Ite X.K a) H1) (x :: xs) H2) = fun x H1 => ∃ a, x = V.ref a ∧ (∃ xs, SqL X.K H1 a xs) ∧ R (Ite X.K a) H1 := by
      funext x H1
      simp only [tNil, List.cons.injEq, and_true]
    have := h
    unfold iEnum at this
    rw [← e2] at this
    exact this
  · obtain ⟨a, rfl, ⟨xs, hq⟩, hR⟩ := q1
    obtain ⟨u, rfl, ru⟩ := vals1 r1
    cases ru
    obtain ⟨its, rv, pl, hz⟩ := I1.list hq
    refine call_enumerate_list pl.isList fun h' he' hit hz' hk => ?_
    refine wpAny_pyIter_enum he' ?_
    refine ⟨s1.heap.objs.size + 1, [s1.heap.objs.size + 1, s1.heap.objs.size], _, _, H1, rfl, I1.kept (t' := s1.toks) hk, turn_enum a _ _ (Nat.succ_ne_self _), ⟨⟨_, he'⟩, hit⟩, fun b hb => ?_, hR⟩
    rcases List.mem_cons.mp hb with z | z
    · rw [z]; exact I1.fpOk (Nat.le_succ _) (I1.hok.fresh (Nat.le_succ _))
    · rw [List.mem_singleton.mp z]; exact I1.fpOk (Nat.le_refl _) (I1.hok.fresh (Nat.le_refl _))
end
theorem forE {K : PySem.W.Frag} {a : Addr} {g : TG} {tb : TS} {D : Ends} {σ : St} {H : Hp} (ns : List Int) (Pv : Nat → St → Hp → Prop) (h0 : Pv 0 σ H) (hl : ∀ i σ H, Pv i σ H → SqL K H a (ns.map V.int))
    (hs : ∀ i (x : Int) σ H t H', ns[i]? = some x → Pv i σ H → Same H H' → H' t = some (.tup [.int (i : Int), .int x]) → g (.ref t) σ H' fun σ2 H2 => tb { D with nx := Pv (i + 1), ct := Pv (i + 1), bk := D.nx } σ2 H2) (hd : ∀ σ H, Pv ns.length σ H → D.nx σ H) :
    ForIt (Ite K a) g tb D σ H := by
  refine ⟨fun i m σ H => m = ns.length - i ∧ i ≤ ns.length ∧ Pv i σ H, ⟨ns.length, by simp, Nat.zero_le _, h0⟩, ?_⟩
  rintro i m σ H ⟨rfl, hi, p⟩
  have q := hl i σ H p
  by_cases hlt : i < ns.length
  · have hx : ns[i]? = some ns[i] := List.getElem?_eq_getElem hlt
    have hx' : (ns.map V.int)[i]? = some (.int ns[i]) := by rw [List.getElem?_map, hx]; rfl
    refine .inr ⟨⟨_, _, q, hx'⟩, Pv (i + 1), fun σ' H' p' => ⟨ns.length - (i + 1), by omega, rfl, hlt, p'⟩, fun x H' y => ?_⟩
    obtain ⟨y, t, hy, ht, rfl, rfl⟩ := y
    have hy := hy _ q
    rw [hx'] at hy
    cases hy
    exact hs i _ σ H t _ hx p (same_new ht _) upd_same
  · have e : i = ns.length := by omega
    subst e
    exact .inl ⟨⟨_, q, by simp⟩, hd σ H p⟩
section
variable {X : Cx} {e lo hi st : Expr} {te : TE} {tl th tk : TO} {pos p2 : Pos}
def tSlK (K : PySem.W.Frag) (te : TE) (tl th tk : TO) : TE := fun σ H Q => te σ H fun x H1 => tl σ H1 fun l H2 => th σ H2 fun u H3 => tk σ H3 fun k H4 =>
  ∃ (a : Addr) (ns : List Int), x = .ref a ∧ k ≠ some 0 ∧ SqL K H4 a (ns.map V.int) ∧ ∀ ms : List Int, ms.length ≤ ns.length → (∀ m, m ∈ ms → m ∈ ns) → ∀ p, H4 p = none → Q (.ref p) (upd H4 p (.lst (ms.map V.int)))
theorem vals_of_ints : ∀ {vs : List Value} {ns : List Int}, IntsAre vs ns → Vals (ns.map V.int) vs
  | _, _, .nil => .nil
  | _, _, .cons n t r => .cons ⟨t, rfl⟩ (vals_of_ints r)
end
section
variable {X : Cx}
def rGetL (K : PySem.W.Frag) : R2 := fun x y H Q => ∃ p xs i v, x = .ref p ∧ y = .int i ∧ 0 ≤ i ∧ SqL K H p xs ∧ xs[i.toNat]? = some v ∧ Q v H
theorem get_list : PGet X (rGetL X.K) := by
  intro pins s σ H o i ov iv Q I ro ri h
  obtain ⟨p, xs, k, v, rfl, rfl, h0, hq, hv, q⟩ := h
  cases ro
  obtain ⟨t, rfl⟩ := ri
  obtain ⟨its, r, pl, hz⟩ := I.list hq
  obtain ⟨u, eu, ru⟩ := r.get hv
  have hn := line63
  have hl := (List.getElem?_eq_some_iff.mp hv).1
  exact wpAny_getItem_list pl.isList h0 (by omega) (x := u) (by simpa using eu) ⟨v, H, I, ru, q⟩
theorem ix_listK {K : PySem.W.Frag} (hK : X.K = K) : IxR X (rIxL K) := by subst hK; exact ix_list
theorem vals_bls : ∀ {bs : List Bool} {us : List Value}, Vals (bs.map V.bl) us → us = bs.map Value.bool
  | [], _, .nil => rfl
  | b :: bs, _, .cons r t => by
    have r' : _ = Value.bool b := r
    rw [r', vals_bls t]
    rfl
theorem bt_all : bootBuiltins "all" = some (.builtin "all") := by decide +kernel
theorem call_allB (hc : X.calm = true) : CallR X (.builtin "all") (fun xs H Q => ∃ (p : Addr) (bs : List Bool), xs = [.ref p] ∧ SqL X.K H p (bs.map V.bl) ∧ Q (.bl (bs.all id)) H) := by
  intro pins s σ H xs us Q I r h
  obtain ⟨p, bs, rfl, hq, q⟩ := h
  obtain ⟨u, rfl, rx⟩ := vals1 r
  cases rx
  obtain ⟨its, rv, pl, hz⟩ := I.list hq
  have ei : its = bs.map Value.bool := vals_bls rv
  obtain ⟨o, ho, _⟩ := id pl.isList
  have hne : p ≠ s.heap.objs.size := Nat.ne_of_lt (Heap.lt_size ho)
  refine call_all_walk (wpAny_pyIter_list pl.isList ?_)
  refine ⟨s.heap.objs.size, _, _, _, _, _, fun i => bs.getD i false, rfl, Walks.list (A := X.A.in1) (I.ok.hd hc) s.heap.objs.size p hne its.toArray, ⟨⟨_, Heap.get?_push_size _ rfl, rfl, rfl⟩, pl.isList.at fun o e => Heap.get?_push_of_some _ e⟩, ?_, ?_⟩
  · intro i v s' Q' E' hP hQ
    have hv : its[i]? = some v := by simpa using hP
    rw [ei, List.getElem?_map] at hv
    cases z : bs[i]? with
    | none => rw [z] at hv; cases hv
    | some b =>
      rw [z] at hv
      cases hv
      refine wpAny_truthy_bool ?_
      have : bs.getD i false = b := by rw [List.getD_eq_getElem?_getD, z]; rfl
      rw [← this]
      exact hQ
  · intro h' tk hk
    have f := I.fpOk (H' := H) (Nat.le_refl _) (I.hok.fresh (Nat.le_refl _))
    obtain ⟨f0, f1, f2, f3, f4, f5⟩ := f
    have I2 : Inv X pins σ H { s with heap := h', toks := tk } := I.turned (t' := tk) (it := s.heap.objs.size) (fun b o hb e => hk b o (by simpa using hb) (Heap.get?_push_of_some _ e)) f0 f1 f3 f4 f5
    have ea : (List.range its.toArray.size).all (fun i => bs.getD i false) = bs.all id := by
      rw [ei, List.size_toArray, List.length_map]
      have e1 : bs = (List.range bs.length).map (fun i => bs.getD i false) := by
        refine List.ext_getElem (by simp) fun j h1 h2 => ?_
        rw [List.getElem_map, List.getElem_range, List.getD_eq_getElem?_getD, List.getElem?_eq_getElem h1]
        rfl
      conv => rhs; rw [e1]
      rw [List.all_map]
      rfl
    exact ⟨.bl (bs.all id), H, I2, by rw [ea]; rfl, q⟩
theorem cut_both {α : Type} (f : α → V) (xs : List α) {i k : Int} (hi : 0 ≤ i) (hk : 0 ≤ k) : cutV (xs.map f) (some i) (some k) = ((xs.take k.toNat).drop i.toNat).map f := by
  obtain ⟨n, rfl⟩ : ∃ n : Nat, k = (n : Int) := ⟨k.toNat, by omega⟩
  obtain ⟨j, rfl⟩ : ∃ j : Nat, i = (j : Int) := ⟨i.toNat, by omega⟩
  unfold cutV
  rw [HT.sIx_nat, HT.sIx_nat, Int.toNat_natCast, Int.toNat_natCast, ← List.map_drop, ← List.map_take]
  congr 1
  rw [List.length_map]
  refine List.ext_getElem? fun m => ?_
  simp only [List.getElem?_take, List.getElem?_drop]
  by_cases h : m < min n xs.length - min j xs.length
  · rw [if_pos h, if_pos (by omega), Nat.min_eq_left (by omega)]
  · rw [if_neg h]
    by_cases h2 : j + m < n
    · rw [if_pos h2, List.getElem?_eq_none (by omega)]
    · rw [if_neg h2]
theorem cut_init {α : Type} (f : α → V) (xs : List α) : cutV (xs.map f) none (some (-1)) = xs.dropLast.map f := by
  have e : HT.sIx (xs.map f).length (xs.map f).length (some (-1)) = xs.length - 1 := by
    rw [List.length_map]
    simp only [HT.sIx]
    split <;> omega
  unfold cutV
  rw [HT.sIx_none, e, List.drop_zero, Nat.sub_zero, List.dropLast_eq_take, List.map_take]
end
section
variable {X : Cx} {a b : Expr} {ta : TA} {p p2 pos pos2 : Pos}
def nums (i : Int) (n : Nat) : List Int := (List.range n).map fun k : Nat => i + (k : Int)
def tListRng (ta : TA) : TE := fun σ H Q => ta σ H fun vs H1 => ∃ i j : Int, vs = [.int i, .int j] ∧ (-1000000 ≤ i ∧ i < 1000000 ∧ -1000000 ≤ j ∧ j < 1000000) ∧ ∀ l, H1 l = none → Q (.ref l) (upd H1 l (.lst ((nums i (j - i).toNat).map V.int)))
end
end L2
namespace L2
open PySem PySem.Spec PyProof.Rows
namespace So
open PySem.W
section
variable {n : Nat} {key : Nat → Int} {cmp : Nat → Nat → (Bool → Shared → Prop) → Shared → Prop} {s : Shared}
def Own (n : Nat) (p : Array Nat) : Prop := p.toList.Perm (List.range n)
def Kp (key : Nat → Int) (p : Array Nat) (i : Nat) : Int := key (p.getD i 0)
def Inc (key : Nat → Int) (p : Array Nat) (k : Nat) : Prop := ∀ i j, i < j → j < k → Kp key p i < Kp key p j
def Dec (key : Nat → Int) (p : Array Nat) (k : Nat) : Prop := ∀ i j, i < j → j < k → Kp key p j < Kp key p i
end
end So
end L2
namespace L2
open PySem PySem.Spec PyProof.Rows
def prevSp (sp : Nat → Sp) : Nat → Sp
  | 0 => fun _ _ _ _ => False
  | n + 1 => sp n
section
variable {P : Program} {w : World} {K : PySem.W.Frag} {mg : Str → Option Value} {base : Heap} {x qual : Str} {st : Stmt} {f : Addr} {fd : FuncData} {ps : List Str} {sp : Nat → Sp}
theorem rec_go {CX : CXT} (L : Nat) (step : ∀ n, FnOk P w K mg base CX (L + n) f fd ps (prevSp sp n) → FnOk P w K mg base CX (L + n + 1) f fd ps (sp n)) : ∀ n, FnOk P w K mg base CX (L + n + 1) f fd ps (sp n)
  | 0 => step 0 ⟨fun _ _ _ _ h => h.elim, fun _ _ _ _ _ _ _ _ _ _ _ _ _ h => h.elim⟩
  | n + 1 => step (n + 1) (rec_go L step n)
theorem recE_mk (F : Fun K x qual st f fd) (b : Binds K fd ps []) (m : mg x = some (.ref f)) (L : Nat) (step : ∀ n, DefE P w K mg base x (L + n) ps (prevSp sp n) → FnOk P w K mg base (CXE P w) (L + n + 1) f fd ps (sp n)) (n : Nat) : DefE P w K mg base x (L + n + 1) ps (sp n) :=
  defE_mk F (rec_go L (fun n ok => step n (defE_mk F ok b m)) n) b m
end
section
variable {X : Cx}
theorem bt_sorted : bootBuiltins "sorted" = some (.builtin "sorted") := by decide +kernel
theorem call_sortedI (_ : X.calm = true) : CallR X (.builtin "sorted") (fun xs H Q => ∃ (p : Addr) (ns : List Int), xs = [.ref p] ∧ SqL X.K H p (ns.map V.int) ∧ ns.length < 64 ∧ ∀ ms : List Int, ms.Perm ns → ms.Pairwise (· ≤ ·) → ∀ l, H l = none → Q (.ref l) (upd H l (.lst (ms.map V.int)))) := by
  intro pins s σ H xs us Q I r h
  obtain ⟨p, ns, rfl, hq, h64, q⟩ := h
  obtain ⟨u, rfl, rx⟩ := vals1 r
  cases rx
  obtain ⟨its, rv, pl, hz⟩ := I.list hq
  have hi := intsAre_of rv
  have hl := hi.length
  refine sorted_ints pl.isList hi (by omega) fun out ms h1 h2 h3 => ?_
  obtain ⟨e, he⟩ := sortedAll_at s.heap its out
  refine ⟨.ref (s.heap.objs.size + 1), _, I.laid (t' := s.toks) (o := .lst (ms.map V.int)) (fun b u e => sortedAll_old e) (Nat.le_succ _) ?_, rfl, q ms h2 h3 _ (I.hok.fresh (Nat.le_succ _))⟩
  have hz' : ms.length ≤ sizeLine := by
    rw [h2.length_eq]
    rw [List.length_map] at hz
    exact hz
  exact ⟨by rw [List.length_map]; exact hz', out.toList, e, vals_of_ints h1, by rw [he]⟩
end
namespace So
open PySem.W
section
variable {pr : Program} {wo : World} {Ar : Around} {Er : Value → Shared → Prop} {st : Shared}
end
end So
section
variable {X : Cx}
def PairsAt (H : Hp) (as : List Addr) (bs : List (Int × Nat)) : Prop := as.length = bs.length ∧ ∀ (i : Nat) (a : Addr) (b : Int × Nat), as[i]? = some a → bs[i]? = some b → H a = some (.tup [.int b.1, .int (b.2 : Int)])
def pairOb (h : Heap) (a : Addr) (b : Int × Nat) : Prop := ∃ (o : Obj) (k : Nat) (t1 t2 : Tok), h.get? a = some o ∧ o.cls = .type "tuple" ∧ o.data = .seq #[.int b.1 t1, .int (b.2 : Int) t2] k
end
end L2
namespace L2
open PySem PySem.Spec PyProof.Rows
def tComp2 (caps : List Nat) (wi : TI) (g : TG) (tt : TT) (te : TE) : TE := fun σ H Q => wi σ H fun J H1 => ∃ (n : Nat) (W : Nat → List V → Hp → Prop), n ≤ sizeLine ∧ W 0 [] H1 ∧ ∀ i ys H2, W i ys H2 →
  (J.stop i H2 ∧ ∀ p, H2 p = none → Q (.ref p) (upd H2 p (.lst ys))) ∨
  (J.go i H2 ∧ i < n ∧ ∀ x H3, J.yld i H2 x H3 → ∀ o1 o2 : Option V, g x (o1 :: o2 :: capV caps σ) H3 fun σ4 H4 => (∃ v1 v2 : V, σ4 = some v1 :: some v2 :: capV caps σ) ∧ tt σ4 H4 fun b H5 => if b = true then te σ4 H5 fun v H6 => W (i + 1) (ys ++ [v]) H6 else W (i + 1) ys H5)
section
variable {X : Cx} {scope : Scope} {cl : List (Str × Addr)} {caps : List Nat} {xs : List Str} {C : Addr} {s : Shared} {H : Hp} {fp : List Addr} {pins : List (Addr × Obj)} {σ : St}
end
section
variable {X : Cx}
end
end L2
namespace L2
open PySem PySem.Spec PyProof.Rows
def PairsI (H : Hp) (as : List Addr) (fs : List (Int × Int)) : Prop := as.length = fs.length ∧ ∀ (i : Nat) (a : Addr) (b : Int × Int), as[i]? = some a → fs[i]? = some b → H a = some (.tup [.int b.1, .int b.2])
def natP (b : Int × Nat) : Int × Int := (b.1, (b.2 : Int))
def pairD (b : Int × Int) : PyData := .tuple [.int b.1, .int b.2]
section
variable {K : PySem.W.Frag} {H : Hp} {l m : Addr} {as cs : List Addr} {fs gs : List (Int × Int)} {Q : VK}
end
def CompIt2 (J : It) (caps : List Nat) (g : TG) (tt : TT) (te : TE) (σ : St) (H : Hp) (Q : VK) : Prop := ∃ (n : Nat) (W : Nat → List V → Hp → Prop), n ≤ sizeLine ∧ W 0 [] H ∧ ∀ i ys H2, W i ys H2 →
  (J.stop i H2 ∧ ∀ p, H2 p = none → Q (.ref p) (upd H2 p (.lst ys))) ∨
  (J.go i H2 ∧ i < n ∧ ∀ x H3, J.yld i H2 x H3 → ∀ o1 o2 : Option V, g x (o1 :: o2 :: capV caps σ) H3 fun σ4 H4 => (∃ v1 v2 : V, σ4 = some v1 :: some v2 :: capV caps σ) ∧ tt σ4 H4 fun b H5 => if b = true then te σ4 H5 fun v H6 => W (i + 1) (ys ++ [v]) H6 else W (i + 1) ys H5)
end L2
namespace L2
open PySem PySem.Spec PyProof.Rows
section
variable {X : Cx} {body suite suite2 : List Stmt} {b₀ b₁ : Stmt} {D D2 : Addr} {cx cx2 : Str} {np np2 hpos hpos2 pos : Pos} {tb : (St → XK) → TS} {ts ts2 : TS}
def tTry2 (K : PySem.W.Frag) (D D2 : Addr) (tb : (St → XK) → TS) (ts ts2 : TS) : TS := fun En σ H => tb (fun σ1 C _ H1 => (PySem.W.exmOne K C (.ref D) = some true ∧ ts En σ1 H1) ∨ (PySem.W.exmOne K C (.ref D) = some false ∧ PySem.W.exmOne K C (.ref D2) = some true ∧ ts2 En σ1 H1)) En σ H
theorem ps_try2 (hst : X.stack = X.env :: X.outer) (hfr : X.env.frame = some X.env.locals) (hg : Gl X cx) (hm : X.mg cx = some (.ref D)) (hg2 : Gl X cx2) (hm2 : X.mg cx2 = some (.ref D2))
    (hb : ∀ E pn EE, PassX (X.inTry E pn) EE → PSs (X.inTry E pn) body (tb EE)) (hs : ∀ e, PSs (X.inExc e) (b₀ :: suite) ts) (hs2 : ∀ e, PSs (X.inExc e) (b₁ :: suite2) ts2) (hdb : (cx == ("__debug__" : Str)) = false := by decide) (hdb2 : (cx2 == ("__debug__" : Str)) = false := by decide) :
    PS X (.Try body [.ExceptHandler (some (.Name cx np)) none (b₀ :: suite) hpos, .ExceptHandler (some (.Name cx2 np2)) none (b₁ :: suite2) hpos2] [] [] pos) (tTry2 X.K D D2 tb ts ts2) := by
  intro pins s σ H En I h
  refine wpAny_Try_except (wpAny_mono (hb (fun e s₁ => wpAny (model X.prog X.w) X.A (noteFrame e X.env) (fun _ s₂ => wpAny (model X.prog X.w) X.A (setFlight e none) (fun _ s₃ =>
    wpAny (model X.prog X.w) X.A (handleBy e X.env [.ExceptHandler (some (.Name cx np)) none (b₀ :: suite) hpos, .ExceptHandler (some (.Name cx2 np2)) none (b₁ :: suite2) hpos2]) (SP X pins En) X.xe s₃) X.xe s₂) X.xe s₁) (X.pn ++ pins) _ ?_ [] s σ H En (I.inTry _) h) (fun f s1 hq => ?_) fun e s1 hq => hq)
  · intro pins' σ1 H1 s1 e s' I1 hc
    have J := I1.outTry
    obtain ⟨ea, t, C, vs, B, H', rfl, os, bare, fly, tup, tn, hok, kB, tB, un, hor⟩ := hc
    have fly' : Heap.FlyingW B (X.env :: X.outer) ea C (.ref t) s'.heap := by rw [← hst]; exact fly
    refine wpAny_looks_onW (by rw [← hst]; exact I.ok.frames) hfr fly' fun h4 held4 up4 => ?_
    refine wpAny_landsW held4 fun h5 fly5 up5 => ?_
    have up := up4.trans up5
    have J5 : Inv X pins σ1 H' { s' with heap := h5 } := land J os bare fly fly5.1 up hok kB tB un
    obtain ⟨ob, hob, hobc⟩ := fly5.there
    have fin : ∀ {f : Flow} {s7 : Shared} {e0 : Value}, SP (X.inExc e0) pins En f s7 → SP X pins En f s7 := fun {f s7 e0} h7 => by
      cases f with
      | next => obtain ⟨σ7, H7, I7, q7⟩ := h7; exact ⟨σ7, H7, I7.outExc (hd := I.ok.hd) (fr := I.ok.frames), q7⟩
      | brk => obtain ⟨σ7, H7, I7, q7⟩ := h7; exact ⟨σ7, H7, I7.outExc (hd := I.ok.hd) (fr := I.ok.frames), q7⟩
      | cont => obtain ⟨σ7, H7, I7, q7⟩ := h7; exact ⟨σ7, H7, I7.outExc (hd := I.ok.hd) (fr := I.ok.frames), q7⟩
      | ret u => obtain ⟨v, σ7, H7, I7, r7, q7⟩ := h7; exact ⟨v, σ7, H7, I7.outExc (hd := I.ok.hd) (fr := I.ok.frames), r7, q7⟩
    refine wpAny_handleBy_cons (codeAny_handlers_test (ld_glob (J5.inExc (.ref ea)) hg hm ?_ hdb)) (by intro q; cases q)
    rcases hor with ⟨hmt, hts⟩ | ⟨hmf, hmt, hts⟩
    · refine (PySem.W.exm_one J5.kIn (typ_exc hob hobc) hmt).at ?_
      refine codeAny_handlers_suite ?_
      refine lands_againW fly5 fun h6 fly6 up6 => ?_
      have J6 : Inv X pins σ1 H' { s' with heap := h6 } := land J os bare fly fly6.1 (up.trans up6) hok kB tB un
      exact wpAny_mono (hs (.ref ea) pins _ σ1 H' En (J6.inExc _) hts) (fun f s7 h7 => fin h7) fun _ _ z => z.elim
    · refine (PySem.W.exm_one J5.kIn (typ_exc hob hobc) hmf).at ?_
      refine wpAny_handleBy_cons (codeAny_handlers_test (ld_glob (J5.inExc (.ref ea)) hg2 hm2 ?_ hdb2)) (by intro q; cases q)
      refine (PySem.W.exm_one J5.kIn (typ_exc hob hobc) hmt).at ?_
      refine codeAny_handlers_suite ?_
      refine lands_againW fly5 fun h6 fly6 up6 => ?_
      have J6 : Inv X pins σ1 H' { s' with heap := h6 } := land J os bare fly fly6.1 (up.trans up6) hok kB tB un
      exact wpAny_mono (hs2 (.ref ea) pins _ σ1 H' En (J6.inExc _) hts) (fun f s7 h7 => fin h7) fun _ _ z => z.elim
  · cases f with
    | next => obtain ⟨σ7, H7, I7, q7⟩ := hq; exact wpAny_execs_nil ⟨σ7, H7, I7.outTry, q7⟩
    | brk => obtain ⟨σ7, H7, I7, q7⟩ := hq; exact ⟨σ7, H7, I7.outTry, q7⟩
    | cont => obtain ⟨σ7, H7, I7, q7⟩ := hq; exact ⟨σ7, H7, I7.outTry, q7⟩
    | ret u => obtain ⟨v, σ7, H7, I7, r7, q7⟩ := hq; exact ⟨v, σ7, H7, I7.outTry, r7, q7⟩
end
section
variable {X : Cx}
theorem call_maxL (hc : X.calm = true) : CallR X (.builtin "max") (fun xs H Q => ∃ (p : Addr) (ns : List Int), xs = [.ref p] ∧ SqL X.K H p (ns.map V.int) ∧ 0 < ns.length ∧ ∀ M : Int, M ∈ ns → (∀ a, a ∈ ns → a ≤ M) → Q (.int M) H) := by
  intro pins s σ H xs us Q I r h
  obtain ⟨p, ns, rfl, hq, hn, q⟩ := h
  obtain ⟨u, rfl, rx⟩ := vals1 r
  cases rx
  obtain ⟨its, rv, pl, hz⟩ := I.list hq
  have hi := intsAre_of rv
  obtain ⟨zs, hzs⟩ := hi.allInts.items
  have hnn : zs.toList.map (·.1) = ns := by
    rw [← nums_intItems, ← hzs]
    exact hi.numsOf
  have hsz : 0 < zs.size := by
    have := congrArg List.length hnn
    simp at this
    omega
  refine max_intList (I.ok.hd hc) (by rw [← hzs]; exact pl.isList) hsz fun v h' tk hv hk => ?_
  obtain ⟨t, rfl⟩ := intItems_at hv
  obtain ⟨h1, h2⟩ := argBest_gt (numAt zs) (zs.size - 1)
  refine ⟨.int _, H, I.kept (t' := tk) hk, ⟨t, rfl⟩, q _ ?_ fun a ha => ?_⟩
  · rw [← hnn, numAt_eq]
    exact getD_mem (by rw [List.length_map, Array.length_toList]; omega)
  · rw [← hnn] at ha
    obtain ⟨j, hj, rfl⟩ := mem_getD ha
    rw [List.length_map, Array.length_toList] at hj
    rw [← numAt_eq]
    exact h2 j (by omega)
end
end L2
namespace K45
open PySem L2
set_option maxHeartbeats 1000000
section
def top (i : Nat) : Stmt := PySem.Challenge.pw_deeprests_k45_whole_endless_roots_lead_o.main.body.getD i (.Pass ⟨0, 0, 0, 0⟩)
abbrev s_depth_of : Stmt := top 7
theorem S_depth_of : FnScope ["p", "x", "depth", "left"] ["p", "x"] (defScope s_depth_of) := ⟨rfl, rfl, rfl, by decide +kernel, rfl, by decide +kernel, by decide +kernel⟩
abbrev s_power_of : Stmt := top 8
theorem S_power_of : FnScope ["p", "e", "power", "turn"] ["p", "e"] (defScope s_power_of) := ⟨rfl, rfl, rfl, by decide +kernel, rfl, by decide +kernel, by decide +kernel⟩
abbrev s_inverse_by_prime : Stmt := top 9
theorem S_inverse_by_prime : FnScope ["p", "x", "fitting"] ["p", "x"] (defScope s_inverse_by_prime) := ⟨rfl, rfl, rfl, by decide +kernel, rfl, by decide +kernel, by decide +kernel⟩
abbrev s_inverse_of : Stmt := top 10
theorem S_inverse_of : FnScope ["p", "e", "x", "power", "y", "reached"] ["p", "e", "x"] (defScope s_inverse_of) := ⟨rfl, rfl, rfl, by decide +kernel, rfl, by decide +kernel, by decide +kernel⟩
abbrev s_worth_at : Stmt := top 13
theorem S_worth_at : FnScope ["f", "x", "worth", "number"] ["f", "x"] (defScope s_worth_at) := ⟨rfl, rfl, rfl, by decide +kernel, rfl, by decide +kernel, by decide +kernel⟩
abbrev s_degree_of : Stmt := top 14
theorem S_degree_of : FnScope ["f", "degree", "place", "number"] ["f"] (defScope s_degree_of) := ⟨rfl, rfl, rfl, by decide +kernel, rfl, by decide +kernel, by decide +kernel⟩
abbrev s_poly_product : Stmt := top 15
theorem S_poly_product : FnScope ["f", "g", "product", "place", "number", "other_place", "other_number"] ["f", "g"] (defScope s_poly_product) := ⟨rfl, rfl, rfl, by decide +kernel, rfl, by decide +kernel, by decide +kernel⟩
abbrev s_slope_of : Stmt := top 16
theorem S_slope_of : FnScope ["f"] ["f"] (defScope s_slope_of) := ⟨rfl, rfl, rfl, by decide +kernel, rfl, by decide +kernel, by decide +kernel⟩
abbrev s_seen_from : Stmt := top 17
theorem S_seen_from : FnScope ["p", "f", "a", "e", "place_seen", "seen", "number"] ["p", "f", "a", "e"] (defScope s_seen_from) := ⟨rfl, rfl, rfl, by decide +kernel, rfl, by decide +kernel, by decide +kernel⟩
abbrev s_content_of : Stmt := top 18
theorem S_content_of : FnScope ["p", "f", "content", "left"] ["p", "f"] (defScope s_content_of) := ⟨rfl, rfl, rfl, by decide +kernel, rfl, by decide +kernel, by decide +kernel⟩
abbrev s_without_content : Stmt := top 19
theorem S_without_content : FnScope ["p", "f", "power"] ["p", "f"] (defScope s_without_content) := ⟨rfl, rfl, rfl, by decide +kernel, rfl, by decide +kernel, by decide +kernel⟩
abbrev s_rests_by_prime : Stmt := top 20
theorem S_rests_by_prime : FnScope ["p", "f", "small"] ["p", "f"] (defScope s_rests_by_prime) := ⟨rfl, rfl, rfl, by decide +kernel, rfl, by decide +kernel, by decide +kernel⟩
abbrev s_single_depth : Stmt := top 22
theorem S_single_depth : FnScope ["p", "f", "a", "rise", "d"] ["p", "f", "a"] (defScope s_single_depth) := ⟨rfl, rfl, rfl, by decide +kernel, rfl, by decide +kernel, by decide +kernel⟩
abbrev s_root_of : Stmt := top 23
theorem S_root_of : FnScope ["p", "f", "a", "N", "d"] ["p", "f", "a", "N"] (defScope s_root_of) := ⟨rfl, rfl, rfl, by decide +kernel, rfl, by decide +kernel, by decide +kernel⟩
abbrev s_deepened : Stmt := top 24
theorem S_deepened : FnScope ["p", "f", "a", "d", "N", "power", "worth_power", "root", "inverse", "turn", "t"] ["p", "f", "a", "d", "N"] (defScope s_deepened) := ⟨rfl, rfl, rfl, by decide +kernel, rfl, by decide +kernel, by decide +kernel⟩
abbrev s_roots_within : Stmt := top 25
theorem S_roots_within : FnScope ["p", "a", "e", "seen", "N", "freed", "slope", "power", "roots", "r", "root"] ["p", "a", "e", "seen", "N"] (defScope s_roots_within) := ⟨rfl, rfl, rfl, by decide +kernel, rfl, by decide +kernel, by decide +kernel⟩
abbrev s_endless_roots : Stmt := top 26
theorem S_endless_roots : FnScope ["p", "f", "N"] ["p", "f", "N"] (defScope s_endless_roots) := ⟨rfl, rfl, rfl, by decide +kernel, rfl, by decide +kernel, by decide +kernel⟩
abbrev s__law_cell_at : Stmt := top 28
theorem S__law_cell_at : FnScope ["script", "k"] ["script", "k"] (defScope s__law_cell_at) := ⟨rfl, rfl, rfl, by decide +kernel, rfl, by decide +kernel, by decide +kernel⟩
abbrev s__law_prime : Stmt := top 29
theorem S__law_prime : FnScope ["cell", "primes"] ["cell"] (defScope s__law_prime) := ⟨rfl, rfl, rfl, by decide +kernel, rfl, by decide +kernel, by decide +kernel⟩
abbrev s__law_power : Stmt := top 30
theorem S__law_power : FnScope ["p", "e", "found", "k"] ["p", "e"] (defScope s__law_power) := ⟨rfl, rfl, rfl, by decide +kernel, rfl, by decide +kernel, by decide +kernel⟩
abbrev s__law_times : Stmt := top 31
theorem S__law_times : FnScope ["f", "g", "found", "k", "j"] ["f", "g"] (defScope s__law_times) := ⟨rfl, rfl, rfl, by decide +kernel, rfl, by decide +kernel, by decide +kernel⟩
abbrev s__law_number : Stmt := top 32
theorem S__law_number : FnScope ["cell", "p", "number"] ["cell", "p"] (defScope s__law_number) := ⟨rfl, rfl, rfl, by decide +kernel, rfl, by decide +kernel, by decide +kernel⟩
abbrev s__law_square : Stmt := top 33
theorem S__law_square : FnScope ["script", "p", "cell", "t", "r", "s"] ["script", "p"] (defScope s__law_square) := ⟨rfl, rfl, rfl, by decide +kernel, rfl, by decide +kernel, by decide +kernel⟩
abbrev s__law_polynomial : Stmt := top 34
theorem S__law_polynomial : FnScope ["script", "p", "f", "cell", "t", "other", "s"] ["script", "p"] (defScope s__law_polynomial) := ⟨rfl, rfl, rfl, by decide +kernel, rfl, by decide +kernel, by decide +kernel⟩
abbrev s__law_worth : Stmt := top 35
theorem S__law_worth : FnScope ["f", "x", "total", "number"] ["f", "x"] (defScope s__law_worth) := ⟨rfl, rfl, rfl, by decide +kernel, rfl, by decide +kernel, by decide +kernel⟩
abbrev s__law_told : Stmt := top 36
theorem S__law_told : FnScope ["p", "f", "N", "some", "way"] ["p", "f", "N"] (defScope s__law_told) := ⟨rfl, rfl, rfl, by decide +kernel, rfl, by decide +kernel, by decide +kernel⟩
abbrev s__law_right : Stmt := top 37
theorem S__law_right : FnScope ["p", "f", "N", "found", "most", "power", "number"] ["p", "f", "N", "found"] (defScope s__law_right) := ⟨rfl, rfl, rfl, by decide +kernel, rfl, by decide +kernel, by decide +kernel⟩
abbrev s_law : Stmt := top 38
theorem S_law : FnScope ["script", "p", "f", "handed", "deep", "N", "way", "found", "again", "others", "t", "s", "small", "x", "d", "near"] ["script"] (defScope s_law) := ⟨rfl, rfl, rfl, by decide +kernel, rfl, by decide +kernel, by decide +kernel⟩
structure Bi (mg : Str → Option Value) (K : PySem.W.Frag) : Prop where
  b_all : mg "all" = none
  b_bool : mg "bool" = none
  b_enumerate : mg "enumerate" = none
  b_int : mg "int" = none
  b_isinstance : mg "isinstance" = none
  b_len : mg "len" = none
  b_list : mg "list" = none
  b_max : mg "max" = none
  b_min : mg "min" = none
  b_range : mg "range" = none
  b_reversed : mg "reversed" = none
  b_sorted : mg "sorted" = none
  g_GREATEST_DEPTH : ∃ t, mg "GREATEST_DEPTH" = some (.int 60 t)
  c_NoDepth : mg "NoDepth" = some (.ref (clK K "NoDepth"))
  c_NoInverse : mg "NoInverse" = some (.ref (clK K "NoInverse"))
  c_NoSingle : mg "NoSingle" = some (.ref (clK K "NoSingle"))
  c_TooDeep : mg "TooDeep" = some (.ref (clK K "TooDeep"))
  x_NoDepth : ExcK K (clK K "NoDepth")
  x_NoSingle : ExcK K (clK K "NoSingle")
  x_TooDeep : ExcK K (clK K "TooDeep")
  m_TooDeep_TooDeep : PySem.W.exmOne K (.ref (clK K "TooDeep")) (.ref (clK K "TooDeep")) = some true
  m_NoDepth_TooDeep : PySem.W.exmOne K (.ref (clK K "NoDepth")) (.ref (clK K "TooDeep")) = some false
  m_NoDepth_NoDepth : PySem.W.exmOne K (.ref (clK K "NoDepth")) (.ref (clK K "NoDepth")) = some true
variable {P : Program} {w : World} {K : PySem.W.Frag} {mg : Str → Option Value} {base : Heap} {f : Addr} {fd : FuncData}
theorem log_small {p : Int} (h : 2 ≤ p ∧ p < 1000) : CDivW 0 p := ⟨by omega, by
  have h1 : p.natAbs < 1000 := by omega
  have h2 : p.natAbs.log2 < 10 := (Nat.log2_lt (by omega)).mpr (Nat.lt_trans h1 (by decide))
  omega⟩
theorem atI_ints {ns : List Int} {i : Int} (h0 : 0 ≤ i) (h1 : i < (ns.length : Int)) : atI (ns.map V.int) i = some (.int (ns.getD i.toNat 0)) := by
  have hk : i.toNat < ns.length := by omega
  have ek : i = ((i.toNat : Nat) : Int) := by omega
  have g : atI (ns.map V.int) ((i.toNat : Nat) : Int) = some (.int (ns.getD i.toNat 0)) := atI_nat (by rw [List.getElem?_map, List.getElem?_eq_getElem hk, List.getD_eq_getElem?_getD, List.getElem?_eq_getElem hk]; rfl)
  rw [← ek] at g
  exact g
theorem getD_in {ns : List Int} {i : Int} (h0 : 0 ≤ i) (h1 : i < (ns.length : Int)) : ns.getD i.toNat 0 ∈ ns := by
  rw [List.getD_eq_getElem?_getD, List.getElem?_eq_getElem (by omega)]
  exact List.getElem_mem _
theorem mod_in (x : Int) {m : Int} (h : 0 < m) : 0 ≤ x % m ∧ x % m < m := ⟨Int.emod_nonneg x (by omega), Int.emod_lt_of_pos x h⟩
def Sh (n : Int) : Prop := Builtin.Int.intBits n ≤ 2 ^ 20 + 64
theorem sh_div {n m : Int} (h : Sh n) (hm : 0 < m) : Sh (n / m) := by
  unfold Sh at *
  have : n / m = n.fdiv m := (Int.fdiv_eq_ediv_of_nonneg n (by omega)).symm
  rw [this]
  exact PyProof.Rows.bits_fdiv h
theorem pow_bits {p : Int} (hp : 2 ≤ p ∧ p < 1000) (n : Nat) : (p ^ n).natAbs < 2 ^ (10 * n + 1) := by
  have h1 : p ^ n ≤ 1024 ^ n := int_pow_le (by omega) (by omega) _
  have h2 : (1024 : Int) ^ n = ((2 ^ (10 * n) : Nat) : Int) := by
    rw [Nat.pow_mul]
    simp
  have h3 := Dr.pow_pos hp.1 n
  rw [Nat.pow_succ]
  omega
theorem add_bits {p r : Int} (hp : 2 ≤ p ∧ p < 1000) (n : Nat) (h0 : 0 ≤ r) (h1 : r < p ^ n) : Builtin.Int.intBits (r + p ^ n) ≤ 10 * n + 2 := PyProof.Rows.intBits_le (by
  have := pow_bits hp n
  rw [show 10 * n + 2 = (10 * n + 1) + 1 from rfl, Nat.pow_succ]
  omega)
theorem eqv_ball (r e : Int) : (if false = true then !PyData.eqv (.tuple [.int r, .int e]) (.tuple [.int r, .int e]) else PyData.eqv (.tuple [.int r, .int e]) (.tuple [.int r, .int e])) = true := by
  simp [PyData.eqv, PyData.eqvAll]
theorem atI_last (x : Int) (ms : List Int) : ∃ y, y ∈ x :: ms ∧ atI ((x :: ms).map V.int) (-1) = some (.int y) := by
  have h : ms.length < (x :: ms).length := by simp
  refine ⟨(x :: ms)[ms.length], List.getElem_mem h, ?_⟩
  unfold atI ixN
  have e1 : ¬ (0 : Int) ≤ -1 := by decide
  have e2 : -(((x :: ms).map V.int).length : Int) ≤ -1 := by
    simp only [List.length_map, List.length_cons]
    omega
  have e3 : (-1 + (((x :: ms).map V.int).length : Int)).toNat = ms.length := by
    simp only [List.length_map, List.length_cons]
    omega
  rw [if_neg e1, if_pos e2, e3]
  show ((x :: ms).map V.int)[ms.length]? = _
  rw [List.getElem?_map, List.getElem?_eq_getElem h]
  rfl
theorem mulSm {a b : Int} {m n : Nat} (ha : Dr.Sm a m) (hb : Dr.Sm b n) (h : m + n ≤ 134217728) : IntMulOk a b := PyProof.Rows.mulOk_of_bits (PyProof.Rows.intBits_le ha) (PyProof.Rows.intBits_le hb) h
theorem smSh {a : Int} (h : Sh a) : Dr.Sm a (2 ^ 20 + 64) := PySem.intBits_le_iff.mp h
theorem sm_of {a : Int} {k : Nat} (B : Int) (h : -B ≤ a ∧ a ≤ B) (hB : B.natAbs < 2 ^ k) : Dr.Sm a k := by
  unfold Dr.Sm
  omega
theorem rep_zero (n : Nat) : (List.replicate n [V.int 0]).flatten = (List.replicate n (0 : Int)).map V.int := by
  induction n with
  | zero => rfl
  | succ n ih => simp [List.replicate_succ, ih]
theorem ixN_nn {n : Nat} {k : Int} (h0 : 0 ≤ k) (h1 : k < (n : Int)) : ixN n k = some k.toNat := by
  unfold ixN
  simp only [h0, if_true, if_pos]
  rw [if_pos (by omega)]
theorem get_int {fs : List Int} {k : Int} (h0 : 0 ≤ k) (h1 : k < (fs.length : Int)) : ∃ v, fs[k.toNat]? = some v ∧ atI (fs.map V.int) k = some (.int v) ∧ ixN (fs.map V.int).length k = some k.toNat ∧ (fs.map V.int)[k.toNat]? = some (.int v) := by
  have hk : k.toNat < fs.length := by omega
  have e : fs[k.toNat]? = some fs[k.toNat] := List.getElem?_eq_getElem hk
  refine ⟨fs[k.toNat], e, ?_, ixN_nn h0 (by rw [List.length_map]; exact h1), by rw [List.getElem?_map, e]; rfl⟩
  rw [atI_ints h0 h1, List.getD_eq_getElem?_getD, e]
  rfl
theorem set_int (fs : List Int) (k : Nat) (v : Int) : (fs.map V.int).set k (.int v) = (fs.set k v).map V.int := by rw [List.map_set]
theorem mem_set {fs : List Int} {k : Nat} {v c : Int} (h : c ∈ fs.set k v) : c ∈ fs ∨ c = v := List.mem_or_eq_of_mem_set h
theorem nabs {n : Int} (h : -(10 ^ 60) ≤ n ∧ n ≤ 10 ^ 60) : n.natAbs ≤ 10 ^ 60 := by
  have e : ((10 ^ 60 : Nat) : Int) = 10 ^ 60 := by decide +kernel
  rw [← e] at h
  generalize (10 ^ 60 : Nat) = T at *
  omega
theorem steps {i T : Nat} {v n : Int} (h : v.natAbs ≤ i * T) (h' : n.natAbs ≤ T) : (v + n).natAbs ≤ (i + 1) * T := by
  rw [Nat.succ_mul]
  omega
theorem atI_back {xs : List Int} {d : Int} (h : xs.getLast? = some d) : atI (xs.map V.int) (-1) = some (.int d) := by
  cases xs with
  | nil => simp at h
  | cons x ms =>
    have hh : ms.length < (x :: ms).length := by simp
    have e : (x :: ms)[ms.length]? = some d := by
      rw [List.getLast?_eq_getElem?] at h
      simpa using h
    unfold atI ixN
    have e1 : ¬ (0 : Int) ≤ -1 := by decide
    have e2 : -(((x :: ms).map V.int).length : Int) ≤ -1 := by
      simp only [List.length_map, List.length_cons]
      omega
    have e3 : (-1 + (((x :: ms).map V.int).length : Int)).toNat = ms.length := by
      simp only [List.length_map, List.length_cons]
      omega
    rw [if_neg e1, if_pos e2, e3]
    show ((x :: ms).map V.int)[ms.length]? = _
    rw [List.getElem?_map, e]
    rfl
theorem last_snoc (x : Int) (ms : List Int) (v : Int) : (x :: (ms ++ [v])).getLast? = some v := by
  rw [← List.cons_append, List.getLast?_append]
  simp
def sp_worth_at (K : PySem.W.Frag) : Sp := fun vs H Q _ => ∃ (a : Addr) (f : List Int) (x : Int) (m n : Nat), vs = [.ref a, .int x] ∧ SqL K H a (f.map V.int) ∧ f.length ≤ 100 ∧ Dr.PolyB f m ∧ Dr.Sm x n ∧ (m ≤ 1000000 ∧ n ≤ 100000) ∧ Q (.int (Dr.pev f x)) H
local macro_rules | `(tactic| walk_at "dr1") => `(tactic| simp only [tSeq, tNext, tRet, tRetN, tDrop, tIfS, tIf, tTest, tB, tAnd, tOr, tNot, tAndV, tOrV, tNotV, tAsg, gName, gTup, gLst, gCons, gNil, tPar, tAug, tVar, tC, tOp, tUn, rI, rI0, rU, rEq, rNe, rAdd, rSub, ipI, tCons, tNil, tTup, tLst, tCall, tCB, tSl, tNoPart, tPart, gSub, tAugS, rGetL, iEnum, tSlK, tListRng, rExtend, rClear, rSlL, rSlT, rIxL, rIxT, rSetL, rIn, tBM, tBM0, rAppend, rCat, rRep, tNever, tRaise, tTry, tTry2, tTryAs, Ends.gone, tCallX, cx_K, cc_K, w_tyl, Int.reduceLT, Int.reduceLE, Nat.reduceLT, Nat.reduceLeDiff, tChain, w_for, w_comp, capV, Option.getD_some, iRng1, iRng2, iRng3, iList, iTup, iRev, tListRev, L2.start, sc_ii, sc_bb, sc_in, sc_ni, sc_ss, sc_nn, sc_bn, sc_is, isv_int_int, isv_int_bool, isv_int_str, isv_int_list, isv_int_tuple, isv_int_dict, isv_bool_int, isv_bool_bool, isv_bool_str, isv_bool_list, isv_bool_tuple, isv_bool_dict, isv_NoneType_int, isv_NoneType_bool, isv_NoneType_str, isv_NoneType_list, isv_NoneType_tuple, isv_NoneType_dict, isv_str_int, isv_str_bool, isv_str_str, isv_str_list, isv_str_tuple, isv_str_dict, iso_list_int, iso_list_bool, iso_list_str, iso_list_list, iso_list_tuple, iso_list_dict, iso_tuple_int, iso_tuple_bool, iso_tuple_str, iso_tuple_list, iso_tuple_tuple, iso_tuple_dict, iso_dict_int, iso_dict_bool, iso_dict_str, iso_dict_list, iso_dict_tuple, iso_dict_dict, isCls, clsV, List.getElem?_cons_zero, List.getElem?_cons_succ, List.set_cons_zero, List.set_cons_succ, List.map_cons, List.map_nil, List.cons_append, List.nil_append, List.append_nil, List.replicate_succ, List.replicate_zero, List.length_cons, List.length_nil, Option.some.injEq, exists_eq, exists_eq', exists_eq_left, exists_eq_left', exists_and_left, exists_and_right, List.cons.injEq, V.int.injEq, V.bl.injEq, V.ref.injEq, V.str.injEq, V.ty.injEq, reduceCtorEq, and_true, true_and, and_assoc, false_and, and_false, or_false, false_or, exists_false, decide_eq_true_eq, Bool.not_eq_true', decide_eq_false_iff_not, Bool.not_eq_false', Bool.not_eq_true, Bool.false_eq_true, Bool.true_eq_false, ite_true, ite_false, if_true, if_false, Bool.not_true, Bool.not_false, Bool.true_eq, Bool.or_true, Bool.or_false, Bool.true_or, Bool.false_or, Bool.and_true, Bool.and_false, beq_self_eq_true, decide_true, decide_false, eq_self_iff_true, not_true_eq_false, not_false_eq_true])
theorem ok_worth_at (B : Bi mg K) (F : Fun K "worth_at" "worth_at" s_worth_at f fd) : FnOk P w K mg base CX0 1 f fd ["f", "x"] (sp_worth_at K) := by
  refine F.ok S_worth_at (fun vs H Q E h => ?_) (fun cdv A outer s H vs Q E hr h => ?_)
  · obtain ⟨a, f, x, m, n, rfl, _⟩ := h
    rfl
  obtain ⟨a, f, x, m, n, rfl, hS, hl, hf, hx, hmn, q⟩ := h
  have S := S_worth_at
  refine ⟨_, ((pss_cons (ps_set (i := 2) S.nd rfl (Or.inl rfl) pe_int)
    (pss_cons (ps_for PassesOwn.never rfl (pi_rev rfl B.b_reversed (pv 0)) (pg_name (i := 3) S.nd rfl (Or.inl rfl)) (pss_one (ps_set (i := 2) S.nd rfl (Or.inl rfl) (pe_op op_add (pe_op op_mulW (pv 2) (pv 1)) (pv 3)))))
    (pss_one (ps_ret (pv 2)))))), ?_⟩
  try walk_at "dr1"
  refine ⟨_, hS, ?_⟩
  obtain ⟨Pv, hPv⟩ : ∃ Pv : Nat → St → Hp → Prop, ∀ i σ H2, Pv i σ H2 ↔ (H2 = H ∧ ∃ t, σ = [some (.ref a), some (.int x), some (.int (Dr.pev (f.drop (f.length - i)) x)), t]) := ⟨_, fun _ _ _ => Iff.rfl⟩
  refine forV f Pv (by rw [List.length_map]) ((hPv _ _ _).mpr ⟨rfl, none, by simp [Dr.pev]⟩) (fun i σ H2 z => by obtain ⟨rfl, _⟩ := (hPv _ _ _).mp z; exact hS) ?_ ?_
  · intro i c σ H2 hc z
    obtain ⟨rfl, t, rfl⟩ := (hPv _ _ _).mp z
    try walk_at "dr1"
    have b := (hx.pev (hf.drop (f.length - i))).mono (l := 1000000 + 100 * 100001) (by
      have h1 : (f.drop (f.length - i)).length ≤ 100 := by rw [List.length_drop]; omega
      have h2 : (f.drop (f.length - i)).length * (n + 1) ≤ 100 * 100001 := Nat.mul_le_mul h1 (by omega)
      omega)
    refine ⟨mulSm b hx (by omega), (hPv _ _ _).mpr ⟨rfl, some (.int c), ?_⟩⟩
    rw [Dr.pev_rev hc]
  · intro σ H2 z
    obtain ⟨rfl, t, rfl⟩ := (hPv _ _ _).mp z
    try walk_at "dr1"
    rw [Nat.sub_self, List.drop_zero]
    exact q
def sp_power_of (_ : PySem.W.Frag) : Sp := fun vs H Q _ => ∃ (p e : Int), vs = [.int p, .int e] ∧ (2 ≤ p ∧ p < 1000) ∧ (0 ≤ e ∧ e < 100000) ∧ Q (.int (p ^ e.toNat)) H
theorem ok_power_of (B : Bi mg K) (F : Fun K "power_of" "power_of" s_power_of f fd) : FnOk P w K mg base CX0 1 f fd ["p", "e"] (sp_power_of K) := by
  refine F.ok S_power_of (fun vs H Q E h => ?_) (fun cdv A outer s H vs Q E hr h => ?_)
  · obtain ⟨p, e, rfl, _⟩ := h
    rfl
  obtain ⟨p, e, rfl, hp, he, q⟩ := h
  have S := S_power_of
  refine ⟨_, ((pss_cons (ps_set (i := 2) S.nd rfl (Or.inl rfl) pe_int)
    (pss_cons (ps_for PassesOwn.never rfl (pi_range1 rfl B.b_range (pa_cons (pv 1) pa_nil)) (pg_name (i := 3) S.nd rfl (Or.inl rfl)) (pss_one (ps_set (i := 2) S.nd rfl (Or.inl rfl) (pe_op op_mulW (pv 2) (pv 0)))))
    (pss_one (ps_ret (pv 2)))))), ?_⟩
  refine ⟨_, rfl, e, rfl, by omega, by omega, ?_⟩
  refine for_range (n := e.toNat) (fun i σ H' => H' = H ∧ ∃ t, σ = [some (.int p), some (.int e), some (.int (p ^ i)), t]) ⟨rfl, none, by rw [Int.pow_zero]; rfl⟩ ?_ ?_
  · rintro i σ H' hi ⟨rfl, t, rfl⟩
    refine ⟨_, rfl, _, rfl, _, _, rfl, rfl, IntMulOk.of_right (intBits_le_64 (by omega) (by omega)), rfl, some (.int (0 + (i : Int))), ?_⟩
    rw [Int.pow_succ]
    rfl
  · rintro σ H' ⟨rfl, t, rfl⟩
    exact ⟨_, rfl, q⟩
def sp_depth_of (_ : PySem.W.Frag) : Sp := fun vs H Q _ => ∃ (p x : Int), vs = [.int p, .int x] ∧ (2 ≤ p ∧ p < 1000) ∧ x ≠ 0 ∧ ∀ (d : Nat) (u : Int), Dr.Fac p x d u → Q (.int (d : Int)) H
def W_depth_of (p x : Int) (H : Hp) (m : Nat) (σ : St) (H' : Hp) : Prop := H' = H ∧ ∃ (l : Int) (d : Nat), σ = [some (.int p), some (.int x), some (.int (d : Int)), some (.int l)] ∧ x = l * p ^ d ∧ l ≠ 0 ∧ m = l.natAbs
theorem turn_depth {p x l : Int} {d : Nat} (hp : 2 ≤ p) (e : x = l * p ^ d) (l0 : l ≠ 0) (c : l % p = 0) : x = l / p * p ^ (d + 1) ∧ l / p ≠ 0 ∧ (l / p).natAbs < l.natAbs := by
  have e1 : l = p * (l / p) := by have := Int.mul_ediv_add_emod l p; omega
  have n0 : l / p ≠ 0 := fun z => by rw [z] at e1; simp at e1; exact l0 e1
  refine ⟨?_, n0, ?_⟩
  · rw [Int.pow_succ, e]
    calc l * p ^ d = p * (l / p) * p ^ d := by rw [← e1]
      _ = l / p * (p ^ d * p) := by rw [Int.mul_comm p, Int.mul_assoc, Int.mul_comm p]
  · have e2 : l.natAbs = p.natAbs * (l / p).natAbs := by rw [← Int.natAbs_mul, ← e1]
    have l1 : 2 * (l / p).natAbs ≤ p.natAbs * (l / p).natAbs := Nat.mul_le_mul_right _ (by omega)
    omega
theorem ok_depth_of (B : Bi mg K) (F : Fun K "depth_of" "depth_of" s_depth_of f fd) : FnOk P w K mg base CX0 1 f fd ["p", "x"] (sp_depth_of K) := by
  refine F.ok S_depth_of (fun vs H Q E h => ?_) (fun cdv A outer s H vs Q E hr h => ?_)
  · obtain ⟨p, x, rfl, _⟩ := h
    rfl
  obtain ⟨p, x, rfl, hp, hx, q⟩ := h
  have S := S_depth_of
  refine ⟨_, ((pss_cons (ps_if (pt_cmpR op_eq (pv 1) pe_int (nomark _)) (pss_one ps_never) pss_nil)
    (pss_cons (ps_set (i := 2) S.nd rfl (Or.inl rfl) pe_int)
    (pss_cons (ps_set (i := 3) S.nd rfl (Or.inl rfl) (pv 1))
    (pss_cons (ps_while PassesOwn.never (pt_cmpR op_eq (pe_op op_mod (pv 3) (pv 0)) pe_int (nomark _)) (pss_cons (ps_set (i := 3) S.nd rfl (Or.inl rfl) (pe_op op_fdivW (pv 3) (pv 0)))
    (pss_one (ps_aug (i := 2) S.nd rfl (Or.inl rfl) pe_int ip_add))))
    (pss_one (ps_ret (pv 2)))))))), ?_⟩
  refine ⟨_, rfl, rfl, _, rfl, ?_⟩
  refine ite2 (fun c => absurd (V.int.inj (of_decide_eq_true c)) hx) (fun _ => ?_)
  refine ⟨_, rfl, ?_⟩
  refine ⟨W_depth_of p x H, ⟨_, rfl, x, 0, rfl, by simp, hx, rfl⟩, ?_⟩
  rintro m σ H' ⟨rfl, l, d, rfl, e, l0, rfl⟩
  refine ⟨_, rfl, _, rfl, _, _, rfl, rfl, (show (0 : Int) < p by omega), rfl, _, rfl, ?_⟩
  refine ite2 (fun c => ?_) (fun c => ?_)
  · have c' : l % p = 0 := V.int.inj (of_decide_eq_true c)
    obtain ⟨t1, t2, t3⟩ := turn_depth hp.1 e l0 c'
    refine ⟨fun σ' H2 => ∃ m', m' < l.natAbs ∧ W_depth_of p x H' m' σ' H2, fun _ _ h => h, ?_⟩
    refine ⟨_, rfl, _, rfl, _, _, rfl, rfl, log_small hp, ?_⟩
    exact ⟨_, rfl, _, _, rfl, rfl, _, t3, rfl, l / p, d + 1, rfl, t1, t2, rfl⟩
  · have c' : l % p ≠ 0 := fun z => c (decide_eq_true (congrArg V.int z))
    exact ⟨_, rfl, q d l ⟨e, c'⟩⟩
def sp_inverse_by_prime (_ : PySem.W.Frag) : Sp := fun vs H Q _ => ∃ (p x : Int), vs = [.int p, .int x] ∧ p ∈ Dr.primes ∧ x % p ≠ 0 ∧ ∀ (y : Int) (H' : Hp), 1 ≤ y ∧ y < p → x * y % p = 1 → Same H H' → Q (.int y) H'
theorem ok_inverse_by_prime (B : Bi mg K) (F : Fun K "inverse_by_prime" "inverse_by_prime" s_inverse_by_prime f fd) : FnOk P w K mg base CX0 1 f fd ["p", "x"] (sp_inverse_by_prime K) := by
  refine F.ok S_inverse_by_prime (fun vs H Q E h => ?_) (fun cdv A outer s H vs Q E hr h => ?_)
  · obtain ⟨p, x, rfl, _⟩ := h
    rfl
  obtain ⟨p, x, rfl, hp, hx, q⟩ := h
  have S := S_inverse_by_prime
  have p2 := Dr.primes_ge hp
  have hpp : 2 ≤ p ∧ p < 1000 := by omega
  refine ⟨_, ((pss_cons (ps_comp [0, 1] ["p", "x"] rfl S.nd (k := 2) rfl rfl rfl rfl ⟨rfl, rfl, trivial⟩ ⟨rfl, rfl, rfl, rfl, rfl, rfl, rfl, rfl, trivial⟩ rfl rfl (by decide) (by decide) rfl rfl (by decide) (pi_range2 rfl B.b_range (pa_cons pe_int (pa_cons (pv 0) pa_nil))) (fun _ _ _ _ => (pts_one (pt_cmpR op_eq (pe_op op_mod (pe_op op_mulW (pv 2) (pv 0)) (pv 1)) pe_int (nomark _)))) (fun _ _ _ _ => (pv 0)))
    (pss_one (ps_ret (pe_ix ix_list (pv 2) pe_int (fun _ _ => rfl)))))), ?_⟩
  try walk_at "dr1"
  repeat (refine And.intro (by first | omega | exact ⟨by decide, by decide⟩ | decide | assumption | exact log_small (by assumption) | exact Dr.pow_pos (by omega) _ | exact IntMulOk.of_left (by decide) | exact cell_sh (by assumption) (by omega) | exact sh_div (by assumption) (by decide) | exact sh_div (cell_sh (by assumption) (by omega)) (by decide)) ?_)
  obtain ⟨Pv, hPv⟩ : ∃ Pv : Nat → List V → Hp → Prop, ∀ i ys H', Pv i ys H' ↔ (H' = H ∧ ∃ zs : List Int, ys = zs.map V.int ∧ (∀ z, z ∈ zs → (1 ≤ z ∧ z < p) ∧ x * z % p = 1) ∧ (∀ y : Int, 1 ≤ y → y < 1 + i → x * y % p = 1 → zs ≠ [])) := ⟨_, fun _ _ _ => Iff.rfl⟩
  refine compR Pv (by unfold sizeLine; omega) ((hPv _ _ _).mpr ⟨rfl, [], rfl, by simp, fun y h1 h2 => by omega⟩) ?_ ?_
  · intro i ys H' hi zz
    obtain ⟨rfl, zs, rfl, h1, h2⟩ := (hPv _ _ _).mp zz
    try walk_at "dr1"
    refine ⟨IntMulOk.of_right (intBits_le_64 (by omega) (by omega)), by omega, ite2 (fun c => ?_) (fun c => ?_)⟩
    · refine (hPv _ _ _).mpr ⟨rfl, zs ++ [1 + (i : Int)], by simp, fun z hz => ?_, fun y _ _ _ => by simp⟩
      rcases List.mem_append.mp hz with w | w
      · exact h1 z w
      · rw [List.mem_singleton.mp w]
        exact ⟨by omega, c⟩
    · refine (hPv _ _ _).mpr ⟨rfl, zs, rfl, h1, fun y y1 y2 y3 => ?_⟩
      by_cases w : y = 1 + (i : Int)
      · rw [w] at y3
        exact absurd y3 c
      · exact h2 y y1 (by omega) y3
  · intro ys H' zz
    obtain ⟨rfl, zs, rfl, h1, h2⟩ := (hPv _ _ _).mp zz
    intro l n_l; generalize e_l : upd _ l _ = H1; obtain ⟨g1, k1⟩ := newH e_l n_l; clear e_l
    obtain ⟨y, y1, y2, y3⟩ := Dr.inv_ex hp hx
    have hne := h2 y y1 (by omega) y3
    cases zs with
    | nil => exact absurd rfl hne
    | cons z zs =>
      try walk_at "dr1"
      refine ⟨_, SqL.of k1, _, atI_nat (j := 0) rfl, ?_⟩
      obtain ⟨a1, a2⟩ := h1 z (List.mem_cons_self ..)
      exact q z H1 a1 a2 g1
theorem bits_of_lt {x : Int} {n : Nat} (h0 : 0 ≤ x) (h : x < 2 ^ n) : Builtin.Int.intBits x ≤ n := PyProof.Rows.intBits_le (by
  have h2 : ((2 ^ n : Nat) : Int) = (2 : Int) ^ n := by simp
  omega)
theorem bits_below {p : Int} (hp : 2 ≤ p ∧ p < 1000) {x : Int} (n : Nat) (h0 : 0 ≤ x) (h : x < p ^ n) : Builtin.Int.intBits x ≤ 10 * n + 1 := PyProof.Rows.intBits_le (by
  have := pow_bits hp n
  have := Dr.pow_pos hp.1 n
  omega)
def sp_inverse_of (_ : PySem.W.Frag) : Sp := fun vs H Q _ => ∃ (p e x : Int), vs = [.int p, .int e, .int x] ∧ p ∈ Dr.primes ∧ (0 ≤ e ∧ e < 1000) ∧ Builtin.Int.intBits x ≤ 2 ^ 22 ∧ (e = 0 ∨ x % p ≠ 0) ∧ ∀ (y : Int) (H' : Hp), Dr.InvE p x y e.toNat → Same H H' → Q (.int y) H'
theorem ok_inverse_of (B : Bi mg K) (d_power_of : Def P w K mg base "power_of" 1 ["p", "e"] (sp_power_of K)) (d_inverse_by_prime : Def P w K mg base "inverse_by_prime" 1 ["p", "x"] (sp_inverse_by_prime K)) (F : Fun K "inverse_of" "inverse_of" s_inverse_of f fd) : FnOk P w K mg base CX0 2 f fd ["p", "e", "x"] (sp_inverse_of K) := by
  refine F.ok S_inverse_of (fun vs H Q E h => ?_) (fun cdv A outer s H vs Q E hr h => ?_)
  · obtain ⟨p, e, x, rfl, _⟩ := h
    rfl
  obtain ⟨p, e, x, rfl, hp, he, hb, hx, q⟩ := h
  have S := S_inverse_of
  have p2 := Dr.primes_ge hp
  have hpp : 2 ≤ p ∧ p < 1000 := by omega
  refine ⟨_, ((pss_cons (ps_if (pt_cmpR op_eq (pv 1) pe_int (nomark _)) (pss_one (ps_ret pe_int)) pss_nil)
    (pss_cons (ps_if (pt_cmpR op_eq (pe_op op_mod (pv 2) (pv 0)) pe_int (nomark _)) (pss_one ps_never) pss_nil)
    (pss_cons (ps_set (i := 3) S.nd rfl (Or.inl rfl) (pe_def d_power_of hr rfl (pa_cons (pv 0) (pa_cons (pv 1) pa_nil))))
    (pss_cons (ps_set (i := 4) S.nd rfl (Or.inl rfl) (pe_def d_inverse_by_prime hr rfl (pa_cons (pv 0) (pa_cons (pv 2) pa_nil))))
    (pss_cons (ps_set (i := 5) S.nd rfl (Or.inl rfl) pe_int)
    (pss_cons (ps_while PassesOwn.never (pt_cmpR op_lt (pv 5) (pv 1) (nomark _)) (pss_cons (ps_set (i := 4) S.nd rfl (Or.inl rfl) (pe_op op_mod (pe_op op_mulW (pv 4) (pe_op op_sub pe_int (pe_op op_mulW (pv 2) (pv 4)))) (pv 3)))
    (pss_one (ps_set (i := 5) S.nd rfl (Or.inl rfl) (pe_op op_mulW (pv 5) pe_int)))))
    (pss_one (ps_ret (pv 4)))))))))), ?_⟩
  try walk_at "dr1"; (try simp only [sp_power_of, sp_inverse_by_prime]); try walk_at "dr1"
  refine ite2 (fun c => ?_) (fun c => ?_)
  · refine q 0 H ?_ (Same.refl H)
    rw [c]
    exact Dr.InvE.zero p x
  have hx' : x % p ≠ 0 := by
    rcases hx with z | z
    · exact absurd z c
    · exact z
  refine ⟨by omega, ite2 (fun d => absurd d hx') (fun d => ?_)⟩
  repeat (refine And.intro (by first | omega | exact ⟨by decide, by decide⟩ | decide | assumption | exact log_small (by assumption) | exact Dr.pow_pos (by omega) _ | exact IntMulOk.of_left (by decide) | exact cell_sh (by assumption) (by omega) | exact sh_div (by assumption) (by decide) | exact sh_div (cell_sh (by assumption) (by omega)) (by decide)) ?_)
  intro y H1 y1 y2 g1
  have e1 : 1 ≤ e.toNat := by omega
  have hpe : p ≤ p ^ e.toNat := by
    have : p ^ 1 ≤ p ^ e.toNat := by
      obtain ⟨k, hk⟩ : ∃ k, e.toNat = 1 + k := ⟨e.toNat - 1, by omega⟩
      rw [hk, Dr.pow_add']
      have := Dr.pow_pos hpp.1 k
      have h2 : 0 < p ^ 1 := Dr.pow_pos hpp.1 1
      have := Int.mul_le_mul_of_nonneg_left (show 1 ≤ p ^ k by omega) (show 0 ≤ p ^ 1 by omega)
      omega
    rwa [Int.pow_succ, Int.pow_zero, Int.one_mul] at this
  obtain ⟨W, hW⟩ : ∃ W : Nat → St → Hp → Prop, ∀ m σ H2, W m σ H2 ↔ (H2 = H1 ∧ ∃ (y : Int) (r : Nat), σ = [some (.int p), some (.int e), some (.int x), some (.int (p ^ e.toNat)), some (.int y), some (.int (r : Int))] ∧ 1 ≤ r ∧ 0 ≤ y ∧ y < p ^ e.toNat ∧ (x * y - 1) % p ^ (min r e.toNat) = 0 ∧ m = e.toNat - r) := ⟨_, fun _ _ _ => Iff.rfl⟩
  refine whB W (e.toNat - 1) ((hW _ _ _).mpr ⟨rfl, y, 1, rfl, by omega, by omega, by omega, ?_, rfl⟩) ?_
  · rw [Nat.min_eq_left e1, Int.pow_succ, Int.pow_zero, Int.one_mul]
    rw [Int.sub_emod, y2]
    simp
  · intro m σ H2 z
    obtain ⟨rfl, y, r, rfl, r1, z1, z2, z3, rfl⟩ := (hW _ _ _).mp z
    try walk_at "dr1"; (try simp only [sp_power_of, sp_inverse_by_prime]); try walk_at "dr1"
    refine ite2 (fun c => ?_) (fun c => ?_)
    · refine ⟨_, fun _ _ h => h, ?_⟩
      have by' : Builtin.Int.intBits y ≤ 10 * e.toNat + 1 := bits_below hpp _ z1 z2
      have b1 : IntMulOk x y := PyProof.Rows.mulOk_of_bits hb by' (by omega)
      have b2 : Builtin.Int.intBits (x * y) ≤ 2 ^ 22 + (10 * e.toNat + 1) := PySem.intBits_mul_le hb by'
      have b3 : Builtin.Int.intBits (2 - x * y) ≤ 2 ^ 22 + (10 * e.toNat + 1) + 1 := Nat.le_trans (PySem.intBits_sub_le (m := 2 ^ 22 + (10 * e.toNat + 1)) (Nat.le_trans (show Builtin.Int.intBits 2 ≤ 64 by decide) (by omega)) b2) (by omega)
      have b4 : IntMulOk y (2 - x * y) := PyProof.Rows.mulOk_of_bits by' b3 (by omega)
      have hpos := Dr.pow_pos hpp.1 e.toNat
      refine ⟨b1, b4, hpos, IntMulOk.of_right (by decide), e.toNat - r * 2, by omega, (hW _ _ _).mpr ⟨rfl, y * (2 - x * y) % p ^ e.toNat, r * 2, by simp, by omega, Int.emod_nonneg _ (by omega), Int.emod_lt_of_pos _ hpos, Dr.inv_step z3, rfl⟩⟩
    · have hr : min r e.toNat = e.toNat := by omega
      rw [hr] at z3
      exact q y H2 ⟨z1, z2, z3⟩ g1
def sp_degree_of (K : PySem.W.Frag) : Sp := fun vs H Q _ => ∃ (a : Addr) (f : List Int), vs = [.ref a] ∧ SqL K H a (f.map V.int) ∧ ∀ (d : Int) (H' : Hp), Dr.IsDeg f d → Same H H' → Q (.int d) H'
theorem ok_degree_of (B : Bi mg K) (F : Fun K "degree_of" "degree_of" s_degree_of f fd) : FnOk P w K mg base CX0 1 f fd ["f"] (sp_degree_of K) := by
  refine F.ok S_degree_of (fun vs H Q E h => ?_) (fun cdv A outer s H vs Q E hr h => ?_)
  · obtain ⟨a, f, rfl, _⟩ := h
    rfl
  obtain ⟨a, f, rfl, hS, q⟩ := h
  have S := S_degree_of
  refine ⟨_, ((pss_cons (ps_set (i := 1) S.nd rfl (Or.inl rfl) (pe_un un_neg pe_int))
    (pss_cons (ps_for PassesOwn.never rfl (pi_enum rfl B.b_enumerate (pv 0)) (pg_tup rfl (pgs_cons (pg_name (i := 2) S.nd rfl (Or.inl rfl)) (pgs_cons (pg_name (i := 3) S.nd rfl (Or.inl rfl)) pgs_nil))) (pss_one (ps_if (pt_cmpR op_ne (pv 3) pe_int (nomark _)) (pss_one (ps_set (i := 1) S.nd rfl (Or.inl rfl) (pv 2))) pss_nil)))
    (pss_one (ps_ret (pv 1)))))), ?_⟩
  try walk_at "dr1"
  refine ⟨⟨_, hS⟩, ?_⟩
  obtain ⟨Pv, hPv⟩ : ∃ Pv : Nat → St → Hp → Prop, ∀ i σ H2, Pv i σ H2 ↔ (Same H H2 ∧ ∃ (d : Int) (t2 t3 : Option V), Dr.IsDeg (f.take i) d ∧ σ = [some (.ref a), some (.int d), t2, t3]) := ⟨_, fun _ _ _ => Iff.rfl⟩
  refine forE f Pv ((hPv _ _ _).mpr ⟨Same.refl _, -1, none, none, by simpa using Dr.IsDeg.nil, rfl⟩) (fun i σ H2 z => by obtain ⟨g, _⟩ := (hPv _ _ _).mp z; exact g.seq hS) ?_ ?_
  · intro i c σ H2 t H3 hc z g3 ht
    obtain ⟨g2, d, t2, t3, hd, rfl⟩ := (hPv _ _ _).mp z
    try walk_at "dr1"
    refine ⟨_, SqT.of ht, rfl, _, _, rfl, ?_⟩
    refine ⟨_, _, rfl, rfl, rfl, ?_⟩
    simp only [V.int.injEq]
    have g := g2.trans g3
    have hd' := hd.take_succ hc
    refine ite2 (fun c0 => ?_) (fun c0 => ?_)
    · rw [if_pos c0] at hd'
      exact (hPv _ _ _).mpr ⟨g, _, _, _, hd', rfl⟩
    · rw [if_neg c0] at hd'
      exact (hPv _ _ _).mpr ⟨g, _, _, _, hd', rfl⟩
  · intro σ H2 z
    obtain ⟨g2, d, t2, t3, hd, rfl⟩ := (hPv _ _ _).mp z
    try walk_at "dr1"
    rw [List.take_length] at hd
    exact q d H2 hd g2
def sp_poly_product (K : PySem.W.Frag) : Sp := fun vs H Q _ => ∃ (a b : Addr) (f g : List Int) (m n : Nat), vs = [.ref a, .ref b] ∧ SqL K H a (f.map V.int) ∧ SqL K H b (g.map V.int) ∧ (0 < f.length ∧ f.length ≤ 60 ∧ 0 < g.length ∧ g.length ≤ 60) ∧ Dr.PolyB f m ∧ Dr.PolyB g n ∧ (m ≤ 1000000 ∧ n ≤ 1000000) ∧
  ∀ (c : Addr) (r : List Int) (H' : Hp), Dr.IsProd f g r → Dr.PolyB r (m + n + 12) → H c = none → Same H H' → H' c = some (.lst (r.map V.int)) → Q (.ref c) H'
theorem ok_poly_product (B : Bi mg K) (F : Fun K "poly_product" "poly_product" s_poly_product f fd) : FnOk P w K mg base CX0 1 f fd ["f", "g"] (sp_poly_product K) := by
  refine F.ok S_poly_product (fun vs H Q E h => ?_) (fun cdv A outer s H vs Q E hr h => ?_)
  · obtain ⟨a, b, f, g, m, n, rfl, _⟩ := h
    rfl
  obtain ⟨a, b, f, g, m, n, rfl, hS, hS', hl, hf, hg, hmn, q⟩ := h
  have S := S_poly_product
  refine ⟨_, ((pss_cons (ps_set (i := 2) S.nd rfl (Or.inl rfl) (pe_op op_rep (pe_lst (pa_cons pe_int pa_nil)) (pe_op op_sub (pe_op op_add (pe_callB call_len_seq rfl B.b_len PySem.boot_len (pa_cons (pv 0) pa_nil)) (pe_callB call_len_seq rfl B.b_len PySem.boot_len (pa_cons (pv 1) pa_nil))) pe_int)))
    (pss_cons (ps_for PassesOwn.never rfl (pi_enum rfl B.b_enumerate (pv 0)) (pg_tup rfl (pgs_cons (pg_name (i := 3) S.nd rfl (Or.inl rfl)) (pgs_cons (pg_name (i := 4) S.nd rfl (Or.inl rfl)) pgs_nil))) (pss_one (ps_for PassesOwn.never rfl (pi_enum rfl B.b_enumerate (pv 1)) (pg_tup rfl (pgs_cons (pg_name (i := 5) S.nd rfl (Or.inl rfl)) (pgs_cons (pg_name (i := 6) S.nd rfl (Or.inl rfl)) pgs_nil))) (pss_one (ps_augS (pv 2) (pe_op op_add (pv 3) (pv 5)) get_list (pe_op op_mulW (pv 4) (pv 6)) ip_add set_list)))))
    (pss_one (ps_ret (pv 2)))))), ?_⟩
  try walk_at "dr1"
  refine ⟨by decide, ?_⟩
  intro l0 n_l0; generalize e_l0 : upd _ l0 _ = H1; obtain ⟨g1, k1⟩ := newH e_l0 n_l0; clear e_l0
  refine ⟨_, .inl (g1.seq hS), _, .inl (g1.seq hS'), ?_⟩
  simp only [List.length_map]
  refine ⟨_, k1, by omega, by omega, by simp only [List.length_cons, List.length_nil]; unfold sizeLine; omega, ?_⟩
  intro l n_l; generalize e_l : upd _ l _ = H2; obtain ⟨g2, k2⟩ := newH e_l n_l; clear e_l
  rw [rep_zero] at k2
  have g12 := g1.trans g2
  have nl : H l = none := g1.free n_l
  refine ⟨⟨_, g12.seq hS⟩, ?_⟩
  obtain ⟨M, hM⟩ : ∃ M : Nat, M = 2 ^ (m + n) := ⟨_, rfl⟩
  obtain ⟨Pv, hPv⟩ : ∃ Pv : Nat → St → Hp → Prop, ∀ i σ H3, Pv i σ H3 ↔ (Same H H3 ∧ ∃ (r : List Int) (t3 t4 t5 t6 : Option V), r.length + 1 = f.length + g.length ∧ (∀ c, c ∈ r → c.natAbs ≤ i * g.length * M) ∧ (∀ x, Dr.pev r x = Dr.pev (f.take i) x * Dr.pev g x) ∧ H3 l = some (.lst (r.map V.int)) ∧ σ = [some (.ref a), some (.ref b), some (.ref l), t3, t4, t5, t6]) := ⟨_, fun _ _ _ => Iff.rfl⟩
  refine forE f Pv ((hPv _ _ _).mpr ⟨g12, _, none, none, none, none, by rw [List.length_replicate]; omega, fun c hc => by rw [(List.mem_replicate.mp hc).2]; simp, fun x => by rw [Dr.pev_zeros]; simp [Dr.pev], k2, rfl⟩) (fun i σ H3 z => by obtain ⟨g, _⟩ := (hPv _ _ _).mp z; exact g.seq hS) ?_ ?_
  · intro i c σ H3 t H4 hc z g4 ht
    obtain ⟨g3, r, t3, t4, t5, t6, hrl, hrb, hre, k3, rfl⟩ := (hPv _ _ _).mp z
    have k4 := g4 _ _ k3
    have hi := (List.getElem?_eq_some_iff.mp hc).1
    have G4 := g3.trans g4
    try walk_at "dr1"
    refine ⟨_, SqT.of ht, rfl, _, _, rfl, _, _, rfl, rfl, ?_⟩
    try try walk_at "dr1"
    refine ⟨⟨_, G4.seq hS'⟩, ?_⟩
    obtain ⟨Pw, hPw⟩ : ∃ Pw : Nat → St → Hp → Prop, ∀ j σ H5, Pw j σ H5 ↔ (Same H H5 ∧ ∃ (r : List Int) (t5 t6 : Option V), r.length + 1 = f.length + g.length ∧ (∀ c, c ∈ r → c.natAbs ≤ (i * g.length + j) * M) ∧ (∀ x, Dr.pev r x = Dr.pev (f.take i) x * Dr.pev g x + c * x ^ i * Dr.pev (g.take j) x) ∧ H5 l = some (.lst (r.map V.int)) ∧ σ = [some (.ref a), some (.ref b), some (.ref l), some (.int (i : Int)), some (.int c), t5, t6]) := ⟨_, fun _ _ _ => Iff.rfl⟩
    refine forE g Pw ((hPw _ _ _).mpr ⟨G4, r, t5, t6, hrl, hrb, fun x => by rw [hre]; simp [Dr.pev], k4, rfl⟩) (fun i σ H3 z => by obtain ⟨g, _⟩ := (hPw _ _ _).mp z; exact g.seq hS') ?_ ?_
    · intro j d σ H5 t H6 hd z g6 ht
      obtain ⟨g5, r, t5, t6, hrl, hrb, hre, k5, rfl⟩ := (hPw _ _ _).mp z
      have k6 := g6 _ _ k5
      have hj := (List.getElem?_eq_some_iff.mp hd).1
      try walk_at "dr1"
      refine ⟨_, SqT.of ht, rfl, _, _, rfl, _, _, rfl, rfl, ?_⟩
      try try walk_at "dr1"
      obtain ⟨v, e1, _, e3, e4⟩ := get_int (fs := r) (k := (i : Int) + (j : Int)) (by omega) (by omega)
      have hcd : (c * d).natAbs ≤ M := by
        rw [hM]
        exact Nat.le_of_lt ((hf c (List.mem_of_getElem? hc)).mul (hg d (List.mem_of_getElem? hd)))
      refine ⟨by omega, _, SqL.of k6, _, e4, mulSm (hf c (List.mem_of_getElem? hc)) (hg d (List.mem_of_getElem? hd)) (by omega), v, rfl, _, k6, _, e3, ?_⟩
      rw [set_int]
      have eij : ((i : Int) + (j : Int)).toNat = i + j := by omega
      rw [eij] at e1 ⊢
      refine (hPw _ _ _).mpr ⟨(g5.trans g6).up nl _, _, _, _, by rw [List.length_set]; exact hrl, fun e he => ?_, fun x => ?_, upd_same, rfl⟩
      · rcases mem_set he with w | w
        · exact Nat.le_trans (hrb e w) (Nat.mul_le_mul_right _ (Nat.le_succ _))
        · rw [w]
          exact steps (hrb v (List.mem_of_getElem? e1)) hcd
      · rw [Dr.pev_set x (c * d) r (i + j) v e1, hre, Dr.pev_take_succ hd, Dr.pow_add']
        generalize x ^ i = X
        generalize x ^ j = Y
        grind
    · intro σ H5 z
      obtain ⟨g5, r, t5, t6, hrl, hrb, hre, k5, rfl⟩ := (hPw _ _ _).mp z
      refine (hPv _ _ _).mpr ⟨g5, r, _, _, _, _, hrl, fun c hc => ?_, fun x => ?_, k5, rfl⟩
      · rw [Nat.succ_mul]
        exact hrb c hc
      · rw [hre, List.take_length, Dr.pev_take_succ hc]
        grind
  · intro σ H3 z
    obtain ⟨g3, r, t3, t4, t5, t6, hrl, hrb, hre, k3, rfl⟩ := (hPv _ _ _).mp z
    try walk_at "dr1"
    rw [List.take_length] at hre
    refine q l r H3 ⟨hrl, hre⟩ (fun c hc => ?_) nl g3 k3
    have h1 := hrb c hc
    have h2 : f.length * g.length * M ≤ 3600 * M := Nat.mul_le_mul_right _ (Nat.mul_le_mul (show f.length ≤ 60 by omega) (show g.length ≤ 60 by omega))
    show c.natAbs < 2 ^ (m + n + 12)
    rw [Nat.pow_add, ← hM]
    have : (2 : Nat) ^ 12 = 4096 := by decide
    have : 0 < M := by rw [hM]; exact Nat.pow_pos (by decide)
    omega
theorem comp_dmI {K : PySem.W.Frag} {H : Hp} {a : Addr} {f : List Int} {σ : St} {k : Nat} {Q : VK} (hS : SqL K H a (f.map V.int)) (hl : 0 < f.length ∧ f.length ≤ 60) (hi : σ[k]? = some (some (.ref a))) (q : ∀ l, H l = none → Q (.ref l) (upd H l (.lst ((Dr.dm 1 f.tail).map V.int)))) :
    CompIt (Itr 1 ((((f.map V.int).length : Nat) : Int) - 1).toNat) [k] (fun _ H Q => Q true H) (tOp (rI IntMulOk fun i j => V.int (i * j)) (tVar 0) (tOp (rIxL K) (tVar 1) (tVar 0))) σ H Q := by
  obtain ⟨Pc, hPc⟩ : ∃ Pc : Nat → List V → Hp → Prop, ∀ i ys H1, Pc i ys H1 ↔ (H1 = H ∧ ys = ((Dr.dm 1 f.tail).take i).map V.int) := ⟨_, fun _ _ _ => Iff.rfl⟩
  refine compR Pc (by simp only [List.length_map]; unfold sizeLine; omega) ((hPc _ _ _).mpr ⟨rfl, by simp⟩) ?_ ?_
  · intro i ys H1 hi' z
    obtain ⟨rfl, rfl⟩ := (hPc _ _ _).mp z
    simp only [List.length_map] at hi'
    have hi2 : i < f.tail.length := by rw [List.length_tail]; omega
    have e0 : f.tail[i]? = some f.tail[i] := List.getElem?_eq_getElem hi2
    have e1 : atI (f.map V.int) (1 + (i : Int)) = some (.int f.tail[i]) := by
      rw [Int.add_comm]
      refine atI_nat (j := i + 1) ?_
      rw [List.getElem?_map]
      have : f[i + 1]? = some f.tail[i] := by
        rw [← e0]
        simp [List.getElem?_tail]
      rw [this]
      rfl
    have e2 := Dr.dm_get f.tail 1 i _ e0
    simp only [capV, List.map_cons, List.map_nil, hi, Option.getD_some]
    try walk_at "dr1"
    refine ⟨_, hS, _, e1, _, rfl, IntMulOk.of_left (intBits_le_64 (by omega) (by omega)), (hPc _ _ _).mpr ⟨rfl, ?_⟩⟩
    rw [List.take_add_one, e2, List.map_append]
    rfl
  · intro ys H1 z
    obtain ⟨rfl, rfl⟩ := (hPc _ _ _).mp z
    intro l hl'
    have := q l hl'
    rw [List.take_of_length_le (by rw [Dr.dm_length, List.length_tail]; simp only [List.length_map]; omega)]
    exact this
theorem comp_dm {K : PySem.W.Frag} {H : Hp} {a : Addr} {f : List Int} {rest : St} {Q : VK} (hS : SqL K H a (f.map V.int)) (hl : 0 < f.length ∧ f.length ≤ 60) (q : ∀ l, H l = none → Q (.ref l) (upd H l (.lst ((Dr.dm 1 f.tail).map V.int)))) :
    CompIt (Itr 1 ((((f.map V.int).length : Nat) : Int) - 1).toNat) [0] (fun _ H Q => Q true H) (tOp (rI IntMulOk fun i j => V.int (i * j)) (tVar 0) (tOp (rIxL K) (tVar 1) (tVar 0))) (some (.ref a) :: rest) H Q := comp_dmI hS hl rfl q
theorem slope_b {f : List Int} {m : Nat} (hl : 0 < f.length ∧ f.length ≤ 60) (hf : Dr.PolyB f m) : Dr.PolyB (Dr.pslope f) (m + 6) := by
  intro d hd
  match f, hl with
  | [x], _ =>
    rw [List.mem_singleton.mp hd]
    exact Dr.Sm.zero _
  | x :: y :: f, hl =>
    have hd' : d ∈ Dr.dm 1 (y :: f) := hd
    obtain ⟨i, hi⟩ := List.getElem?_of_mem hd'
    have hi2 : i < (y :: f).length := by
      have := (List.getElem?_eq_some_iff.mp hi).1
      rw [Dr.dm_length] at this
      exact this
    have e0 : (y :: f)[i]? = some (y :: f)[i] := List.getElem?_eq_getElem hi2
    rw [Dr.dm_get (y :: f) 1 i _ e0] at hi
    rw [← Option.some.inj hi]
    have h1 : Dr.Sm (1 + (i : Int)) 6 := sm_of 60 (by simp only [List.length_cons] at hl hi2; omega) (by decide)
    have h2 := h1.mul (hf _ (List.mem_cons_of_mem _ (List.mem_of_getElem? e0)))
    exact h2.mono (by omega)
theorem dm_b {f : List Int} {m : Nat} (hl : 0 < f.length ∧ f.length ≤ 60) (hf : Dr.PolyB f m) : Dr.PolyB (Dr.dm 1 f.tail) (m + 6) := by
  match f, hl with
  | [x], _ => exact fun c hc => nomatch hc
  | x :: y :: f, hl => exact slope_b hl hf
theorem dm_ev {f : List Int} (hl : 0 < f.length) (a : Int) : Dr.pev (Dr.dm 1 f.tail) a = Dr.pdv f a := by
  match f, hl with
  | x :: f, _ =>
    rw [Dr.pev_dm]
    simp only [List.tail_cons, Dr.pdv]
    omega
def sp_slope_of (K : PySem.W.Frag) : Sp := fun vs H Q _ => ∃ (a : Addr) (f : List Int) (m : Nat), vs = [.ref a] ∧ SqL K H a (f.map V.int) ∧ (0 < f.length ∧ f.length ≤ 60) ∧ Dr.PolyB f m ∧ m ≤ 1000000 ∧
  ∀ (c : Addr) (H' : Hp), Dr.PolyB (Dr.pslope f) (m + 6) → H c = none → Same H H' → H' c = some (.lst ((Dr.pslope f).map V.int)) → Q (.ref c) H'
theorem ok_slope_of (B : Bi mg K) (F : Fun K "slope_of" "slope_of" s_slope_of f fd) : FnOk P w K mg base CX0 1 f fd ["f"] (sp_slope_of K) := by
  refine F.ok S_slope_of (fun vs H Q E h => ?_) (fun cdv A outer s H vs Q E hr h => ?_)
  · obtain ⟨a, f, m, rfl, _⟩ := h
    rfl
  obtain ⟨a, f, m, rfl, hS, hl, hf, hm, q⟩ := h
  have S := S_slope_of
  refine ⟨_, ((pss_cons (ps_if (pt_cmpR op_eq (pe_callB call_len_seq rfl B.b_len PySem.boot_len (pa_cons (pv 0) pa_nil)) pe_int (nomark _)) (pss_one (ps_ret (pe_lst (pa_cons pe_int pa_nil)))) pss_nil)
    (pss_one (ps_ret (pe_comp [0] ["f"] rfl rfl ⟨rfl, trivial⟩ ⟨rfl, rfl, rfl, rfl, trivial⟩ rfl rfl (by decide) (by decide) rfl rfl (by decide) (pi_range2 rfl B.b_range (pa_cons pe_int (pa_cons (pe_callB call_len_seq rfl B.b_len PySem.boot_len (pa_cons (pv 0) pa_nil)) pa_nil))) (fun _ _ _ _ => pts_nil) (fun _ _ _ _ => (pe_op op_mulW (pv 0) (pe_ix (ix_listK (K := K) rfl) (pv 1) (pv 0) (fun _ _ => rfl))))))))), ?_⟩
  try walk_at "dr1"
  refine ⟨_, .inl hS, ?_⟩
  simp only [List.length_map]
  refine ite2 (fun c => ?_) (fun c => ?_)
  · refine ⟨by decide, ?_⟩
    intro l n_l; generalize e_l : upd _ l _ = H1; obtain ⟨g1, k1⟩ := newH e_l n_l; clear e_l
    obtain ⟨x, rfl⟩ : ∃ x, f = [x] := List.length_eq_one_iff.mp (by omega)
    exact q l H1 (fun c hc => by rw [List.mem_singleton.mp hc]; exact Dr.Sm.zero _) n_l g1 k1
  · refine ⟨_, .inl hS, by decide, by decide, by simp only [List.length_map]; omega, by simp only [List.length_map]; omega, ?_⟩
    refine comp_dm hS hl ?_
    intro l n_l; generalize e_l : upd _ l _ = H1; obtain ⟨g1, k1⟩ := newH e_l n_l; clear e_l
    have es : Dr.dm 1 f.tail = Dr.pslope f := by
      match f, hl with
      | [x], _ => exact absurd rfl c
      | x :: y :: g, _ => rfl
    rw [es] at k1
    exact q l H1 (slope_b hl hf) n_l g1 k1
def sp_seen_from (K : PySem.W.Frag) : Sp := fun vs H Q _ => ∃ (p : Int) (b : Addr) (f : List Int) (a e : Int) (m n : Nat), vs = [.int p, .ref b, .int a, .int e] ∧ SqL K H b (f.map V.int) ∧ (0 < f.length ∧ f.length ≤ 60) ∧ (2 ≤ p ∧ p < 1000) ∧ (0 ≤ e ∧ e < 1000) ∧ Dr.PolyB f m ∧ Dr.Sm a n ∧ (10 * e.toNat + 1 ≤ n ∧ n ≤ 15000 ∧ m ≤ 50000) ∧
  ∀ (c : Addr) (s : List Int) (H' : Hp), Dr.IsSeen f a (p ^ e.toNat) s → Dr.PolyB s (m + f.length * (n + 13)) → H c = none → Same H H' → H' c = some (.lst (s.map V.int)) → Q (.ref c) H'
theorem drop_init {f : List Int} (h : 0 < f.length) {i : Nat} {c : Int} (hc : f.dropLast.reverse[i]? = some c) : f.drop (f.length - 1 - (i + 1)) = c :: f.drop (f.length - 1 - i) := by
  have hi : i < f.dropLast.length := by
    have := (List.getElem?_eq_some_iff.mp hc).1
    simpa using this
  have hi' : i < f.length - 1 := by simpa using hi
  rw [List.getElem?_reverse hi, List.length_dropLast] at hc
  have h2 : f.length - 1 - (i + 1) < f.length := by omega
  rw [List.drop_eq_getElem_cons h2, show f.length - 1 - (i + 1) + 1 = f.length - 1 - i by omega]
  congr 1
  have h3 : f.length - 1 - 1 - i = f.length - 1 - (i + 1) := by omega
  rw [h3, List.getElem?_dropLast, if_pos (by omega), List.getElem?_eq_getElem h2] at hc
  exact Option.some.inj hc
local macro_rules | `(tactic| walk_at "dr2") => `(tactic| simp only [tNext, tRet, tRetN, tDrop, tIfS, tIf, tTest, tB, tAnd, tOr, tNot, tAndV, tOrV, tNotV, tAsg, gName, gTup, gLst, gCons, gNil, tPar, tAug, tVar, tC, tOp, tUn, rI, rI0, rU, rEq, rNe, rAdd, rSub, ipI, tCons, tNil, tTup, tLst, tCall, tCB, tSl, tNoPart, tPart, gSub, tAugS, rGetL, iEnum, tSlK, tListRng, rExtend, rClear, rSlL, rSlT, rIxL, rIxT, rSetL, rIn, tBM, tBM0, rAppend, rCat, rRep, tNever, tRaise, tTry, tTry2, tTryAs, Ends.gone, tCallX, cx_K, cc_K, w_tyl, Int.reduceLT, Int.reduceLE, Nat.reduceLT, Nat.reduceLeDiff, tChain, w_for, w_comp, capV, Option.getD_some, iRng1, iRng2, iRng3, iList, iTup, iRev, tListRev, L2.start, sc_ii, sc_bb, sc_in, sc_ni, sc_ss, sc_nn, sc_bn, sc_is, isv_int_int, isv_int_bool, isv_int_str, isv_int_list, isv_int_tuple, isv_int_dict, isv_bool_int, isv_bool_bool, isv_bool_str, isv_bool_list, isv_bool_tuple, isv_bool_dict, isv_NoneType_int, isv_NoneType_bool, isv_NoneType_str, isv_NoneType_list, isv_NoneType_tuple, isv_NoneType_dict, isv_str_int, isv_str_bool, isv_str_str, isv_str_list, isv_str_tuple, isv_str_dict, iso_list_int, iso_list_bool, iso_list_str, iso_list_list, iso_list_tuple, iso_list_dict, iso_tuple_int, iso_tuple_bool, iso_tuple_str, iso_tuple_list, iso_tuple_tuple, iso_tuple_dict, iso_dict_int, iso_dict_bool, iso_dict_str, iso_dict_list, iso_dict_tuple, iso_dict_dict, isCls, clsV, List.getElem?_cons_zero, List.getElem?_cons_succ, List.set_cons_zero, List.set_cons_succ, List.map_cons, List.map_nil, List.cons_append, List.nil_append, List.append_nil, List.replicate_succ, List.replicate_zero, List.length_cons, List.length_nil, Option.some.injEq, exists_eq, exists_eq', exists_eq_left, exists_eq_left', exists_and_left, exists_and_right, List.cons.injEq, V.int.injEq, V.bl.injEq, V.ref.injEq, V.str.injEq, V.ty.injEq, reduceCtorEq, and_true, true_and, and_assoc, false_and, and_false, or_false, false_or, exists_false, decide_eq_true_eq, Bool.not_eq_true', decide_eq_false_iff_not, Bool.not_eq_false', Bool.not_eq_true, Bool.false_eq_true, Bool.true_eq_false, ite_true, ite_false, if_true, if_false, Bool.not_true, Bool.not_false, Bool.true_eq, Bool.or_true, Bool.or_false, Bool.true_or, Bool.false_or, Bool.and_true, Bool.and_false, beq_self_eq_true, decide_true, decide_false, eq_self_iff_true, not_true_eq_false, not_false_eq_true])
theorem ok_seen_from (B : Bi mg K) (d_power_of : Def P w K mg base "power_of" 1 ["p", "e"] (sp_power_of K)) (d_poly_product : Def P w K mg base "poly_product" 1 ["f", "g"] (sp_poly_product K)) (F : Fun K "seen_from" "seen_from" s_seen_from f fd) : FnOk P w K mg base CX0 2 f fd ["p", "f", "a", "e"] (sp_seen_from K) := by
  refine F.ok S_seen_from (fun vs H Q E h => ?_) (fun cdv A outer s H vs Q E hr h => ?_)
  · obtain ⟨p, b, f, a, e, m, n, rfl, _⟩ := h
    rfl
  obtain ⟨p, b, f, a, e, m, n, rfl, hS, hl, hp, he, hf, ha, hmn, q⟩ := h
  have S := S_seen_from
  refine ⟨_, ((pss_cons (ps_set (i := 4) S.nd rfl (Or.inl rfl) (pe_lst (pa_cons (pv 2) (pa_cons (pe_def d_power_of hr rfl (pa_cons (pv 0) (pa_cons (pv 3) pa_nil))) pa_nil))))
    (pss_cons (ps_set (i := 5) S.nd rfl (Or.inl rfl) (pe_lst (pa_cons (pe_ix ix_list (pv 1) (pe_un un_neg pe_int) (fun _ _ => rfl)) pa_nil)))
    (pss_cons (ps_for PassesOwn.never rfl (pi_rev rfl B.b_reversed (pe_slice sl_list (pv 1) po_none (po_some (pe_un un_neg pe_int)))) (pg_name (i := 6) S.nd rfl (Or.inl rfl)) (pss_cons (ps_set (i := 5) S.nd rfl (Or.inl rfl) (pe_def d_poly_product hr rfl (pa_cons (pv 5) (pa_cons (pv 4) pa_nil))))
    (pss_one (ps_augS (pv 5) pe_int get_list (pv 6) ip_add set_list))))
    (pss_one (ps_ret (pv 5))))))), ?_⟩
  have bp : Dr.Sm (p ^ e.toNat) n := (show Dr.Sm (p ^ e.toNat) (10 * e.toNat + 1) from pow_bits hp e.toNat).mono hmn.1
  have bps : Dr.PolyB [a, p ^ e.toNat] n := fun c hc => by
    rcases List.mem_cons.mp hc with w | w
    · rw [w]; exact ha
    · rw [List.mem_singleton.mp w]; exact bp
  (try dsimp only); (first | refine seqI ?_ | skip); try walk_at "dr2"; (try simp only [sp_power_of, sp_poly_product]); try walk_at "dr2"
  refine ⟨hp.1, hp.2, by omega, by omega, by decide, ?_⟩
  intro l1 n_l1; generalize e_l1 : upd _ l1 _ = H1; obtain ⟨g1, k1⟩ := newH e_l1 n_l1; clear e_l1
  have k1 : H1 l1 = some (.lst ([a, p ^ e.toNat].map V.int)) := k1
  obtain ⟨x0, hx0⟩ : ∃ x0, f.getLast? = some x0 := ⟨f.getLast (List.ne_nil_of_length_pos hl.1), List.getLast?_eq_some_getLast _⟩
  (try dsimp only); (first | refine seqI ?_ | skip); try walk_at "dr2"; (try simp only [sp_power_of, sp_poly_product]); try walk_at "dr2"
  refine ⟨_, g1.seq hS, _, atI_back hx0, by decide, ?_⟩
  intro l2 n_l2; generalize e_l2 : upd _ l2 _ = H2; obtain ⟨g2, k2⟩ := newH e_l2 n_l2; clear e_l2
  have k2 : H2 l2 = some (.lst ([x0].map V.int)) := k2
  (try dsimp only); (first | refine seqI ?_ | skip); try walk_at "dr2"; (try simp only [sp_power_of, sp_poly_product]); try walk_at "dr2"
  refine ⟨_, (g1.trans g2).seq hS, ?_⟩
  intro l3 n_l3; generalize e_l3 : upd _ l3 _ = H3; obtain ⟨g3, k3⟩ := newH e_l3 n_l3; clear e_l3
  rw [cut_init] at k3
  refine ⟨_, SqL.of k3, ?_⟩
  have G3 := g1.trans (g2.trans g3)
  have ed : f.drop (f.length - 1) = [x0] := by
    have h2 : f.length - 1 < f.length := by omega
    rw [List.drop_eq_getElem_cons h2, show f.length - 1 + 1 = f.length by omega, List.drop_length]
    rw [List.getLast?_eq_getElem?, List.getElem?_eq_getElem h2] at hx0
    rw [Option.some.inj hx0]
  obtain ⟨Pv, hPv⟩ : ∃ Pv : Nat → St → Hp → Prop, ∀ i σ H4, Pv i σ H4 ↔ (Same H3 H4 ∧ ∃ (c : Addr) (s : List Int) (t6 : Option V), H c = none ∧ H4 c = some (.lst (s.map V.int)) ∧ s.length = i + 1 ∧ Dr.PolyB s (m + i * (n + 13)) ∧ (∀ y, Dr.pev s y = Dr.pev (f.drop (f.length - 1 - i)) (a + p ^ e.toNat * y)) ∧ σ = [some (.int p), some (.ref b), some (.int a), some (.int e), some (.ref l1), some (.ref c), t6]) := ⟨_, fun _ _ _ => Iff.rfl⟩
  refine forV f.dropLast Pv (by rw [List.length_map]) ((hPv _ _ _).mpr ⟨Same.refl _, l2, [x0], none, g1.free n_l2, g3 _ _ k2, rfl, fun c hc => ?_, fun y => by rw [Nat.sub_zero, ed]; simp [Dr.pev], rfl⟩) (fun i σ H4 z => by obtain ⟨g, _⟩ := (hPv _ _ _).mp z; exact SqL.of (g _ _ k3)) ?_ ?_
  · rw [List.mem_singleton.mp hc]
    exact (hf x0 (List.mem_of_getLast? hx0)).mono (by omega)
  · intro i c σ H4 hc z
    obtain ⟨g4, lc, s, t6, nc, kc, hsl, hsb, hse, rfl⟩ := (hPv _ _ _).mp z
    have hi : i < f.length - 1 := by
      have := (List.getElem?_eq_some_iff.mp hc).1
      simpa using this
    have hib : i * (n + 13) ≤ 60 * 15013 := Nat.mul_le_mul (by omega) (by omega)
    (try dsimp only); (first | refine seqI ?_ | skip); try walk_at "dr2"; (try simp only [sp_power_of, sp_poly_product]); try walk_at "dr2"
    refine ⟨s, SqL.of kc, [a, p ^ e.toNat], SqL.of (g4 _ _ (g3 _ _ (g2 _ _ k1))), by omega, by omega, by simp, by simp, _, hsb, n, bps, by omega, by omega, fun lr r H5 hr hrb nr g5 kr => ?_⟩
    have hrl := hr.len
    simp only [List.length_cons, List.length_nil] at hrl
    obtain ⟨v, e1, _, e3, e4⟩ := get_int (fs := r) (k := 0) (by omega) (by omega)
    refine ⟨_, SqL.of kr, _, e4, v, rfl, _, kr, _, e3, ?_⟩
    rw [set_int]
    have e0 : Int.toNat 0 = 0 := rfl
    rw [e0] at e1 ⊢
    have n3 := g4.free nr
    have hs1 : (i + 1) * (n + 13) = i * (n + 13) + (n + 13) := Nat.succ_mul ..
    refine (hPv _ _ _).mpr ⟨(g4.trans g5).up n3 _, lr, _, _, G3.free n3, upd_same, by rw [List.length_set]; omega, fun d hd => ?_, fun y => ?_, rfl⟩
    · rcases mem_set hd with w | w
      · exact (hrb d w).mono (by omega)
      · rw [w]
        exact ((hrb v (List.mem_of_getElem? e1)).add (hf c (List.dropLast_subset _ (List.mem_reverse.mp (List.mem_of_getElem? hc))))).mono (by omega)
    · rw [Dr.pev_set y c r 0 v e1, hr.ev, hse, drop_init hl.1 hc]
      simp only [Dr.pev, Int.pow_zero]
      generalize Dr.pev (List.drop (f.length - 1 - i) f) (a + p ^ e.toNat * y) = X
      generalize p ^ e.toNat = q
      grind
  · intro σ H4 z
    obtain ⟨g4, lc, s, t6, nc, kc, hsl, hsb, hse, rfl⟩ := (hPv _ _ _).mp z
    rw [List.length_dropLast] at hsl hsb hse
    try walk_at "dr1"; (try simp only [sp_power_of, sp_poly_product]); try walk_at "dr1"
    refine q lc s H4 ⟨by omega, fun y => ?_⟩ (fun c hc => (hsb c hc).mono ?_) nc (G3.trans g4) kc
    · rw [hse, Nat.sub_self, List.drop_zero]
    · exact Nat.add_le_add_left (Nat.mul_le_mul_right _ (by omega)) _
def sp_content_of (K : PySem.W.Frag) : Sp := fun vs H Q E => ∃ (p : Int) (b : Addr) (f : List Int), vs = [.int p, .ref b] ∧ SqL K H b (f.map V.int) ∧ f.length ≤ 60 ∧ (2 ≤ p ∧ p < 1000) ∧
  ((∃ c, c ∈ f ∧ c ≠ 0) → ∀ (c : Nat) (H' : Hp), Dr.IsCont p f c → Same H H' → Q (.int (c : Int)) H') ∧ ((∀ c, c ∈ f → c = 0) → ∀ H', Same H H' → E (.ref (clK K "NoDepth")) none H')
theorem all_beq {l : List Int} {p : Int} : ((l.map fun x => decide (x % p = 0)).all id = true) ↔ ∀ x, x ∈ l → x % p = 0 := by
  simp [List.all_map]
theorem cont_turn {p : Int} (hp : 2 ≤ p) {f l : List Int} {c : Nat} (e : f = l.map (p ^ c * ·)) (h : ∀ x, x ∈ l → x % p = 0) : f = (l.map (· / p)).map (p ^ (c + 1) * ·) := by
  rw [e, List.map_map]
  refine List.map_congr_left fun x hx => ?_
  have := Int.mul_ediv_add_emod x p
  rw [h x hx] at this
  simp only [Function.comp]
  rw [Int.pow_succ, Int.mul_assoc]
  congr 1
  omega
theorem cont_end {p : Int} (hp : 2 ≤ p) {f l : List Int} {c : Nat} (e : f = l.map (p ^ c * ·)) (h : ∃ x, x ∈ l ∧ x % p ≠ 0) : Dr.IsCont p f c := by
  have q0 := Dr.pow_pos hp c
  refine ⟨fun x hx => ?_, ?_⟩
  · rw [e, List.mem_map] at hx
    obtain ⟨y, _, rfl⟩ := hx
    simp
  · obtain ⟨x, hx, n⟩ := h
    refine ⟨p ^ c * x, by rw [e]; exact List.mem_map_of_mem hx, ?_⟩
    rw [Int.mul_ediv_cancel_left _ (by omega)]
    exact n
theorem cont_ex {p : Int} (hp : 2 ≤ p) {f : List Int} (h : ∃ c, c ∈ f ∧ c ≠ 0) : ∃ c, Dr.IsCont p f c := by
  obtain ⟨x, hx, x0⟩ := h
  obtain ⟨d, u, hd⟩ := Dr.fac hp x0
  have go : ∀ n : Nat, n ≤ d → (∃ c, Dr.IsCont p f c) ∨ ∀ y, y ∈ f → y % p ^ n = 0 := by
    intro n
    induction n with
    | zero => intro _; exact .inr fun y _ => by simp [Int.emod_one]
    | succ n ih =>
      intro hn
      rcases ih (by omega) with z | z
      · exact .inl z
      by_cases w : ∀ y, y ∈ f → y % p ^ (n + 1) = 0
      · exact .inr w
      · left
        refine ⟨n, z, ?_⟩
        refine Decidable.byContradiction fun hno => w fun y hy => Decidable.byContradiction fun hy0 => hno ⟨y, hy, fun w2 => hy0 ?_⟩
        have e1 := Int.mul_ediv_add_emod y (p ^ n)
        rw [z y hy] at e1
        obtain ⟨k, ek⟩ := Int.dvd_of_emod_eq_zero w2
        rw [ek, Int.add_zero, ← Int.mul_assoc, ← Int.pow_succ] at e1
        rw [← e1]
        simp
  rcases go d (Nat.le_refl _) with z | z
  · exact z
  · refine ⟨d, z, x, hx, ?_⟩
    rw [hd.div hp]
    exact hd.2
theorem comp_rest {K : PySem.W.Frag} {H : Hp} {a : Addr} {l : List Int} {p : Int} {σ : St} {Q : VK} {i : Nat} (hS : SqL K H a (l.map V.int)) (hl : l.length ≤ 60) (hp : 2 ≤ p) (hi : σ[i]? = some (some (.int p))) (q : ∀ r, H r = none → Q (.ref r) (upd H r (.lst ((l.map fun x => decide (x % p = 0)).map V.bl)))) :
    CompIt (Itl K a) [i] (fun _ H Q => Q true H) (tOp rEq (tOp (rI (fun _ j => 0 < j) fun i j => V.int (i % j)) (tVar 0) (tVar 1)) (tC (V.int 0))) σ H Q := by
  obtain ⟨Pc, hPc⟩ : ∃ Pc : Nat → List V → Hp → Prop, ∀ i ys H1, Pc i ys H1 ↔ (H1 = H ∧ ys = ((l.take i).map fun x => decide (x % p = 0)).map V.bl) := ⟨_, fun _ _ _ => Iff.rfl⟩
  refine compI l Pc (by unfold sizeLine; omega) ((hPc _ _ _).mpr ⟨rfl, by simp⟩) (fun i ys H4 z => by obtain ⟨rfl, _⟩ := (hPc _ _ _).mp z; exact hS) ?_ ?_
  · intro j c ys H1 hc z
    obtain ⟨rfl, rfl⟩ := (hPc _ _ _).mp z
    simp only [capV, List.map_cons, List.map_nil, hi, Option.getD_some]
    try walk_at "dr1"
    refine ⟨by omega, (hPc _ _ _).mpr ⟨rfl, ?_⟩⟩
    rw [List.take_add_one, hc, List.map_append, List.map_append]
    simp
  · intro ys H1 z
    obtain ⟨rfl, rfl⟩ := (hPc _ _ _).mp z
    intro r hr
    have := q r hr
    rw [List.take_length]
    exact this
theorem comp_div {K : PySem.W.Frag} {H : Hp} {a : Addr} {l : List Int} {p : Int} {σ : St} {Q : VK} {i : Nat} (hS : SqL K H a (l.map V.int)) (hl : l.length ≤ 60) (hp : CDivW 0 p) (hi : σ[i]? = some (some (.int p))) (q : ∀ r, H r = none → Q (.ref r) (upd H r (.lst ((l.map (· / p)).map V.int)))) :
    CompIt (Itl K a) [i] (fun _ H Q => Q true H) (tOp (rI CDivW fun i j => V.int (i / j)) (tVar 0) (tVar 1)) σ H Q := by
  obtain ⟨Pc, hPc⟩ : ∃ Pc : Nat → List V → Hp → Prop, ∀ i ys H1, Pc i ys H1 ↔ (H1 = H ∧ ys = ((l.take i).map (· / p)).map V.int) := ⟨_, fun _ _ _ => Iff.rfl⟩
  refine compI l Pc (by unfold sizeLine; omega) ((hPc _ _ _).mpr ⟨rfl, by simp⟩) (fun i ys H4 z => by obtain ⟨rfl, _⟩ := (hPc _ _ _).mp z; exact hS) ?_ ?_
  · intro j c ys H1 hc z
    obtain ⟨rfl, rfl⟩ := (hPc _ _ _).mp z
    simp only [capV, List.map_cons, List.map_nil, hi, Option.getD_some]
    try walk_at "dr1"
    refine ⟨hp, (hPc _ _ _).mpr ⟨rfl, ?_⟩⟩
    rw [List.take_add_one, hc, List.map_append, List.map_append]
    simp
  · intro ys H1 z
    obtain ⟨rfl, rfl⟩ := (hPc _ _ _).mp z
    intro r hr
    have := q r hr
    rw [List.take_length]
    exact this
theorem turn_nat {p y : Int} (hp : 2 ≤ p) (hy : y ≠ 0) (h : y % p = 0) : y / p ≠ 0 ∧ (y / p).natAbs < y.natAbs := by
  have e1 : y = p * (y / p) := by have := Int.mul_ediv_add_emod y p; omega
  have n0 : y / p ≠ 0 := fun z => by rw [z] at e1; simp at e1; exact hy e1
  refine ⟨n0, ?_⟩
  have e2 : y.natAbs = p.natAbs * (y / p).natAbs := by rw [← Int.natAbs_mul, ← e1]
  have l1 : 2 * (y / p).natAbs ≤ p.natAbs * (y / p).natAbs := Nat.mul_le_mul_right _ (by omega)
  omega
theorem ok_content_of (B : Bi mg K) (d_degree_of : Def P w K mg base "degree_of" 1 ["f"] (sp_degree_of K)) (F : Fun K "content_of" "content_of" s_content_of f fd) : FnOk P w K mg base (CXE P w) 2 f fd ["p", "f"] (sp_content_of K) := by
  refine F.okE S_content_of (fun vs H Q E h => ?_) (fun cdv A outer s H vs Q E hr h => ?_)
  · obtain ⟨p, b, f, rfl, _⟩ := h
    rfl
  obtain ⟨p, b, f, rfl, hS, hl, hp, q, qx⟩ := h
  have S := S_content_of
  refine ⟨_, ((pss_cons (ps_if (pt_cmpR op_eq (pe_def d_degree_of hr rfl (pa_cons (pv 1) pa_nil)) (pe_un un_neg pe_int) (nomark _)) (pss_one (ps_raise thrE rfl rfl B.c_NoDepth B.x_NoDepth (pa_cons pe_str pa_nil))) pss_nil)
    (pss_cons (ps_set (i := 2) S.nd rfl (Or.inl rfl) pe_int)
    (pss_cons (ps_set (i := 3) S.nd rfl (Or.inl rfl) (pv 1))
    (pss_cons (ps_nox (ps_while PassesOwn.never (pt_val (pe_callB (call_allB rfl) rfl B.b_all bt_all (pa_cons (pe_comp [0] ["p"] rfl rfl ⟨rfl, trivial⟩ ⟨rfl, rfl, rfl, rfl, trivial⟩ rfl rfl (by decide) (by decide) rfl rfl (by decide) (pi_list (pv 3)) (fun _ _ _ _ => pts_nil) (fun _ _ _ _ => (pe_cmpR op_eq (pe_op op_mod (pv 0) (pv 1)) pe_int (nomark _)))) pa_nil))) (pss_cons (ps_comp [0] ["p"] rfl S.nd (k := 3) rfl rfl rfl rfl ⟨rfl, trivial⟩ ⟨rfl, rfl, rfl, rfl, trivial⟩ rfl rfl (by decide) (by decide) rfl rfl (by decide) (pi_list (pv 3)) (fun _ _ _ _ => pts_nil) (fun _ _ _ _ => (pe_op op_fdivW (pv 0) (pv 1))))
    (pss_one (ps_aug (i := 2) S.nd rfl (Or.inl rfl) pe_int ip_add)))))
    (pss_one (ps_ret (pv 2)))))))), ?_⟩
  (try dsimp only); (first | refine seqI ?_ | skip); try walk_at "dr2"; (try simp only [sp_degree_of]); try walk_at "dr2"
  refine ⟨f, hS, fun d H1 hd g1 => ite2 (fun c => ⟨by decide, ?_⟩) (fun c => ?_)⟩
  · rcases hd with ⟨_, z⟩ | ⟨k, _, z, _⟩
    · exact qx z H1 g1
    · omega
  obtain ⟨k, x0, e0, ek, hx0⟩ : ∃ (k : Nat) (x0 : Int), d = (k : Int) ∧ f[k]? = some x0 ∧ x0 ≠ 0 := by
    rcases hd with ⟨z, _⟩ | ⟨k, x0, z, z1, z2, _⟩
    · exact absurd z c
    · exact ⟨k, x0, z, z1, z2⟩
  have q := q ⟨x0, List.mem_of_getElem? ek, hx0⟩
  (try dsimp only); (first | refine seqI ?_ | skip); try walk_at "dr2"; (try simp only [sp_degree_of]); try walk_at "dr2"
  (try dsimp only); (first | refine seqI ?_ | skip); try walk_at "dr2"; (try simp only [sp_degree_of]); try walk_at "dr2"
  refine seqI ?_
  obtain ⟨W, hW⟩ : ∃ W : Nat → St → Hp → Prop, ∀ m' σ H2, W m' σ H2 ↔ (Same H1 H2 ∧ ∃ (a : Addr) (l : List Int) (c : Nat) (y : Int), SqL K H2 a (l.map V.int) ∧ l.length = f.length ∧ f = l.map (p ^ c * ·) ∧ l[k]? = some y ∧ y ≠ 0 ∧ m' = y.natAbs ∧ σ = [some (.int p), some (.ref b), some (.int (c : Int)), some (.ref a)]) := ⟨_, fun _ _ _ => Iff.rfl⟩
  refine whB W x0.natAbs ((hW _ _ _).mpr ⟨Same.refl _, b, f, 0, x0, g1.seq hS, rfl, by simp, ek, hx0, rfl, rfl⟩) ?_
  intro m' σ H2 z
  obtain ⟨g2, a, l, c, y, hS2, hll, ef, ey, hy, rfl, rfl⟩ := (hW _ _ _).mp z
  try walk_at "dr1"; (try simp only [sp_degree_of]); try walk_at "dr1"
  refine ⟨⟨_, hS2⟩, comp_rest hS2 (by omega) hp.1 rfl ?_⟩
  intro r n_r; generalize e_r : upd _ r _ = H3; obtain ⟨g3, k3⟩ := newH e_r n_r; clear e_r
  refine ⟨_, rfl, _, SqL.of k3, ?_⟩
  try walk_at "dr1"; (try simp only [sp_degree_of]); try walk_at "dr1"
  refine ite2 (fun c0 => ?_) (fun c0 => ?_)
  · have hall := all_beq.mp c0
    refine ⟨_, fun _ _ h => h, ?_⟩
    try walk_at "dr1"; (try simp only [sp_degree_of]); try walk_at "dr1"
    refine ⟨⟨_, g3.seq hS2⟩, comp_div (g3.seq hS2) (by omega) (log_small hp) rfl ?_⟩
    intro r4 n_r4; generalize e_r4 : upd _ r4 _ = H4; obtain ⟨g4, k4⟩ := newH e_r4 n_r4; clear e_r4
    have t := turn_nat hp.1 hy (hall y (List.mem_of_getElem? ey))
    exact ⟨_, t.2, (hW _ _ _).mpr ⟨g2.trans (g3.trans g4), r4, l.map (· / p), c + 1, y / p, SqL.of k4, by rw [List.length_map]; exact hll, cont_turn hp.1 ef hall, by rw [List.getElem?_map, ey]; rfl, t.1, rfl, rfl⟩⟩
  · refine q c H3 (cont_end hp.1 ef ?_) (g1.trans (g2.trans g3))
    refine Decidable.byContradiction fun hno => c0 (all_beq.mpr fun x hx => Decidable.byContradiction fun hx' => hno ⟨x, hx, hx'⟩)
def sp_without_content (K : PySem.W.Frag) : Sp := fun vs H Q E => ∃ (p : Int) (b : Addr) (f : List Int) (m : Nat), vs = [.int p, .ref b] ∧ SqL K H b (f.map V.int) ∧ f.length ≤ 60 ∧ (2 ≤ p ∧ p < 1000) ∧ Dr.PolyB f m ∧ m ≤ 8900 ∧
  ((∀ c, c ∈ f → c = 0) → ∀ H', Same H H' → E (.ref (clK K "NoDepth")) none H') ∧ ((∃ c, c ∈ f ∧ c ≠ 0) → ∀ (c : Nat) (r : Addr) (H' : Hp), Dr.IsCont p f c → H r = none → Same H H' → H' r = some (.lst ((Dr.pdiv (p ^ c) f).map V.int)) → Q (.ref r) H')
theorem cont_lt {p : Int} {f : List Int} {c m : Nat} (hp : 2 ≤ p) (h : ∃ x, x ∈ f ∧ x ≠ 0) (hc : Dr.IsCont p f c) (hb : Dr.PolyB f m) : (p ^ c).natAbs < 2 ^ m := by
  obtain ⟨x, hx, n⟩ := h
  obtain ⟨k, e⟩ := Int.dvd_of_emod_eq_zero (hc.1 x hx)
  have k0 : k ≠ 0 := fun z => by
    rw [z, Int.mul_zero] at e
    exact n e
  have h1 := hb x hx
  unfold Dr.Sm at h1
  have h2 : x.natAbs = (p ^ c).natAbs * k.natAbs := by rw [← Int.natAbs_mul, ← e]
  have h3 : (p ^ c).natAbs * 1 ≤ (p ^ c).natAbs * k.natAbs := Nat.mul_le_mul_left _ (by omega)
  omega
theorem cont_bound {p : Int} {f : List Int} {c m : Nat} (hp : 2 ≤ p) (h : ∃ x, x ∈ f ∧ x ≠ 0) (hc : Dr.IsCont p f c) (hb : Dr.PolyB f m) : c < m + 1 := by
  have h1 := cont_lt hp h hc hb
  have h2 := Dr.two_pow_le hp c
  have h3 : 2 ^ c < 2 ^ m := by omega
  have := (Nat.pow_lt_pow_iff_right (show 1 < 2 by decide)).mp h3
  omega
theorem ok_without_content (B : Bi mg K) (d_power_of : Def P w K mg base "power_of" 1 ["p", "e"] (sp_power_of K)) (d_content_of : DefE P w K mg base "content_of" 2 ["p", "f"] (sp_content_of K)) (F : Fun K "without_content" "without_content" s_without_content f fd) : FnOk P w K mg base (CXE P w) 3 f fd ["p", "f"] (sp_without_content K) := by
  refine F.okE S_without_content (fun vs H Q E h => ?_) (fun cdv A outer s H vs Q E hr h => ?_)
  · obtain ⟨p, b, f, m, rfl, _⟩ := h
    rfl
  obtain ⟨p, b, f, m, rfl, hS, hl, hp, hb, hm, qe, q⟩ := h
  have S := S_without_content
  refine ⟨_, ((pss_cons (ps_set (i := 2) S.nd rfl (Or.inr rfl) (pe_def d_power_of hr rfl (pa_cons (pv 0) (pa_cons (pe_defE passE d_content_of hr rfl (pa_cons (pv 0) (pa_cons (pv 1) pa_nil))) pa_nil))))
    (pss_one (ps_ret (pe_comp [2] ["power"] rfl rfl ⟨rfl, trivial⟩ ⟨rfl, rfl, rfl, rfl, trivial⟩ rfl rfl (by decide) (by decide) rfl rfl (by decide) (pi_list (pv 1)) (fun _ _ _ _ => pts_nil) (fun _ _ _ _ => (pe_op op_fdivW (pv 0) (pv 1)))))))), ?_⟩
  (try dsimp only); (first | refine seqI ?_ | skip); try walk_at "dr2"; (try simp only [sp_power_of, sp_content_of]); try walk_at "dr2"
  refine ⟨f, hS, hl, hp.1, hp.2, fun hne c H1 hc g1 => ⟨hp.1, hp.2, by omega, ?_, ⟨_, g1.seq hS⟩, ?_⟩, qe⟩
  · have := cont_bound hp.1 hne hc hb
    omega
  · rw [Int.toNat_natCast]
    refine comp_div (p := p ^ c) (g1.seq hS) hl ⟨Dr.pow_pos hp.1 c, ?_⟩ rfl ?_
    · have h1 := cont_lt hp.1 hne hc hb
      have h2 : (2 : Nat) ^ m ≤ 2 ^ 8999 := Nat.pow_le_pow_right (by decide) (by omega)
      have h3 := Dr.pow_pos hp.1 c
      have : (p ^ c).natAbs.log2 < 8999 := (Nat.log2_lt (by omega)).mpr (Nat.lt_of_lt_of_le h1 h2)
      omega
    · intro r n_r; generalize e_r : upd _ r _ = H2; obtain ⟨g2, k2⟩ := newH e_r n_r; clear e_r
      exact q hne c r H2 hc (g1.free n_r) (g1.trans g2) k2
def restsOf (p : Int) (f : List Int) : List Int := ((List.range p.toNat).map fun k : Nat => (k : Int)).filter fun r => decide (Dr.pev f r % p = 0)
def sp_rests_by_prime (K : PySem.W.Frag) : Sp := fun vs H Q _ => ∃ (p : Int) (b : Addr) (f : List Int), vs = [.int p, .ref b] ∧ SqL K H b (f.map V.int) ∧ f.length ≤ 60 ∧ (2 ≤ p ∧ p < 1000) ∧
  ∀ (r : Addr) (H' : Hp), H r = none → Same H H' → H' r = some (.lst ((restsOf p f).map V.int)) → Q (.ref r) H'
theorem comp_mod {K : PySem.W.Frag} {H : Hp} {a : Addr} {l : List Int} {p : Int} {σ : St} {Q : VK} {i : Nat} (hS : SqL K H a (l.map V.int)) (hl : l.length ≤ 60) (hp : 0 < p) (hi : σ[i]? = some (some (.int p))) (q : ∀ r, H r = none → Q (.ref r) (upd H r (.lst ((l.map (· % p)).map V.int)))) :
    CompIt (Itl K a) [i] (fun _ H Q => Q true H) (tOp (rI (fun _ j => 0 < j) fun i j => V.int (i % j)) (tVar 0) (tVar 1)) σ H Q := by
  obtain ⟨Pc, hPc⟩ : ∃ Pc : Nat → List V → Hp → Prop, ∀ i ys H1, Pc i ys H1 ↔ (H1 = H ∧ ys = ((l.take i).map (· % p)).map V.int) := ⟨_, fun _ _ _ => Iff.rfl⟩
  refine compI l Pc (by unfold sizeLine; omega) ((hPc _ _ _).mpr ⟨rfl, by simp⟩) (fun i ys H4 z => by obtain ⟨rfl, _⟩ := (hPc _ _ _).mp z; exact hS) ?_ ?_
  · intro j c ys H1 hc z
    obtain ⟨rfl, rfl⟩ := (hPc _ _ _).mp z
    simp only [capV, List.map_cons, List.map_nil, hi, Option.getD_some]
    try walk_at "dr1"
    refine ⟨hp, (hPc _ _ _).mpr ⟨rfl, ?_⟩⟩
    rw [List.take_add_one, hc, List.map_append, List.map_append]
    simp
  · intro ys H1 z
    obtain ⟨rfl, rfl⟩ := (hPc _ _ _).mp z
    intro r hr
    have := q r hr
    rw [List.take_length]
    exact this
theorem pev_mods {p x : Int} : ∀ f : List Int, (Dr.pev (f.map (· % p)) x - Dr.pev f x) % p = 0
  | [] => by simp [Dr.pev]
  | a :: f => by
    have ih := pev_mods (p := p) (x := x) f
    have h1 := Dr.dvd_add_of (Dr.rest_sub p a) (Dr.dvd_mul_l x ih)
    simp only [List.map_cons, Dr.pev]
    rw [Int.mul_sub] at h1
    have e : a % p + x * Dr.pev (f.map (· % p)) x - (a + x * Dr.pev f x) = a % p - a + (x * Dr.pev (f.map (· % p)) x - x * Dr.pev f x) := by omega
    rw [e]
    exact h1
theorem pev_mods_iff {p x : Int} (f : List Int) : Dr.pev (f.map (· % p)) x % p = 0 ↔ Dr.pev f x % p = 0 := by
  have h := pev_mods (p := p) (x := x) f
  constructor
  · intro z
    have := Dr.dvd_sub_of z h
    rwa [show Dr.pev (f.map (· % p)) x - (Dr.pev (f.map (· % p)) x - Dr.pev f x) = Dr.pev f x by omega] at this
  · intro z
    have := Dr.dvd_add_of h z
    rwa [Int.sub_add_cancel] at this
def restsTo (p : Int) (f : List Int) (n : Nat) : List Int := ((List.range n).map fun k : Nat => (k : Int)).filter fun r => decide (Dr.pev f r % p = 0)
theorem restsTo_succ (p : Int) (f : List Int) (n : Nat) : restsTo p f (n + 1) = restsTo p f n ++ if Dr.pev f (n : Int) % p = 0 then [(n : Int)] else [] := by
  unfold restsTo
  rw [List.range_succ, List.map_append, List.filter_append]
  congr 1
  by_cases z : Dr.pev f (n : Int) % p = 0
  · simp [z]
  · simp [z]
theorem ok_rests_by_prime (B : Bi mg K) (d_worth_at : Def P w K mg base "worth_at" 1 ["f", "x"] (sp_worth_at K)) (F : Fun K "rests_by_prime" "rests_by_prime" s_rests_by_prime f fd) : FnOk P w K mg base CX0 2 f fd ["p", "f"] (sp_rests_by_prime K) := by
  refine F.ok S_rests_by_prime (fun vs H Q E h => ?_) (fun cdv A outer s H vs Q E hr h => ?_)
  · obtain ⟨p, b, f, rfl, _⟩ := h
    rfl
  obtain ⟨p, b, f, rfl, hS, hl, hp, q⟩ := h
  have S := S_rests_by_prime
  refine ⟨_, ((pss_cons (ps_set (i := 2) S.nd rfl (Or.inr rfl) (pe_comp [0] ["p"] rfl rfl ⟨rfl, trivial⟩ ⟨rfl, rfl, rfl, rfl, trivial⟩ rfl rfl (by decide) (by decide) rfl rfl (by decide) (pi_list (pv 1)) (fun _ _ _ _ => pts_nil) (fun _ _ _ _ => (pe_op op_mod (pv 0) (pv 1)))))
    (pss_one (ps_ret (pe_comp [0, 2] ["p", "small"] rfl rfl ⟨rfl, rfl, trivial⟩ ⟨rfl, rfl, rfl, rfl, rfl, rfl, rfl, rfl, trivial⟩ rfl rfl (by decide) (by decide) rfl rfl (by decide) (pi_range1 rfl B.b_range (pa_cons (pv 0) pa_nil)) (fun _ _ _ _ => (pts_one (pt_cmpR op_eq (pe_op op_mod (pe_def d_worth_at hr rfl (pa_cons (pv 2) (pa_cons (pv 0) pa_nil))) (pv 1)) pe_int (nomark _)))) (fun _ _ _ _ => (pv 0))))))), ?_⟩
  (try dsimp only); (first | refine seqI ?_ | skip); try walk_at "dr2"; (try simp only [sp_worth_at]); try walk_at "dr2"
  refine ⟨⟨_, hS⟩, comp_mod hS hl (by omega) rfl ?_⟩
  intro ls n_ls; generalize e_ls : upd _ ls _ = H1; obtain ⟨g1, k1⟩ := newH e_ls n_ls; clear e_ls
  have bs : Dr.PolyB (f.map (· % p)) 10 := fun c hc => by
    obtain ⟨x, _, rfl⟩ := List.mem_map.mp hc
    have := mod_in x (show 0 < p by omega)
    exact sm_of 1000 (by omega) (by decide)
  refine ⟨by omega, by omega, ?_⟩
  obtain ⟨Pc, hPc⟩ : ∃ Pc : Nat → List V → Hp → Prop, ∀ i ys H2, Pc i ys H2 ↔ (H2 = H1 ∧ ys = (restsTo p f i).map V.int) := ⟨_, fun _ _ _ => Iff.rfl⟩
  refine compR Pc (by unfold sizeLine; omega) ((hPc _ _ _).mpr ⟨rfl, rfl⟩) ?_ ?_
  · intro i ys H2 hi z
    obtain ⟨rfl, rfl⟩ := (hPc _ _ _).mp z
    try walk_at "dr1"; (try simp only [sp_worth_at]); try walk_at "dr1"
    refine ⟨_, SqL.of k1, by rw [List.length_map]; omega, 10, bs, 10, sm_of 1000 (by omega) (by decide), by decide, by decide, by omega, ?_⟩
    rw [Int.zero_add]
    by_cases w : Dr.pev f (i : Int) % p = 0
    · rw [if_pos ((pev_mods_iff f).mpr w)]
      exact (hPc _ _ _).mpr ⟨rfl, by rw [restsTo_succ, if_pos w, List.map_append]; rfl⟩
    · rw [if_neg fun z => w ((pev_mods_iff f).mp z)]
      exact (hPc _ _ _).mpr ⟨rfl, by rw [restsTo_succ, if_neg w, List.append_nil]⟩
  · intro ys H2 z
    obtain ⟨rfl, rfl⟩ := (hPc _ _ _).mp z
    intro r n_r; generalize e_r : upd _ r _ = H3; obtain ⟨g3, k3⟩ := newH e_r n_r; clear e_r
    exact q r H3 (g1.free n_r) (g1.trans g3) k3
theorem Single.uniq {p : Int} {f : List Int} {a u v : Int} {d e : Nat} (hp : 2 ≤ p) (h : Dr.Single p f a d u) (h' : Dr.Single p f a e v) : d = e := (h.fac.uniq hp h'.fac).1
def Told (p : Int) (f : List Int) (a : Int) (Q : V → Prop) : Prop := (∀ (d : Nat) (u : Int), Dr.Single p f a d u → d ≤ 100000 → Q (.int (d : Int))) ∧ ((∀ (d : Nat) (u : Int), ¬ Dr.Single p f a d u) → Q .non)
def sp_single_depth (K : PySem.W.Frag) : Sp := fun vs H Q _ => ∃ (p : Int) (b : Addr) (f : List Int) (a : Int) (m n : Nat), vs = [.int p, .ref b, .int a] ∧ SqL K H b (f.map V.int) ∧ (0 < f.length ∧ f.length ≤ 13) ∧ Dr.PolyB f m ∧ Dr.Sm a n ∧ (m ≤ 9000 ∧ n ≤ 1400) ∧ (2 ≤ p ∧ p < 1000) ∧ ∀ H', Same H H' → Told p f a (fun v => Q v H')
theorem ok_single_depth (B : Bi mg K) (d_depth_of : Def P w K mg base "depth_of" 1 ["p", "x"] (sp_depth_of K)) (d_power_of : Def P w K mg base "power_of" 1 ["p", "e"] (sp_power_of K)) (d_worth_at : Def P w K mg base "worth_at" 1 ["f", "x"] (sp_worth_at K)) (d_slope_of : Def P w K mg base "slope_of" 1 ["f"] (sp_slope_of K)) (F : Fun K "single_depth" "single_depth" s_single_depth f fd) : FnOk P w K mg base CX0 2 f fd ["p", "f", "a"] (sp_single_depth K) := by
  refine F.ok S_single_depth (fun vs H Q E h => ?_) (fun cdv A outer s H vs Q E hr h => ?_)
  · obtain ⟨p, b, f, a, m, n, rfl, _⟩ := h
    rfl
  obtain ⟨p, b, f, a, m, n, rfl, hS, hl, hf, ha, hmn, hp, q⟩ := h
  have S := S_single_depth
  refine ⟨_, ((pss_cons (ps_set (i := 3) S.nd rfl (Or.inl rfl) (pe_def d_worth_at hr rfl (pa_cons (pe_def d_slope_of hr rfl (pa_cons (pv 1) pa_nil)) (pa_cons (pv 2) pa_nil))))
    (pss_cons (ps_if (pt_cmpR op_eq (pv 3) pe_int (nomark _)) (pss_one (ps_ret pe_non)) pss_nil)
    (pss_cons (ps_set (i := 4) S.nd rfl (Or.inl rfl) (pe_def d_depth_of hr rfl (pa_cons (pv 0) (pa_cons (pv 3) pa_nil))))
    (pss_cons (ps_if (pt_cmpR op_ne (pe_op op_mod (pe_def d_worth_at hr rfl (pa_cons (pv 1) (pa_cons (pv 2) pa_nil))) (pe_def d_power_of hr rfl (pa_cons (pv 0) (pa_cons (pe_op op_add (pe_op op_mulW pe_int (pv 4)) pe_int) pa_nil)))) pe_int (nomark _)) (pss_one (ps_ret pe_non)) pss_nil)
    (pss_one (ps_ret (pv 4)))))))), ?_⟩
  (try dsimp only); (first | refine seqI ?_ | skip); try walk_at "dr2"; (try simp only [sp_depth_of, sp_power_of, sp_worth_at, sp_slope_of]); try walk_at "dr2"
  refine ⟨f, hS, by omega, by omega, m, hf, by omega, fun c H1 hsb _ g1 k1 => ?_⟩
  have sl : (Dr.pslope f).length ≤ 13 := by rw [Dr.pslope_len hl.1]; omega
  refine ⟨Dr.pslope f, SqL.of k1, by omega, m + 6, hsb, n, ha, by omega, by omega, ?_⟩
  rw [Dr.pev_slope hl.1]
  have bd : Dr.Sm (Dr.pdv f a) 30000 := by
    rw [← Dr.pev_slope hl.1]
    refine (ha.pev hsb).mono ?_
    have : (Dr.pslope f).length * (n + 1) ≤ 13 * 1401 := Nat.mul_le_mul sl (by omega)
    omega
  (try dsimp only); (first | refine seqI ?_ | skip); try walk_at "dr2"; (try simp only [sp_depth_of, sp_power_of, sp_worth_at, sp_slope_of]); try walk_at "dr2"
  refine ite2 (fun c0 => ?_) (fun c0 => ?_)
  · exact (q H1 g1).2 fun d u hs => hs.fac.ne hp.1 c0
  (try dsimp only); (first | refine seqI ?_ | skip); try walk_at "dr2"; (try simp only [sp_depth_of, sp_power_of, sp_worth_at, sp_slope_of]); try walk_at "dr2"
  refine ⟨hp.1, hp.2, c0, fun d u hd => ?_⟩
  have hd2 : d < 30000 := hd.depth_lt hp.1 bd
  (try dsimp only); (first | refine seqI ?_ | skip); try walk_at "dr2"; (try simp only [sp_depth_of, sp_power_of, sp_worth_at, sp_slope_of]); try walk_at "dr2"
  refine ⟨f, g1.seq hS, by omega, m, hf, n, ha, by omega, by omega, IntMulOk.of_left (by decide), hp.1, hp.2, by omega, by omega, Dr.pow_pos hp.1 _, ?_⟩
  have e2 : (2 * (d : Int) + 1).toNat = 2 * d + 1 := by omega
  rw [e2]
  refine ite2 (fun c1 => ?_) (fun c1 => ?_)
  · refine (q H1 g1).2 fun d' u' hs => c1 ?_
    have := (hs.fac.uniq hp.1 hd).1
    rw [← this]
    exact hs.deep
  · exact (q H1 g1).1 d u ⟨hd, Decidable.byContradiction fun z => c1 z⟩ (by omega)
def sp_deepened (K : PySem.W.Frag) : Sp := fun vs H Q _ => ∃ (p : Int) (b : Addr) (f : List Int) (a N : Int) (d m n : Nat) (u : Int), vs = [.int p, .ref b, .int a, .int (d : Int), .int N] ∧ SqL K H b (f.map V.int) ∧ (0 < f.length ∧ f.length ≤ 13) ∧ p ∈ Dr.primes ∧ Dr.PolyB f m ∧ Dr.Sm a n ∧ (m ≤ 9000 ∧ n ≤ 1400) ∧ Dr.Single p f a d u ∧ Dr.Sm (p ^ d) 4000 ∧ ((d : Int) + 1 < N ∧ N ≤ 60) ∧
  ∀ (r : Int) (H' : Hp), Same H H' → Dr.Root p f a d N.toNat r → Q (.int r) H'
theorem ok_deepened (B : Bi mg K) (d_power_of : Def P w K mg base "power_of" 1 ["p", "e"] (sp_power_of K)) (d_inverse_of : Def P w K mg base "inverse_of" 2 ["p", "e", "x"] (sp_inverse_of K)) (d_worth_at : Def P w K mg base "worth_at" 1 ["f", "x"] (sp_worth_at K)) (d_slope_of : Def P w K mg base "slope_of" 1 ["f"] (sp_slope_of K)) (F : Fun K "deepened" "deepened" s_deepened f fd) : FnOk P w K mg base CX0 3 f fd ["p", "f", "a", "d", "N"] (sp_deepened K) := by
  refine F.ok S_deepened (fun vs H Q E h => ?_) (fun cdv A outer s H vs Q E hr h => ?_)
  · obtain ⟨p, b, f, a, N, d, m, n, u, rfl, _⟩ := h
    rfl
  obtain ⟨p, b, f, a, N, d, m, n, u, rfl, hS, hl, hpp, hf, ha, hmn, hs, bd, hN, q⟩ := h
  have S := S_deepened
  have p2 := Dr.primes_ge hpp
  have hp : 2 ≤ p ∧ p < 1000 := by omega
  refine ⟨_, ((pss_cons (ps_set (i := 5) S.nd rfl (Or.inl rfl) (pe_def d_power_of hr rfl (pa_cons (pv 0) (pa_cons (pe_op op_add (pv 3) pe_int) pa_nil))))
    (pss_cons (ps_set (i := 6) S.nd rfl (Or.inl rfl) (pe_def d_power_of hr rfl (pa_cons (pv 0) (pa_cons (pe_op op_add (pe_op op_mulW pe_int (pv 3)) pe_int) pa_nil))))
    (pss_cons (ps_set (i := 7) S.nd rfl (Or.inl rfl) (pe_op op_mod (pv 2) (pv 5)))
    (pss_cons (ps_set (i := 8) S.nd rfl (Or.inl rfl) (pe_def d_inverse_of hr rfl (pa_cons (pv 0) (pa_cons pe_int (pa_cons (pe_op op_fdivW (pe_def d_worth_at hr rfl (pa_cons (pe_def d_slope_of hr rfl (pa_cons (pv 1) pa_nil)) (pa_cons (pv 2) pa_nil))) (pe_def d_power_of hr rfl (pa_cons (pv 0) (pa_cons (pv 3) pa_nil)))) pa_nil)))))
    (pss_cons (ps_for PassesOwn.never rfl (pi_range2 rfl B.b_range (pa_cons (pe_op op_add (pv 3) pe_int) (pa_cons (pv 4) pa_nil))) (pg_name (i := 9) S.nd rfl (Or.inl rfl)) (pss_cons (ps_set (i := 10) S.nd rfl (Or.inl rfl) (pe_op op_mod (pe_op op_mulW (pe_un un_neg (pe_op op_fdivW (pe_def d_worth_at hr rfl (pa_cons (pv 1) (pa_cons (pv 7) pa_nil))) (pv 6))) (pv 8)) (pv 0)))
    (pss_cons (ps_set (i := 7) S.nd rfl (Or.inl rfl) (pe_op op_add (pv 7) (pe_op op_mulW (pv 10) (pv 5))))
    (pss_cons (ps_set (i := 5) S.nd rfl (Or.inl rfl) (pe_op op_mulW (pv 5) (pv 0)))
    (pss_one (ps_set (i := 6) S.nd rfl (Or.inl rfl) (pe_op op_mulW (pv 6) (pv 0))))))))
    (pss_one (ps_ret (pv 7))))))))), ?_⟩
  have bp : Dr.Sm p 10 := sm_of 1000 (by omega) (by decide)
  have pos : ∀ k : Nat, 0 < p ^ k := fun k => Dr.pow_pos hp.1 k
  (try dsimp only); (first | refine seqI ?_ | skip); try walk_at "dr2"; (try simp only [sp_power_of, sp_inverse_of, sp_worth_at, sp_slope_of]); try walk_at "dr2"
  refine ⟨hp.1, hp.2, by omega, by omega, ?_⟩
  rw [show ((d : Int) + 1).toNat = d + 1 by omega]
  (try dsimp only); (first | refine seqI ?_ | skip); try walk_at "dr2"; (try simp only [sp_power_of, sp_inverse_of, sp_worth_at, sp_slope_of]); try walk_at "dr2"
  refine ⟨IntMulOk.of_left (by decide), hp.1, hp.2, by omega, by omega, ?_⟩
  rw [show (2 * (d : Int) + 1).toNat = 2 * d + 1 by omega]
  (try dsimp only); (first | refine seqI ?_ | skip); try walk_at "dr2"; (try simp only [sp_power_of, sp_inverse_of, sp_worth_at, sp_slope_of]); try walk_at "dr2"
  refine ⟨pos _, ?_⟩
  (try dsimp only); (first | refine seqI ?_ | skip); try walk_at "dr2"; (try simp only [sp_power_of, sp_inverse_of, sp_worth_at, sp_slope_of]); try walk_at "dr2"
  refine ⟨f, hS, by omega, by omega, m, hf, by omega, fun c H1 hsb _ g1 k1 => ?_⟩
  have sl : (Dr.pslope f).length ≤ 13 := by rw [Dr.pslope_len hl.1]; omega
  refine ⟨Dr.pslope f, SqL.of k1, by omega, m + 6, hsb, n, ha, by omega, by omega, hp.1, hp.2, by omega, by omega, ?_⟩
  rw [Dr.pev_slope hl.1, Int.toNat_natCast]
  have cdiv : ∀ {x : Int} {k : Nat}, 0 < x → Dr.Sm x k → k ≤ 8999 → ∀ y, CDivW y x := fun {x k} h1 h2 h3 y => ⟨h1, by
    have := (Nat.log2_lt (by omega)).mpr h2
    omega⟩
  have bw : Dr.Sm (Dr.pdv f a) 30000 := by
    rw [← Dr.pev_slope hl.1]
    refine (ha.pev hsb).mono ?_
    have : (Dr.pslope f).length * (n + 1) ≤ 13 * 1401 := Nat.mul_le_mul sl (by omega)
    omega
  have eu : Dr.pdv f a / p ^ d = u := hs.fac.div hp.1
  rw [eu]
  have bu : Builtin.Int.intBits u ≤ 2 ^ 22 := by
    refine Nat.le_trans (PyProof.Rows.intBits_le (k := 30000) ?_) (by decide)
    have h1 : u.natAbs ≤ (Dr.pdv f a).natAbs := by
      rw [hs.fac.1, Int.natAbs_mul]
      have := pos d
      exact Nat.le_mul_of_pos_right _ (by omega)
    unfold Dr.Sm at bw
    omega
  refine ⟨cdiv (pos d) bd (by decide) _, hpp, bu, .inr hs.fac.2, fun y H2 hy g2 => ?_⟩
  have e1 : Int.toNat 1 = 1 := rfl
  rw [e1] at hy
  have hone : (u * y - 1) % p = 0 := by
    have := hy.one
    rwa [Int.pow_one] at this
  have hylo := hy.lo
  have hyhi : y < p := by have := hy.hi; rwa [Int.pow_one] at this
  (try dsimp only); (first | refine seqI ?_ | skip); try walk_at "dr2"; (try simp only [sp_power_of, sp_inverse_of, sp_worth_at, sp_slope_of]); try walk_at "dr2"
  refine ⟨by omega, by omega, by omega, by omega, ?_⟩
  have G2 := g1.trans g2
  obtain ⟨Pv, hPv⟩ : ∃ Pv : Nat → St → Hp → Prop, ∀ i σ H3, Pv i σ H3 ↔ (H3 = H2 ∧ ∃ (r : Int) (t9 t10 : Option V), Dr.Root p f a d (d + 1 + i) r ∧ σ = [some (.int p), some (.ref b), some (.int a), some (.int (d : Int)), some (.int N), some (.int (p ^ (d + 1 + i))), some (.int (p ^ (2 * d + 1 + i))), some (.int r), some (.int y), t9, t10]) := ⟨_, fun _ _ _ => Iff.rfl⟩
  refine forR Pv ((hPv _ _ _).mpr ⟨rfl, _, none, none, Dr.Root.start hp.1 hs, rfl⟩) ?_ ?_
  · intro i σ H3 hi z
    obtain ⟨rfl, r, t9, t10, hr, rfl⟩ := (hPv _ _ _).mp z
    have hi' : (d : Int) + 1 + i < N := by omega
    have br : Dr.Sm r 700 := by
      have h1 := hr.lo
      have h2 := hr.hi
      have h3 : Dr.Sm (p ^ (d + 1 + i)) 700 := (show Dr.Sm _ (10 * (d + 1 + i) + 1) from pow_bits hp _).mono (by omega)
      unfold Dr.Sm at h3 ⊢
      omega
    have e2 : p ^ (2 * d + 1 + i) = p ^ (d + 1 + i) * p ^ d := by rw [← Dr.pow_add']; congr 1; omega
    have bwp : Dr.Sm (p ^ (2 * d + 1 + i)) 4700 := by
      rw [e2]
      exact ((show Dr.Sm (p ^ (d + 1 + i)) 700 from (show Dr.Sm _ (10 * (d + 1 + i) + 1) from pow_bits hp _).mono (by omega)).mul bd).mono (by decide)
    have st := hr.step hp.1 hs hone (by omega)
    rw [show d + 1 + i + d = 2 * d + 1 + i by omega] at st
    (try dsimp only); (first | refine seqI ?_ | skip); try walk_at "dr2"; (try simp only [sp_power_of, sp_inverse_of, sp_worth_at, sp_slope_of]); try walk_at "dr2"
    refine ⟨f, G2.seq hS, by omega, m, hf, 700, br, by omega, by decide, cdiv (pos _) bwp (by decide) _, IntMulOk.of_right (intBits_le_64 (by omega) (by omega)), by omega, ?_⟩
    have ms := mod_in (-(Dr.pev f r / p ^ (2 * d + 1 + i)) * y) (show 0 < p by omega)
    generalize -(Dr.pev f r / p ^ (2 * d + 1 + i)) * y % p = s at ms st ⊢
    try walk_at "dr1"; (try simp only [sp_power_of, sp_inverse_of, sp_worth_at, sp_slope_of]); try walk_at "dr1"
    exact ⟨IntMulOk.of_left (intBits_le_64 (by omega) (by omega)), IntMulOk.of_right (intBits_le_64 (by omega) (by omega)), IntMulOk.of_right (intBits_le_64 (by omega) (by omega)), (hPv _ _ _).mpr ⟨rfl, _, _, _, st, by rw [show d + 1 + (i + 1) = (d + 1 + i) + 1 by omega, show 2 * d + 1 + (i + 1) = (2 * d + 1 + i) + 1 by omega, Int.pow_succ, Int.pow_succ]⟩⟩
  · intro σ H3 z
    obtain ⟨rfl, r, t9, t10, hr, rfl⟩ := (hPv _ _ _).mp z
    try walk_at "dr1"; (try simp only [sp_power_of, sp_inverse_of, sp_worth_at, sp_slope_of]); try walk_at "dr1"
    rw [show d + 1 + (N - ((d : Int) + 1)).toNat = N.toNat by omega] at hr
    exact q r H3 G2 hr
def sp_root_of (K : PySem.W.Frag) : Sp := fun vs H Q E => ∃ (p : Int) (b : Addr) (f : List Int) (a N : Int) (m n : Nat), vs = [.int p, .ref b, .int a, .int N] ∧ SqL K H b (f.map V.int) ∧ (0 < f.length ∧ f.length ≤ 13) ∧ p ∈ Dr.primes ∧ Dr.PolyB f m ∧ Dr.Sm a n ∧ (m ≤ 9000 ∧ n ≤ 1400) ∧ ((m ≤ 1000 ∧ n ≤ 200) ∨ ¬ Dr.pdv f a % p = 0 ∨ ∀ (d : Nat) (u : Int), Dr.Single p f a d u → Dr.Sm (p ^ d) 4000) ∧ (0 ≤ N ∧ N ≤ 60) ∧ ∀ H', Same H H' →
  (∀ (d : Nat) (u : Int), Dr.Single p f a d u → (N ≤ (d : Int) + 1 → Q (.int (a % p ^ N.toNat)) H') ∧ ((d : Int) + 1 < N → ∀ r : Int, Dr.Root p f a d N.toNat r → Q (.int r) H')) ∧ ((∀ (d : Nat) (u : Int), ¬ Dr.Single p f a d u) → E (.ref (clK K "NoSingle")) none H')
theorem single_sm {p : Int} {f : List Int} {a u : Int} {d m n : Nat} (hp : 2 ≤ p) (hl : 0 < f.length ∧ f.length ≤ 13) (hf : Dr.PolyB f m) (ha : Dr.Sm a n) (hmn : m ≤ 9000 ∧ n ≤ 1400) (hmu : (m ≤ 1000 ∧ n ≤ 200) ∨ ¬ Dr.pdv f a % p = 0 ∨ ∀ (d : Nat) (u : Int), Dr.Single p f a d u → Dr.Sm (p ^ d) 4000) (hs : Dr.Single p f a d u) : Dr.Sm (p ^ d) 4000 := by
  rcases hmu with hm | hu | hu
  case inr.inr => exact hu d u hs
  case inr.inl =>
    have d0 : d = 0 := by
      have := (hs.fac.dvd hp 1).mp
      refine Decidable.byContradiction fun z => hu ?_
      have := (hs.fac.dvd hp 1).mpr (by omega)
      rwa [Int.pow_succ, Int.pow_zero, Int.one_mul] at this
    rw [d0, Int.pow_zero]
    exact sm_of 1 (by decide) (Nat.one_lt_two_pow (by decide))
  have bw : Dr.Sm (Dr.pdv f a) 4000 := by
    rw [← Dr.pev_slope hl.1]
    have sl : (Dr.pslope f).length ≤ 12 := by rw [Dr.pslope_len hl.1]; omega
    refine (ha.pev (slope_b ⟨hl.1, by omega⟩ hf)).mono ?_
    have : (Dr.pslope f).length * (n + 1) ≤ 12 * 201 := Nat.mul_le_mul sl (by omega)
    omega
  have := hs.fac.pow_le hp
  unfold Dr.Sm at bw ⊢
  omega
theorem ok_root_of (B : Bi mg K) (d_power_of : Def P w K mg base "power_of" 1 ["p", "e"] (sp_power_of K)) (d_single_depth : Def P w K mg base "single_depth" 2 ["p", "f", "a"] (sp_single_depth K)) (d_deepened : Def P w K mg base "deepened" 3 ["p", "f", "a", "d", "N"] (sp_deepened K)) (F : Fun K "root_of" "root_of" s_root_of f fd) : FnOk P w K mg base (CXE P w) 4 f fd ["p", "f", "a", "N"] (sp_root_of K) := by
  refine F.okE S_root_of (fun vs H Q E h => ?_) (fun cdv A outer s H vs Q E hr h => ?_)
  · obtain ⟨p, b, f, a, N, m, n, rfl, _⟩ := h
    rfl
  obtain ⟨p, b, f, a, N, m, n, rfl, hS, hl, hpp, hf, ha, hmn, hmu, hN, q⟩ := h
  have S := S_root_of
  have p2 := Dr.primes_ge hpp
  have hp : 2 ≤ p ∧ p < 1000 := by omega
  refine ⟨_, ((pss_cons (ps_set (i := 4) S.nd rfl (Or.inl rfl) (pe_def d_single_depth hr rfl (pa_cons (pv 0) (pa_cons (pv 1) (pa_cons (pv 2) pa_nil)))))
    (pss_cons (ps_if (pt_cmpR op_isN (pv 4) pe_non (nomark _)) (pss_one (ps_raise thrE rfl rfl B.c_NoSingle B.x_NoSingle (pa_cons pe_str pa_nil))) pss_nil)
    (pss_cons (ps_if (pt_cmpR op_le (pv 3) (pe_op op_add (pv 4) pe_int) (nomark _)) (pss_one (ps_ret (pe_op op_mod (pv 2) (pe_def d_power_of hr rfl (pa_cons (pv 0) (pa_cons (pv 3) pa_nil)))))) pss_nil)
    (pss_one (ps_ret (pe_def d_deepened hr rfl (pa_cons (pv 0) (pa_cons (pv 1) (pa_cons (pv 2) (pa_cons (pv 4) (pa_cons (pv 3) pa_nil)))))))))))), ?_⟩
  (try dsimp only); (first | refine seqI ?_ | skip); try walk_at "dr2"; (try simp only [sp_power_of, sp_single_depth, sp_deepened]); try walk_at "dr2"
  refine ⟨f, hS, by omega, by omega, m, hf, n, ha, by omega, by omega, hp.1, hp.2, fun H1 g1 => ⟨fun d u hd hd1 => ?_, fun hno => ?_⟩⟩
  · (try dsimp only); (first | refine seqI ?_ | skip); try walk_at "dr2"; (try simp only [sp_power_of, sp_single_depth, sp_deepened]); try walk_at "dr2"
    (try dsimp only); (first | refine seqI ?_ | skip); try walk_at "dr2"; (try simp only [sp_power_of, sp_single_depth, sp_deepened]); try walk_at "dr2"
    refine ite2 (fun c0 => ?_) (fun c0 => ?_)
    · exact ⟨hp.1, hp.2, by omega, by omega, Dr.pow_pos hp.1 _, ((q H1 g1).1 d u hd).1 c0⟩
    · exact ⟨f, N, d, rfl, rfl, g1.seq hS, by omega, by omega, hpp, m, hf, n, ha, by omega, by omega, ⟨u, hd⟩, single_sm hp.1 hl hf ha hmn hmu hd, by omega, by omega, fun r H2 g2 hr => ((q H2 (g1.trans g2)).1 d u hd).2 (by omega) r hr⟩
  · (try dsimp only); (first | refine seqI ?_ | skip); try walk_at "dr2"; (try simp only [sp_power_of, sp_single_depth, sp_deepened]); try walk_at "dr2"
    exact ⟨by decide, (q H1 g1).2 hno⟩
def spN_roots_within (K : PySem.W.Frag) (n : Nat) : Sp := fun vs H Q E => ∃ (p a e' N' : Int) (e N : Nat) (b : Addr) (s : List Int) (m : Nat), vs = [.int p, .int a, .int e', .ref b, .int N'] ∧ e' = (e : Int) ∧ N' = (N : Int) ∧ SqL K H b (s.map V.int) ∧ (0 < s.length ∧ s.length ≤ 13) ∧ p ∈ Dr.primes ∧ (0 ≤ a ∧ a < p ^ e) ∧ (e + n = 60 ∧ N ≤ 60) ∧ Dr.PolyB s m ∧ m + 104 * n ≤ 8800 ∧
  ((∀ x, x ∈ s → x = 0) → 0 < n → ∀ H', Same H H' → E (.ref (clK K "NoDepth")) none H') ∧ (Dr.Deep p n s → (0 < n → ∃ x, x ∈ s ∧ x ≠ 0) → ∀ H', Same H H' → E (.ref (clK K "TooDeep")) none H') ∧
  ∀ (c : Addr) (L : List Int) (H' : Hp), Dr.Found p N n a e s L → H c = none → Same H H' → H' c = some (.lst (L.map V.int)) → Q (.ref c) H'
abbrev sp_roots_within (K : PySem.W.Frag) : Sp := spN_roots_within K 60
theorem fl_few {p a : Int} {N n e : Nat} {s : List Int} {c : Nat} {rs L : List Int} (hp : p ∈ Dr.primes) (hc : Dr.IsCont p s c) (fl : Dr.FL p N (Dr.Found p N n) a e (Dr.pdiv (p ^ c) s) rs L) (hr : ∀ r, r ∈ rs → Dr.pev (Dr.pdiv (p ^ c) s) r % p = 0) (ap : rs.Pairwise fun r s => (s - r) % p ≠ 0) : L.length < s.length := by
  have p2 := Dr.primes_ge hp
  obtain ⟨m, hl, hm⟩ := Dr.degP_ex _ (Dr.cont_free hc)
  obtain ⟨R, e1, e2, e3⟩ := Dr.FL.len (by omega) (fun h => Dr.Found.len hp h) fl hr
  have := Dr.noughts hp m _ R hm (by rw [e1]; exact ap) e3
  rw [Dr.pdiv_len] at hl
  omega
theorem rootAt_small {p x : Int} {g : List Int} {M : Nat} (hp : 2 ≤ p) (hM : M ≤ 1) (h : Dr.pev g x % p = 0) : Dr.RootAt p g x M (x % p ^ M) := by
  have q0 := Dr.pow_pos hp M
  have e1 := Dr.rest_sub (p ^ M) x
  have hw : Dr.pev g x % p ^ M = 0 := Dr.dvd_of_le (p := p) (k := 1) (by rw [Int.pow_succ, Int.pow_zero, Int.one_mul]; exact h) hM
  refine ⟨Int.emod_nonneg _ (by omega), Int.emod_lt_of_pos _ q0, ?_, ?_⟩
  · by_cases c : M = 0
    · exact .inl c
    · obtain rfl : M = 1 := by omega
      rw [Int.pow_succ, Int.pow_zero, Int.one_mul] at e1 ⊢
      exact .inr e1
  · have := Dr.dvd_add_of (Dr.pev_cong g e1) hw
    rwa [Int.sub_add_cancel] at this
theorem rootAt_of {p x r : Int} {g : List Int} {M : Nat} (h : Dr.Root p g x 0 M r) : Dr.RootAt p g x M r := by
  have n := h.near
  rw [Nat.zero_add, Int.pow_succ, Int.pow_zero, Int.one_mul] at n
  exact ⟨h.lo, h.hi, .inr n, h.deep⟩
theorem ok_roots_within (B : Bi mg K) (d_power_of : Def P w K mg base "power_of" 1 ["p", "e"] (sp_power_of K)) (d_worth_at : Def P w K mg base "worth_at" 1 ["f", "x"] (sp_worth_at K)) (d_slope_of : Def P w K mg base "slope_of" 1 ["f"] (sp_slope_of K)) (d_seen_from : Def P w K mg base "seen_from" 2 ["p", "f", "a", "e"] (sp_seen_from K)) (d_without_content : DefE P w K mg base "without_content" 3 ["p", "f"] (sp_without_content K)) (d_rests_by_prime : Def P w K mg base "rests_by_prime" 2 ["p", "f"] (sp_rests_by_prime K)) (d_root_of : DefE P w K mg base "root_of" 4 ["p", "f", "a", "N"] (sp_root_of K)) {n : Nat} (d_roots_within : DefE P w K mg base "roots_within" (4 + n) ["p", "a", "e", "seen", "N"] (prevSp (spN_roots_within K) n)) (F : Fun K "roots_within" "roots_within" s_roots_within f fd) : FnOk P w K mg base (CXE P w) (4 + n + 1) f fd ["p", "a", "e", "seen", "N"] (spN_roots_within K n) := by
  refine F.okE S_roots_within (fun vs H Q E h => ?_) (fun cdv A outer s H vs Q E hr h => ?_)
  · obtain ⟨p, a, e', N', e, N, b, s, m, rfl, _⟩ := h
    rfl
  obtain ⟨p, a, e', N', e, N, b, s, m, rfl, rfl, rfl, hS, hl, hp, ha, heN, hb, hm, qz, qd, q⟩ := h
  have S := S_roots_within
  obtain ⟨_, g_GREATEST_DEPTH⟩ := B.g_GREATEST_DEPTH
  have p2 := Dr.primes_ge hp
  have hpp : 2 ≤ p ∧ p < 1000 := by omega
  refine ⟨_, ((pss_cons (ps_if (pt_cmpR op_eq (pv 2) (pe_glob (v := .int 60) rfl g_GREATEST_DEPTH ⟨_, rfl⟩) (nomark _)) (pss_one (ps_raise thrE rfl rfl B.c_TooDeep B.x_TooDeep (pa_cons pe_str pa_nil))) pss_nil)
    (pss_cons (ps_set (i := 5) S.nd rfl (Or.inl rfl) (pe_defE passE d_without_content hr rfl (pa_cons (pv 0) (pa_cons (pv 3) pa_nil)) (hjk := by omega)))
    (pss_cons (ps_set (i := 6) S.nd rfl (Or.inl rfl) (pe_def d_slope_of hr rfl (pa_cons (pv 5) pa_nil) (hjk := by omega)))
    (pss_cons (ps_set (i := 7) S.nd rfl (Or.inl rfl) (pe_def d_power_of hr rfl (pa_cons (pv 0) (pa_cons (pv 2) pa_nil)) (hjk := by omega)))
    (pss_cons (ps_set (i := 8) S.nd rfl (Or.inl rfl) (pe_lst pa_nil))
    (pss_cons (ps_for PassesOwn.leaving rfl (pi_list (pe_def d_rests_by_prime hr rfl (pa_cons (pv 0) (pa_cons (pv 5) pa_nil)) (hjk := by omega))) (pg_name (i := 9) S.nd rfl (Or.inl rfl)) (pss_one (ps_if (pt_cmpR op_eq (pe_op op_mod (pe_def d_worth_at hr rfl (pa_cons (pv 6) (pa_cons (pv 9) pa_nil)) (hjk := by omega)) (pv 0)) pe_int (nomark _)) (pss_one (ps_expr (pe_bm PySem.F.plainAttrs_list PySem.F.slot_list_extend PySem.F.type_list_extend mt_extend (pv 8) (pa_cons (pe_defE passE d_roots_within hr rfl (pa_cons (pv 0) (pa_cons (pe_op op_add (pv 1) (pe_op op_mulW (pv 9) (pv 7))) (pa_cons (pe_op op_add (pv 2) pe_int) (pa_cons (pe_def d_seen_from hr rfl (pa_cons (pv 0) (pa_cons (pv 5) (pa_cons (pv 9) (pa_cons pe_int pa_nil)))) (hjk := by omega)) (pa_cons (pv 4) pa_nil))))) (hjk := by omega)) pa_nil)))) (pss_cons (ps_set (i := 10) S.nd rfl (Or.inl rfl) (pe_op op_add (pv 1) (pe_op op_mulW (pv 7) (pe_defE passE d_root_of hr rfl (pa_cons (pv 0) (pa_cons (pv 5) (pa_cons (pv 9) (pa_cons (pe_callB (call_max2 rfl) rfl B.b_max L2.bt_max (pa_cons (pe_op op_sub (pv 4) (pv 2)) (pa_cons pe_int pa_nil))) pa_nil)))) (hjk := by omega)))))
    (pss_one (ps_expr (pe_bm PySem.F.plainAttrs_list PySem.F.slot_list_append PySem.F.type_list_append mt_append (pv 8) (pa_cons (pe_op op_mod (pv 10) (pe_def d_power_of hr rfl (pa_cons (pv 0) (pa_cons (pv 4) pa_nil)) (hjk := by omega))) pa_nil))))))))
    (pss_one (ps_ret (pv 8)))))))))), ?_⟩
  (try dsimp only); (first | refine seqI ?_ | skip); try walk_at "dr2"; (try simp only [sp_power_of, sp_worth_at, sp_slope_of, sp_seen_from, sp_without_content, sp_rests_by_prime, sp_root_of]); try walk_at "dr2"
  refine ite2 (fun c0 => ?_) (fun c0 => ?_)
  · obtain rfl : n = 0 := by omega
    exact ⟨by decide, qd trivial (fun z => absurd z (by omega)) H (Same.refl _)⟩
  obtain ⟨n', rfl⟩ : ∃ n', n = n' + 1 := ⟨n - 1, by omega⟩
  (try dsimp only); (first | refine seqI ?_ | skip); try walk_at "dr2"; (try simp only [sp_power_of, sp_worth_at, sp_slope_of, sp_seen_from, sp_without_content, sp_rests_by_prime, sp_root_of]); try walk_at "dr2"
  refine ⟨s, hS, by omega, hpp.1, hpp.2, m, hb, by omega, fun z H1 g1 => qz z (by omega) H1 g1, fun hnz c r H1 hc nr g1 k1 => ?_⟩
  have q0 := Dr.pow_pos hpp.1 c
  have bfr := Dr.pdiv_bits q0 hc.1 hb
  have lfr : (Dr.pdiv (p ^ c) s).length = s.length := Dr.pdiv_len ..
  (try dsimp only); (first | refine seqI ?_ | skip); try walk_at "dr2"; (try simp only [sp_power_of, sp_worth_at, sp_slope_of, sp_seen_from, sp_without_content, sp_rests_by_prime, sp_root_of]); try walk_at "dr2"
  refine ⟨_, SqL.of k1, by omega, by omega, m, bfr, by omega, fun ls H2 hsb _ g2 k2 => ?_⟩
  (try dsimp only); (first | refine seqI ?_ | skip); try walk_at "dr2"; (try simp only [sp_power_of, sp_worth_at, sp_slope_of, sp_seen_from, sp_without_content, sp_rests_by_prime, sp_root_of]); try walk_at "dr2"
  refine ⟨hpp.1, hpp.2, by omega, by omega, ?_⟩
  rw [Int.toNat_natCast]
  (try dsimp only); (first | refine seqI ?_ | skip); try walk_at "dr2"; (try simp only [sp_power_of, sp_worth_at, sp_slope_of, sp_seen_from, sp_without_content, sp_rests_by_prime, sp_root_of]); try walk_at "dr2"
  refine ⟨by decide, ?_⟩
  intro lb n_lb; generalize e_lb : upd _ lb _ = H4; obtain ⟨g4, k4⟩ := newH e_lb n_lb; clear e_lb
  have G4 := (g1.trans g2).trans g4
  (try dsimp only); (first | refine seqI ?_ | skip); try walk_at "dr2"; (try simp only [sp_power_of, sp_worth_at, sp_slope_of, sp_seen_from, sp_without_content, sp_rests_by_prime, sp_root_of]); try walk_at "dr2"
  refine ⟨_, SqL.of (g4 _ _ (g2 _ _ k1)), by omega, hpp.1, hpp.2, fun rr H5 nrr g5 k5 => ?_⟩
  have G5 := G4.trans g5
  have kr := g5 _ _ (g4 _ _ (g2 _ _ k1))
  have ks := g5 _ _ (g4 _ _ k2)
  have klb := g5 _ _ k4
  have nlb : H lb = none := (g1.trans g2).free n_lb
  have nrlb : r ≠ lb := fun z => by rw [z] at k1; rw [g2 _ _ k1] at n_lb; cases n_lb
  have nslb : ls ≠ lb := fun z => by rw [z, n_lb] at k2; cases k2
  have nrrlb : rr ≠ lb := fun z => by rw [z, k4] at nrr; cases nrr
  obtain ⟨fr, efr⟩ : ∃ fr, fr = Dr.pdiv (p ^ c) s := ⟨_, rfl⟩
  obtain ⟨rs, ers⟩ : ∃ rs, rs = restsOf p fr := ⟨_, rfl⟩
  rw [← efr] at kr ks k5 bfr lfr hsb
  rw [← ers] at k5
  have hrs : ∀ x, x ∈ rs → (0 ≤ x ∧ x < p) ∧ Dr.pev fr x % p = 0 := fun x hx => by
    rw [ers] at hx
    exact (Dr.restsP_mem (by omega)).mp hx
  have hap : rs.Pairwise (fun r s => (s - r) % p ≠ 0) := by
    rw [ers]
    exact Dr.rests_apart _ (by omega)
  have fr0 : ∃ x, x ∈ fr ∧ x ≠ 0 := by
    obtain ⟨x, hx, x0⟩ := Dr.cont_free hc
    rw [← efr] at hx
    exact ⟨x, hx, fun z => x0 (by rw [z]; simp)⟩
  have sll : (Dr.pslope fr).length ≤ 13 := by rw [Dr.pslope_len (by omega)]; omega
  clear k1 k2 k4 g4 g5 g2 g1
  refine ⟨⟨_, SqL.of k5⟩, ?_⟩
  obtain ⟨Pv, hPv⟩ : ∃ Pv : Nat → St → Hp → Prop, ∀ i σ H6, Pv i σ H6 ↔ ((∀ b u, b ≠ lb → H5 b = some u → H6 b = some u) ∧ ∃ (L : List Int) (t9 t10 : Option V), H6 lb = some (.lst (L.map V.int)) ∧ Dr.FL p N (Dr.Found p N n') a e fr (rs.take i) L ∧ σ = [some (V.int p), some (V.int a), some (V.int ↑e), some (V.ref b), some (V.int ↑N), some (V.ref r), some (V.ref ls), some (V.int (p ^ e)), some (V.ref lb), t9, t10]) := ⟨_, fun _ _ _ => Iff.rfl⟩
  refine forI rs Pv ((hPv _ _ _).mpr ⟨fun b u _ h => h, [], none, none, klb, by rw [List.take_zero]; exact .nil, rfl⟩) (fun i σ H6 z => by obtain ⟨k6, _⟩ := (hPv _ _ _).mp z; exact SqL.of (k6 _ _ nrrlb k5)) ?_ ?_
  · intro i x σ H6 hx z
    obtain ⟨k6, L, t9, t10, kb, fl, rfl⟩ := (hPv _ _ _).mp z
    obtain ⟨hx1, hx2⟩ := hrs x (List.mem_of_getElem? hx)
    have e1 : p ^ Int.toNat 1 = p := by show p ^ 1 = p; rw [Int.pow_succ, Int.pow_zero, Int.one_mul]
    have tk : rs.take (i + 1) = rs.take i ++ [x] := by rw [List.take_add_one, hx]; rfl
    have few := fl_few hp hc (efr ▸ fl) (fun y hy => efr ▸ (hrs y (List.mem_of_mem_take hy)).2) (hap.sublist (List.take_sublist ..))
    have bx : Dr.Sm x 11 := sm_of 1000 (by omega) (by decide)
    have GH : Same H H6 := fun b u hb => k6 b u (fun z => by rw [z, nlb] at hb; cases hb) (G5 b u hb)
    (try dsimp only); (first | refine seqI ?_ | skip); try walk_at "dr2"; (try simp only [sp_power_of, sp_worth_at, sp_slope_of, sp_seen_from, sp_without_content, sp_rests_by_prime, sp_root_of]); try walk_at "dr2"
    refine ⟨Dr.pslope fr, SqL.of (k6 _ _ nslb ks), by omega, m + 6, hsb, 11, bx, by omega, by decide, by omega, ?_⟩
    rw [Dr.pev_slope (by omega)]
    refine ite2 (fun ck => ?_) (fun ck => ?_)
    · refine ⟨⟨_, SqL.of kb⟩, IntMulOk.of_left (intBits_le_64 (by omega) (by omega)), fr, SqL.of (k6 _ _ nrlb kr), by omega, by omega, hpp.1, hpp.2, m, bfr, 11, bx, by decide, by decide, by omega, fun c3 s1 H7 hs1 _ nc g7 k7 => ?_⟩
      rw [e1] at hs1
      have hsl := hs1.len
      rw [prevSp]
      have s1n := Dr.seen_ne (by omega) hs1 fr0
      refine ⟨p, a + x * p ^ e, (e : Int) + 1, (N : Int), e + 1, N, c3, s1, m + 8 * fr.length, rfl, by omega, rfl, SqL.of k7, by omega, hp, Dr.ball_next hpp.1 ha hx1, by omega, Dr.seen_bits hs1 (by omega) (by omega) bfr, by omega, fun z => ?_, fun hd _ H8 g8 => qd ⟨c, x, s1, hc, hx1, efr ▸ hx2, efr ▸ ck, efr ▸ hs1, hd⟩ (fun _ => hnz) H8 (GH.trans (g7.trans g8)), fun c2 L2 H8 hf nc2 g8 k8 => ?_⟩
      · obtain ⟨y, hy, y0⟩ := s1n
        exact absurd (z y hy) y0
      · have kb8 := g8 _ _ (g7 _ _ kb)
        have l2 := hf.few hp
        refine ⟨c2, rfl, _, kb8, _, k8, by rw [List.length_map, List.length_map]; unfold sizeLine; omega, (hPv _ _ _).mpr ⟨fun b u hb h => by rw [upd_ne hb]; exact g8 _ _ (g7 _ _ (k6 b u hb h)), L ++ L2, _, _, by rw [upd_same, List.map_append], ?_, rfl⟩⟩
        rw [tk]
        exact .knot fl ck hs1 hf
    · have sg : Dr.Single p fr x 0 (Dr.pdv fr x) := ⟨⟨by simp, ck⟩, by rw [Nat.mul_zero, Nat.zero_add, Int.pow_succ, Int.pow_zero, Int.one_mul]; exact hx2⟩
      obtain ⟨M', eM⟩ : ∃ M' : Int, M' = if (0 : Int) > (N : Int) - (e : Int) then 0 else (N : Int) - (e : Int) := ⟨_, rfl⟩
      have bM : M'.toNat = N - e ∧ 0 ≤ M' ∧ M' ≤ 60 := by
        rw [eM]
        split <;> omega
      have bpe : Dr.Sm (p ^ e) 611 := (show Dr.Sm (p ^ e) (10 * e + 1) from pow_bits hpp _).mono (by omega)
      have bpm : Dr.Sm (p ^ (N - e)) 611 := (show Dr.Sm (p ^ (N - e)) (10 * (N - e) + 1) from pow_bits hpp _).mono (by omega)
      have fin : ∀ (y : Int) (H7 : Hp), Same H6 H7 → Dr.RootAt p fr x (N - e) y → IntMulOk (p ^ e) y ∧ (∃ xs, SqL K H7 lb xs) ∧ 2 ≤ p ∧ p < 1000 ∧ 0 ≤ (N : Int) ∧ (N : Int) < 100000 ∧ 0 < p ^ (N : Int).toNat ∧ ∃ x_4, H7 lb = some (.lst x_4) ∧ x_4.length < sizeLine ∧ Pv (i + 1) [some (V.int p), some (V.int a), some (V.int ↑e), some (V.ref b), some (V.int ↑N), some (V.ref r), some (V.ref ls), some (V.int (p ^ e)), some (V.ref lb), some (V.int x), some (V.int (a + p ^ e * y))] (upd H7 lb (.lst (x_4 ++ [V.int ((a + p ^ e * y) % p ^ (N : Int).toNat)]))) := fun y H7 g7 hy => by
        have by_ : Dr.Sm y 611 := by
          have h1 := hy.lo
          have h2 := hy.hi
          unfold Dr.Sm at bpm ⊢
          omega
        refine ⟨mulSm bpe by_ (by decide), ⟨_, SqL.of (g7 _ _ kb)⟩, hpp.1, hpp.2, by omega, by omega, Dr.pow_pos hpp.1 _, _, g7 _ _ kb, by rw [List.length_map]; unfold sizeLine; omega, (hPv _ _ _).mpr ⟨fun b u hb h => by rw [upd_ne hb]; exact g7 _ _ (k6 b u hb h), L ++ [(a + p ^ e * y) % p ^ N], _, _, by rw [upd_same, List.map_append, Int.toNat_natCast]; rfl, ?_, rfl⟩⟩
        rw [tk]
        exact .leaf fl ck hy
      (try dsimp only); (first | refine seqI ?_ | skip); try walk_at "dr2"; (try simp only [sp_power_of, sp_worth_at, sp_slope_of, sp_seen_from, sp_without_content, sp_rests_by_prime, sp_root_of]); try walk_at "dr2"
      rw [← eM]
      refine ⟨fr, SqL.of (k6 _ _ nrlb kr), by omega, by omega, hp, m, bfr, 11, bx, by omega, by decide, .inr (.inl ck), bM.2.1, bM.2.2, fun H7 g7 => ⟨fun d u hd => ?_, fun hno => absurd sg (hno _ _)⟩⟩
      obtain rfl := (hd.fac.uniq hpp.1 sg.fac).1
      refine ⟨fun hle => fin _ H7 g7 ?_, fun hlt y hy => fin y H7 g7 ?_⟩
      · rw [bM.1]
        exact rootAt_small hpp.1 (by omega) hx2
      · rw [bM.1] at hy
        exact rootAt_of hy
  · intro σ H6 z
    obtain ⟨k6, L, t9, t10, kb, fl, rfl⟩ := (hPv _ _ _).mp z
    rw [List.take_length] at fl
    try walk_at "dr1"; (try simp only [sp_power_of, sp_worth_at, sp_slope_of, sp_seen_from, sp_without_content, sp_rests_by_prime, sp_root_of]); try walk_at "dr1"
    refine q lb L H6 ⟨c, hc, ?_⟩ nlb (fun b u hb => k6 b u (fun z => by rw [z, nlb] at hb; cases hb) (G5 b u hb)) kb
    rw [efr, ers, efr] at fl
    exact fl
def sp_endless_roots (K : PySem.W.Frag) : Sp := fun vs H Q E => ∃ (p : Int) (b : Addr) (f : List Int) (N : Int) (m : Nat), vs = [.int p, .ref b, .int N] ∧ SqL K H b (f.map V.int) ∧ (0 < f.length ∧ f.length ≤ 13) ∧ p ∈ Dr.primes ∧ (0 ≤ N ∧ N ≤ 60) ∧ Dr.PolyB f m ∧ m ≤ 2560 ∧
  ((∀ x, x ∈ f → x = 0) → ∀ H', Same H H' → E (.ref (clK K "NoDepth")) none H') ∧ (Dr.Deep p 60 f → (∃ x, x ∈ f ∧ x ≠ 0) → ∀ H', Same H H' → E (.ref (clK K "TooDeep")) none H') ∧
  ∀ (c : Addr) (L M : List Int) (H' : Hp), Dr.Found p N.toNat 60 0 0 f M → L.Perm M → L.Pairwise (· ≤ ·) → H c = none → Same H H' → H' c = some (.lst (L.map V.int)) → Q (.ref c) H'
theorem ok_endless_roots (B : Bi mg K) (d_roots_within : DefE P w K mg base "roots_within" 65 ["p", "a", "e", "seen", "N"] (sp_roots_within K)) (F : Fun K "endless_roots" "endless_roots" s_endless_roots f fd) : FnOk P w K mg base (CXE P w) 66 f fd ["p", "f", "N"] (sp_endless_roots K) := by
  refine F.okE S_endless_roots (fun vs H Q E h => ?_) (fun cdv A outer s H vs Q E hr h => ?_)
  · obtain ⟨p, b, f, N, m, rfl, _⟩ := h
    rfl
  obtain ⟨p, b, f, N, m, rfl, hS, hl, hp, hN, hb, hm, qz, qd, q⟩ := h
  have S := S_endless_roots
  refine ⟨_, ((pss_one (ps_ret (pe_callB (call_sortedI rfl) rfl B.b_sorted bt_sorted (pa_cons (pe_defE passE d_roots_within hr rfl (pa_cons (pv 0) (pa_cons pe_int (pa_cons pe_int (pa_cons (pv 1) (pa_cons (pv 2) pa_nil)))))) pa_nil))))), ?_⟩
  have p2 := Dr.primes_ge hp
  try walk_at "dr1"; (try simp only [sp_roots_within]); try walk_at "dr1"
  refine ⟨p, 0, 0, N, 0, N.toNat, b, f, m, rfl, rfl, (Int.toNat_of_nonneg hN.1).symm, hS, hl, hp, by simp, by omega, hb, by omega, fun z _ => qz z, fun d hz => qd d (hz (by decide)), fun c L H1 hf nc g1 k1 => ?_⟩
  have few := hf.few hp
  refine ⟨c, rfl, L, SqL.of k1, by omega, fun ms hms hso => ?_⟩
  intro l n_l; generalize e_l : upd _ l _ = H2; obtain ⟨g2, k2⟩ := newH e_l n_l; clear e_l
  exact q l ms L H2 hf hms hso (g1.free n_l) (g1.trans g2) k2
theorem sorted_eq : ∀ {L M : List Int}, L.Pairwise (· ≤ ·) → M.Pairwise (· ≤ ·) → L.Perm M → L = M
  | [], M, _, _, h => (List.Perm.nil_eq h)
  | x :: L, M, hL, hM, h => by
    have hx : x ∈ M := h.mem_iff.mp (List.mem_cons_self ..)
    match M, hM, h, hx with
    | y :: M, hM, h, hx =>
      obtain ⟨l1, l2⟩ := List.pairwise_cons.mp hL
      obtain ⟨m1, m2⟩ := List.pairwise_cons.mp hM
      have e : x = y := by
        have h1 : y ≤ x := by
          rcases List.mem_cons.mp hx with z | z
          · omega
          · exact m1 x z
        have h2 : x ≤ y := by
          rcases List.mem_cons.mp (h.mem_iff.mpr (List.mem_cons_self ..)) with z | z
          · omega
          · exact l1 y z
        omega
      subst e
      rw [sorted_eq l2 m2 (List.Perm.cons_inv h)]
def cellz (ns : List Int) (k : Int) : Int := if k < ns.length then ns.getD k.toNat 0 else 0
def sp__law_cell_at (K : PySem.W.Frag) : Sp := fun vs H Q _ => ∃ (a : Addr) (ns : List Int) (k : Int), vs = [.ref a, .int k] ∧ SqL K H a (ns.map V.int) ∧ ns.length ≤ 63 ∧ (0 ≤ k ∧ k < 1000) ∧ Q (.int (cellz ns k)) H
theorem ok__law_cell_at (B : Bi mg K) (F : Fun K "_law_cell_at" "_law_cell_at" s__law_cell_at f fd) : FnOk P w K mg base CX0 1 f fd ["script", "k"] (sp__law_cell_at K) := by
  refine F.ok S__law_cell_at (fun vs H Q E h => ?_) (fun cdv A outer s H vs Q E hr h => ?_)
  · obtain ⟨a, ns, k, rfl, _⟩ := h
    rfl
  obtain ⟨a, ns, k, rfl, hS, hl, hk, q⟩ := h
  have S := S__law_cell_at
  refine ⟨_, ((pss_cons (ps_if (pt_cmpR op_lt (pv 1) (pe_callB call_len_seq rfl B.b_len PySem.boot_len (pa_cons (pv 0) pa_nil)) (nomark _)) (pss_one (ps_ret (pe_ix ix_list (pv 0) (pv 1) (fun _ _ => rfl)))) pss_nil)
    (pss_one (ps_ret pe_int)))), ?_⟩
  try walk_at "dr1"
  refine ⟨_, .inl hS, ?_⟩
  simp only [List.length_map]
  unfold cellz at q
  refine ite2 (fun c => ?_) (fun c => ?_)
  · rw [if_pos c] at q
    exact ⟨_, hS, _, atI_ints hk.1 c, q⟩
  · rw [if_neg c] at q
    exact q
theorem cellz_sh {ns : List Int} (h : ∀ n, n ∈ ns → Builtin.Int.intBits n ≤ 2 ^ 20) {k : Int} (hk : 0 ≤ k) : Sh (cellz ns k) := by
  unfold cellz
  split
  · exact Nat.le_trans (h _ (getD_in hk (by assumption))) (by decide)
  · show Builtin.Int.intBits 0 ≤ _
    decide
theorem sh_plus {x k : Int} {m : Int} (h : Builtin.Int.intBits x ≤ 2 ^ 20) (hm : 0 < m) (hk : 0 ≤ k ∧ k < 1000) : Sh (x / m + k) := by
  have h1 : Builtin.Int.intBits (x / m) ≤ 2 ^ 20 := by
    have : x / m = x.fdiv m := (Int.fdiv_eq_ediv_of_nonneg x (by omega)).symm
    rw [this]
    exact PySem.intBits_fdiv_le h
  have h2 : Builtin.Int.intBits k ≤ 64 := intBits_le_64 (by omega) (by omega)
  exact Nat.le_trans (PySem.intBits_add_le h1 h2) (by omega)
theorem sh_of {x : Int} (h : Builtin.Int.intBits x ≤ 2 ^ 20) : Sh x := Nat.le_trans h (by decide)
theorem bits_take {ns : List Int} (h : ∀ n, n ∈ ns → Builtin.Int.intBits n ≤ 2 ^ 20) (k : Nat) : ∀ n, n ∈ ns.take k → Builtin.Int.intBits n ≤ 2 ^ 20 := fun n hn => h n (List.mem_of_mem_take hn)
def sp__law_prime (_ : PySem.W.Frag) : Sp := fun vs H Q _ => ∃ (c : Int), vs = [.int c] ∧ ∀ (p : Int) (H' : Hp), p ∈ Dr.primes → Same H H' → Q (.int p) H'
theorem body__law_prime : ∃ (s1 s2 s3 : Stmt) (e1 : List Expr) (p1 p2 p3 p4 p5 p6 p7 p8 p9 p10 p11 p12 p13 p14 p15 p16 p17 p18 p19 p20 p21 p22 p23 p24 p25 : Pos), defBody s__law_prime = [s1, s2, s3] ∧
    s1 = .Assign [.Name "primes" p1] (.List e1 p2) p3 ∧ cInts e1 = some Dr.primes ∧
    s2 = .If (.Compare (.BinOp (.Name "cell" p4) .Mod (.Constant (.int 2) 0 p5) p6) [.Eq] [.Constant (.int 0) 0 p7] p8) [.Return (some (.Subscript (.Name "primes" p9) (.BinOp (.BinOp (.Name "cell" p10) .FloorDiv (.Constant (.int 2) 0 p11) p12) .Mod (.Constant (.int 4) 0 p13) p14) p15)) p16] [] p17 ∧
    s3 = .Return (some (.Subscript (.Name "primes" p18) (.BinOp (.BinOp (.Name "cell" p19) .FloorDiv (.Constant (.int 2) 0 p20) p21) .Mod (.Constant (.int 25) 0 p22) p23) p24)) p25 :=
  ⟨_, _, _, _, _, _, _, _, _, _, _, _, _, _, _, _, _, _, _, _, _, _, _, _, _, _, _, _, _, rfl, rfl, rfl, rfl, rfl⟩
theorem ok__law_prime (B : Bi mg K) (F : Fun K "_law_prime" "_law_prime" s__law_prime f fd) : FnOk P w K mg base CX0 1 f fd ["cell"] (sp__law_prime K) := by
  refine F.ok S__law_prime (fun vs H Q E h => ?_) (fun cdv A outer s H vs Q E hr h => ?_)
  · obtain ⟨c, rfl, _⟩ := h
    rfl
  obtain ⟨c, rfl, q⟩ := h
  have S := S__law_prime
  obtain ⟨s1, s2, s3, e1, p1, p2, p3, p4, p5, p6, p7, p8, p9, p10, p11, p12, p13, p14, p15, p16, p17, p18, p19, p20, p21, p22, p23, p24, p25, hb, h1, c1, h2, h3⟩ := body__law_prime
  rw [hb]
  refine ⟨_, (pss_cons (ps_setInts (i := 1) h1 c1 S.nd rfl (Or.inl rfl) (Or.inr rfl))
    (pss_cons (ps_eq h2 (ps_if (pt_cmpR op_eq (pe_op op_mod (pv 0) pe_int) pe_int (nomark _)) (pss_one (ps_ret (pe_ix ix_list (pv 1) (pe_op op_mod (pe_op op_fdivW (pv 0) pe_int) pe_int) (fun _ _ => rfl)))) pss_nil))
    (pss_one (ps_eq h3 (ps_ret (pe_ix ix_list (pv 1) (pe_op op_mod (pe_op op_fdivW (pv 0) pe_int) pe_int) (fun _ _ => rfl))))))), ?_⟩
  refine ⟨(by show 25 ≤ sizeLine; decide), fun l hl => ?_⟩
  refine ⟨_, rfl, _, _, rfl, rfl, (show (0 : Int) < 2 by decide), rfl, _, rfl, ?_⟩
  refine ite2 (fun _ => ?_) (fun _ => ?_)
  · have m := mod_in (c / 2) (show (0 : Int) < 4 by decide)
    refine ⟨_, rfl, _, rfl, _, _, rfl, rfl, ⟨by decide, by decide⟩, _, _, rfl, rfl, (show (0 : Int) < 4 by decide), l, _, _, _, rfl, rfl, SqL.of upd_same, atI_ints (ns := Dr.primes) m.1 (by have := m.2; show _ < (25 : Int); omega), ?_⟩
    exact q _ _ (getD_in (ns := Dr.primes) m.1 (by have := m.2; show _ < (25 : Int); omega)) (same_new hl _)
  · have m := mod_in (c / 2) (show (0 : Int) < 25 by decide)
    refine ⟨_, rfl, _, rfl, _, _, rfl, rfl, ⟨by decide, by decide⟩, _, _, rfl, rfl, (show (0 : Int) < 25 by decide), l, _, _, _, rfl, rfl, SqL.of upd_same, atI_ints (ns := Dr.primes) m.1 m.2, ?_⟩
    exact q _ _ (getD_in (ns := Dr.primes) m.1 m.2) (same_new hl _)
def sp__law_times (K : PySem.W.Frag) : Sp := fun vs H Q _ => ∃ (a b : Addr) (f g : List Int) (m n : Nat), vs = [.ref a, .ref b] ∧ SqL K H a (f.map V.int) ∧ SqL K H b (g.map V.int) ∧ (0 < f.length ∧ f.length ≤ 60 ∧ 0 < g.length ∧ g.length ≤ 60) ∧ Dr.PolyB f m ∧ Dr.PolyB g n ∧ (m ≤ 1000000 ∧ n ≤ 1000000) ∧
  ∀ (c : Addr) (r : List Int) (H' : Hp), Dr.IsProd f g r → Dr.PolyB r (m + n + 12) → H c = none → Same H H' → H' c = some (.lst (r.map V.int)) → Q (.ref c) H'
theorem ok__law_times (B : Bi mg K) (F : Fun K "_law_times" "_law_times" s__law_times f fd) : FnOk P w K mg base CX0 1 f fd ["f", "g"] (sp__law_times K) := by
  refine F.ok S__law_times (fun vs H Q E h => ?_) (fun cdv A outer s H vs Q E hr h => ?_)
  · obtain ⟨a, b, f, g, m, n, rfl, _⟩ := h
    rfl
  obtain ⟨a, b, f, g, m, n, rfl, hS, hS', hl, hf, hg, hmn, q⟩ := h
  have S := S__law_times
  refine ⟨_, ((pss_cons (ps_set (i := 2) S.nd rfl (Or.inl rfl) (pe_op op_rep (pe_lst (pa_cons pe_int pa_nil)) (pe_op op_sub (pe_op op_add (pe_callB call_len_seq rfl B.b_len PySem.boot_len (pa_cons (pv 0) pa_nil)) (pe_callB call_len_seq rfl B.b_len PySem.boot_len (pa_cons (pv 1) pa_nil))) pe_int)))
    (pss_cons (ps_for PassesOwn.never rfl (pi_range1 rfl B.b_range (pa_cons (pe_callB call_len_seq rfl B.b_len PySem.boot_len (pa_cons (pv 0) pa_nil)) pa_nil)) (pg_name (i := 3) S.nd rfl (Or.inl rfl)) (pss_one (ps_for PassesOwn.never rfl (pi_range1 rfl B.b_range (pa_cons (pe_callB call_len_seq rfl B.b_len PySem.boot_len (pa_cons (pv 1) pa_nil)) pa_nil)) (pg_name (i := 4) S.nd rfl (Or.inl rfl)) (pss_one (ps_asg (pe_op op_add (pe_ix ix_list (pv 2) (pe_op op_add (pv 3) (pv 4)) (fun _ _ => rfl)) (pe_op op_mulW (pe_ix ix_list (pv 0) (pv 3) (fun _ _ => rfl)) (pe_ix ix_list (pv 1) (pv 4) (fun _ _ => rfl)))) (pg_sub (pv 2) (pe_op op_add (pv 3) (pv 4)) set_list))))))
    (pss_one (ps_ret (pv 2)))))), ?_⟩
  try walk_at "dr1"
  refine ⟨by decide, ?_⟩
  intro l0 n_l0; generalize e_l0 : upd _ l0 _ = H1; obtain ⟨g1, k1⟩ := newH e_l0 n_l0; clear e_l0
  refine ⟨_, .inl (g1.seq hS), _, .inl (g1.seq hS'), ?_⟩
  simp only [List.length_map]
  refine ⟨_, k1, by omega, by omega, by simp only [List.length_cons, List.length_nil]; unfold sizeLine; omega, ?_⟩
  intro l n_l; generalize e_l : upd _ l _ = H2; obtain ⟨g2, k2⟩ := newH e_l n_l; clear e_l
  rw [rep_zero] at k2
  have g12 := g1.trans g2
  have nl : H l = none := g1.free n_l
  refine ⟨_, .inl (g12.seq hS), by simp only [List.length_map]; omega, by simp only [List.length_map]; omega, ?_⟩
  obtain ⟨M, hM⟩ : ∃ M : Nat, M = 2 ^ (m + n) := ⟨_, rfl⟩
  obtain ⟨Pv, hPv⟩ : ∃ Pv : Nat → St → Hp → Prop, ∀ i σ H3, Pv i σ H3 ↔ (Same H H3 ∧ ∃ (r : List Int) (t3 t4 : Option V), r.length + 1 = f.length + g.length ∧ (∀ c, c ∈ r → c.natAbs ≤ i * g.length * M) ∧ (∀ x, Dr.pev r x = Dr.pev (f.take i) x * Dr.pev g x) ∧ H3 l = some (.lst (r.map V.int)) ∧ σ = [some (.ref a), some (.ref b), some (.ref l), t3, t4]) := ⟨_, fun _ _ _ => Iff.rfl⟩
  refine forR Pv ((hPv _ _ _).mpr ⟨g12, _, none, none, by rw [List.length_replicate]; omega, fun c hc => by rw [(List.mem_replicate.mp hc).2]; simp, fun x => by rw [Dr.pev_zeros]; simp [Dr.pev], k2, rfl⟩) ?_ ?_
  · intro i σ H3 hi z
    obtain ⟨g3, r, t3, t4, hrl, hrb, hre, k3, rfl⟩ := (hPv _ _ _).mp z
    simp only [List.length_map, Int.toNat_natCast] at hi
    obtain ⟨c, hc⟩ : ∃ c, f[i]? = some c := ⟨_, List.getElem?_eq_getElem hi⟩
    have ac : atI (f.map V.int) (0 + (i : Int)) = some (.int c) := by
      rw [Int.zero_add]
      exact atI_nat (by rw [List.getElem?_map, hc]; rfl)
    try walk_at "dr1"
    refine ⟨_, .inl (g3.seq hS'), by simp only [List.length_map]; omega, by simp only [List.length_map]; omega, ?_⟩
    obtain ⟨Pw, hPw⟩ : ∃ Pw : Nat → St → Hp → Prop, ∀ j σ H5, Pw j σ H5 ↔ (Same H H5 ∧ ∃ (r : List Int) (t4 : Option V), r.length + 1 = f.length + g.length ∧ (∀ c, c ∈ r → c.natAbs ≤ (i * g.length + j) * M) ∧ (∀ x, Dr.pev r x = Dr.pev (f.take i) x * Dr.pev g x + c * x ^ i * Dr.pev (g.take j) x) ∧ H5 l = some (.lst (r.map V.int)) ∧ σ = [some (.ref a), some (.ref b), some (.ref l), some (.int (0 + (i : Int))), t4]) := ⟨_, fun _ _ _ => Iff.rfl⟩
    refine forR Pw ((hPw _ _ _).mpr ⟨g3, r, t4, hrl, hrb, fun x => by rw [hre]; simp [Dr.pev], k3, rfl⟩) ?_ ?_
    · intro j σ H5 hj z
      obtain ⟨g5, r, t4, hrl, hrb, hre, k5, rfl⟩ := (hPw _ _ _).mp z
      simp only [List.length_map, Int.toNat_natCast] at hj
      obtain ⟨d, hd⟩ : ∃ d, g[j]? = some d := ⟨_, List.getElem?_eq_getElem hj⟩
      have ad : atI (g.map V.int) (0 + (j : Int)) = some (.int d) := by
        rw [Int.zero_add]
        exact atI_nat (by rw [List.getElem?_map, hd]; rfl)
      obtain ⟨v, e1, e2, e3, _⟩ := get_int (fs := r) (k := 0 + (i : Int) + (0 + (j : Int))) (by omega) (by omega)
      have hcd : (c * d).natAbs ≤ M := by
        rw [hM]
        exact Nat.le_of_lt ((hf c (List.mem_of_getElem? hc)).mul (hg d (List.mem_of_getElem? hd)))
      try walk_at "dr1"
      refine ⟨_, SqL.of k5, _, e2, _, g5.seq hS, _, ac, _, g5.seq hS', _, ad, c, rfl, d, rfl, mulSm (hf c (List.mem_of_getElem? hc)) (hg d (List.mem_of_getElem? hd)) (by omega), v, rfl, _, k5, _, e3, ?_⟩
      rw [set_int]
      have eij : (0 + (i : Int) + (0 + (j : Int))).toNat = i + j := by omega
      rw [eij] at e1 ⊢
      refine (hPw _ _ _).mpr ⟨g5.up nl _, _, _, by rw [List.length_set]; exact hrl, fun e he => ?_, fun x => ?_, upd_same, rfl⟩
      · rcases mem_set he with w | w
        · exact Nat.le_trans (hrb e w) (Nat.mul_le_mul_right _ (Nat.le_succ _))
        · rw [w]
          exact steps (hrb v (List.mem_of_getElem? e1)) hcd
      · rw [Dr.pev_set x (c * d) r (i + j) v e1, hre, Dr.pev_take_succ hd, Dr.pow_add']
        generalize x ^ i = X
        generalize x ^ j = Y
        grind
    · intro σ H5 z
      obtain ⟨g5, r, t4, hrl, hrb, hre, k5, rfl⟩ := (hPw _ _ _).mp z
      simp only [List.length_map, Int.toNat_natCast] at hrb hre
      refine (hPv _ _ _).mpr ⟨g5, r, _, _, hrl, fun c hc => ?_, fun x => ?_, k5, rfl⟩
      · rw [Nat.succ_mul]
        exact hrb c hc
      · rw [hre, List.take_length, Dr.pev_take_succ hc]
        grind
  · intro σ H3 z
    obtain ⟨g3, r, t3, t4, hrl, hrb, hre, k3, rfl⟩ := (hPv _ _ _).mp z
    simp only [List.length_map, Int.toNat_natCast] at hrb hre
    try walk_at "dr1"
    rw [List.take_length] at hre
    refine q l r H3 ⟨hrl, hre⟩ (fun c hc => ?_) nl g3 k3
    have h1 := hrb c hc
    have h2 : f.length * g.length * M ≤ 3600 * M := Nat.mul_le_mul_right _ (Nat.mul_le_mul (show f.length ≤ 60 by omega) (show g.length ≤ 60 by omega))
    show c.natAbs < 2 ^ (m + n + 12)
    rw [Nat.pow_add, ← hM]
    have : (2 : Nat) ^ 12 = 4096 := by decide
    have : 0 < M := by rw [hM]; exact Nat.pow_pos (by decide)
    omega
def sp__law_power (_ : PySem.W.Frag) : Sp := fun vs H Q _ => ∃ (p e : Int), vs = [.int p, .int e] ∧ (2 ≤ p ∧ p < 1000) ∧ (0 ≤ e ∧ e < 100000) ∧ Q (.int (p ^ e.toNat)) H
theorem ok__law_power (B : Bi mg K) (F : Fun K "_law_power" "_law_power" s__law_power f fd) : FnOk P w K mg base CX0 1 f fd ["p", "e"] (sp__law_power K) := by
  refine F.ok S__law_power (fun vs H Q E h => ?_) (fun cdv A outer s H vs Q E hr h => ?_)
  · obtain ⟨p, e, rfl, _⟩ := h
    rfl
  obtain ⟨p, e, rfl, hp, he, q⟩ := h
  have S := S__law_power
  refine ⟨_, ((pss_cons (ps_set (i := 2) S.nd rfl (Or.inl rfl) pe_int)
    (pss_cons (ps_for PassesOwn.never rfl (pi_range1 rfl B.b_range (pa_cons (pv 1) pa_nil)) (pg_name (i := 3) S.nd rfl (Or.inl rfl)) (pss_one (ps_set (i := 2) S.nd rfl (Or.inl rfl) (pe_op op_mulW (pv 2) (pv 0)))))
    (pss_one (ps_ret (pv 2)))))), ?_⟩
  refine ⟨_, rfl, e, rfl, by omega, by omega, ?_⟩
  refine for_range (n := e.toNat) (fun i σ H' => H' = H ∧ ∃ t, σ = [some (.int p), some (.int e), some (.int (p ^ i)), t]) ⟨rfl, none, by rw [Int.pow_zero]; rfl⟩ ?_ ?_
  · rintro i σ H' hi ⟨rfl, t, rfl⟩
    refine ⟨_, rfl, _, rfl, _, _, rfl, rfl, IntMulOk.of_right (intBits_le_64 (by omega) (by omega)), rfl, some (.int (0 + (i : Int))), ?_⟩
    rw [Int.pow_succ]
    rfl
  · rintro σ H' ⟨rfl, t, rfl⟩
    exact ⟨_, rfl, q⟩
def sp__law_worth (K : PySem.W.Frag) : Sp := fun vs H Q _ => ∃ (a : Addr) (f : List Int) (x : Int) (m n : Nat), vs = [.ref a, .int x] ∧ SqL K H a (f.map V.int) ∧ f.length ≤ 100 ∧ Dr.PolyB f m ∧ Dr.Sm x n ∧ (m ≤ 1000000 ∧ n ≤ 100000) ∧ ∀ H', Same H H' → Q (.int (Dr.pev f x)) H'
theorem ok__law_worth (B : Bi mg K) (F : Fun K "_law_worth" "_law_worth" s__law_worth f fd) : FnOk P w K mg base CX0 1 f fd ["f", "x"] (sp__law_worth K) := by
  refine F.ok S__law_worth (fun vs H Q E h => ?_) (fun cdv A outer s H vs Q E hr h => ?_)
  · obtain ⟨a, f, x, m, n, rfl, _⟩ := h
    rfl
  obtain ⟨a, f, x, m, n, rfl, hS, hl, hf, hx, hmn, q⟩ := h
  have S := S__law_worth
  refine ⟨_, ((pss_cons (ps_set (i := 2) S.nd rfl (Or.inl rfl) pe_int)
    (pss_cons (ps_for PassesOwn.never rfl (pi_list (pe_listRev rfl rfl B.b_list rfl B.b_reversed (pv 0))) (pg_name (i := 3) S.nd rfl (Or.inl rfl)) (pss_one (ps_set (i := 2) S.nd rfl (Or.inl rfl) (pe_op op_add (pe_op op_mulW (pv 2) (pv 1)) (pv 3)))))
    (pss_one (ps_ret (pv 2)))))), ?_⟩
  try walk_at "dr1"
  refine ⟨_, hS, ?_⟩
  intro lr n_lr; generalize e_lr : upd _ lr _ = H1; obtain ⟨g1, k1⟩ := newH e_lr n_lr; clear e_lr
  have k1 : H1 lr = some (.lst (f.reverse.map V.int)) := by rw [List.map_reverse]; exact k1
  refine ⟨⟨_, SqL.of k1⟩, ?_⟩
  obtain ⟨Pv, hPv⟩ : ∃ Pv : Nat → St → Hp → Prop, ∀ i σ H2, Pv i σ H2 ↔ (H2 = H1 ∧ ∃ t, σ = [some (.ref a), some (.int x), some (.int (Dr.pev (f.drop (f.length - i)) x)), t]) := ⟨_, fun _ _ _ => Iff.rfl⟩
  refine forI f.reverse Pv ((hPv _ _ _).mpr ⟨rfl, none, by simp [Dr.pev]⟩) (fun i σ H2 z => by obtain ⟨rfl, _⟩ := (hPv _ _ _).mp z; exact SqL.of k1) ?_ ?_
  · intro i c σ H2 hc z
    obtain ⟨rfl, t, rfl⟩ := (hPv _ _ _).mp z
    try walk_at "dr1"
    have b := (hx.pev (hf.drop (f.length - i))).mono (l := 1000000 + 100 * 100001) (by
      have h1 : (f.drop (f.length - i)).length ≤ 100 := by rw [List.length_drop]; omega
      have h2 : (f.drop (f.length - i)).length * (n + 1) ≤ 100 * 100001 := Nat.mul_le_mul h1 (by omega)
      omega)
    refine ⟨mulSm b hx (by omega), (hPv _ _ _).mpr ⟨rfl, some (.int c), ?_⟩⟩
    rw [Dr.pev_rev hc]
  · intro σ H2 z
    obtain ⟨rfl, t, rfl⟩ := (hPv _ _ _).mp z
    try walk_at "dr1"
    rw [List.length_reverse, Nat.sub_self, List.drop_zero]
    exact q _ g1
def sp__law_number (_ : PySem.W.Frag) : Sp := fun vs H Q _ => ∃ (cell p : Int), vs = [.int cell, .int p] ∧ (2 ≤ p ∧ p < 1000) ∧ ∀ x : Int, Dr.Sm x 110 → Q (.int x) H
theorem ok__law_number (B : Bi mg K) (d__law_power : Def P w K mg base "_law_power" 1 ["p", "e"] (sp__law_power K)) (F : Fun K "_law_number" "_law_number" s__law_number f fd) : FnOk P w K mg base CX0 2 f fd ["cell", "p"] (sp__law_number K) := by
  refine F.ok S__law_number (fun vs H Q E h => ?_) (fun cdv A outer s H vs Q E hr h => ?_)
  · obtain ⟨cell, p, rfl, _⟩ := h
    rfl
  obtain ⟨cell, p, rfl, hp, q⟩ := h
  have S := S__law_number
  refine ⟨_, ((pss_cons (ps_set (i := 2) S.nd rfl (Or.inl rfl) (pe_op op_sub (pe_op op_mod (pe_op op_fdivW (pv 0) pe_int) pe_int) pe_int))
    (pss_cons (ps_join (ps_if (pt_cmpR op_eq (pe_op op_mod (pv 0) pe_int) pe_int (nomark _)) (pss_one (ps_set (i := 2) S.nd rfl (Or.inl rfl) (pe_op op_sub (pe_op op_mod (pe_op op_fdivW (pv 0) pe_int) (pe_op op_add (pe_op op_mulW pe_int (pe_op op_pow pe_int pe_int)) pe_int)) (pe_op op_pow pe_int pe_int)))) pss_nil))
    (pss_cons (ps_join (ps_if (pt_cmpR op_gt (pe_op op_mod (pv 0) pe_int) pe_int (nomark _)) (pss_one (ps_set (i := 2) S.nd rfl (Or.inl rfl) (pe_op op_mulW (pv 2) (pe_def d__law_power hr rfl (pa_cons (pv 1) (pa_cons (pe_op op_mod (pe_op op_fdivW (pv 0) pe_int) pe_int) pa_nil)))))) pss_nil))
    (pss_one (ps_ret (pv 2))))))), ?_⟩
  have m41 := mod_in (cell / 6) (show (0 : Int) < 41 by decide)
  have m6 := mod_in (cell / 246) (show (0 : Int) < 6 by decide)
  (try dsimp only); (first | refine seqI ?_ | skip); try walk_at "dr2"; (try simp only [sp__law_power]); try walk_at "dr2"
  refine ⟨⟨by decide, by decide⟩, ?_⟩
  refine seqI ?_
  obtain ⟨R, hR⟩ : ∃ R : St → Hp → Prop, ∀ σ' H1, R σ' H1 ↔ (H1 = H ∧ ∃ x : Int, Dr.Sm x 42 ∧ σ' = [some (.int cell), some (.int p), some (.int x)]) := ⟨_, fun _ _ => Iff.rfl⟩
  refine joinB R ?_ ?_
  · try walk_at "dr1"; (try simp only [sp__law_power]); try walk_at "dr1"
    have e12 : (10 : Int) ^ (12 : Int).toNat = 1000000000000 := by decide
    rw [e12]
    have m12 := mod_in (cell / 6) (show (0 : Int) < 2 * 1000000000000 + 1 by decide)
    refine ite2 (fun _ => ?_) (fun _ => (hR _ _).mpr ⟨rfl, _, sm_of 50 (by omega) (by decide), rfl⟩)
    exact ⟨⟨by decide, by decide⟩, ⟨by decide, by decide, by decide⟩, IntMulOk.of_left (by decide), by decide, ⟨by decide, by decide, by decide⟩, (hR _ _).mpr ⟨rfl, _, sm_of 1000000000000 (by omega) (by decide), rfl⟩⟩
  intro σ' H1 z
  obtain ⟨rfl, x, bx, rfl⟩ := (hR _ _).mp z
  clear hR z
  refine seqI ?_
  obtain ⟨R, hR⟩ : ∃ R : St → Hp → Prop, ∀ σ' H2, R σ' H2 ↔ (H2 = H1 ∧ ∃ x : Int, Dr.Sm x 110 ∧ σ' = [some (.int cell), some (.int p), some (.int x)]) := ⟨_, fun _ _ => Iff.rfl⟩
  refine joinB R ?_ ?_
  · try walk_at "dr1"; (try simp only [sp__law_power]); try walk_at "dr1"
    have bp : Dr.Sm (p ^ (cell / 246 % 6).toNat) 61 := (show Dr.Sm _ (10 * (cell / 246 % 6).toNat + 1) from pow_bits hp _).mono (by omega)
    refine ite2 (fun _ => ?_) (fun _ => (hR _ _).mpr ⟨rfl, _, bx.mono (by decide), rfl⟩)
    exact ⟨⟨by decide, by decide⟩, hp.1, hp.2, by omega, by omega, mulSm bx bp (by decide), (hR _ _).mpr ⟨rfl, _, (bx.mul bp).mono (by decide), rfl⟩⟩
  intro σ' H2 z
  obtain ⟨rfl, x, bx, rfl⟩ := (hR _ _).mp z
  try walk_at "dr1"; (try simp only [sp__law_power]); try walk_at "dr1"
  exact q x bx
def sqT (ns : List Int) : Int := cellz ns 1 / 5043 % 41 - 20
def sqR (ns : List Int) (p : Int) : Int := 1 + cellz ns 1 / 5043 / 41 % (p - 1)
def sqJ (ns : List Int) : Nat := (cellz ns 1 / 5043 / 3977 % 5).toNat
def sqS (ns : List Int) (p : Int) : Int := (if p = 2 then 17 else sqR ns p * sqR ns p + p) * p ^ (2 * sqJ ns)
def sp__law_square (K : PySem.W.Frag) : Sp := fun vs H Q _ => ∃ (a : Addr) (ns : List Int) (p : Int), vs = [.ref a, .int p] ∧ SqL K H a (ns.map V.int) ∧ ns.length ≤ 63 ∧ (2 ≤ p ∧ p < 1000) ∧ ∀ (c : Addr) (H' : Hp), Same H H' → H' c = some (.lst ([sqT ns, sqS ns p].map V.int)) → Q (.ref c) H'
theorem ok__law_square (B : Bi mg K) (d__law_cell_at : Def P w K mg base "_law_cell_at" 1 ["script", "k"] (sp__law_cell_at K)) (d__law_power : Def P w K mg base "_law_power" 1 ["p", "e"] (sp__law_power K)) (F : Fun K "_law_square" "_law_square" s__law_square f fd) : FnOk P w K mg base CX0 2 f fd ["script", "p"] (sp__law_square K) := by
  refine F.ok S__law_square (fun vs H Q E h => ?_) (fun cdv A outer s H vs Q E hr h => ?_)
  · obtain ⟨a, ns, p, rfl, _⟩ := h
    rfl
  obtain ⟨a, ns, p, rfl, hS, hl, hp, q⟩ := h
  have S := S__law_square
  refine ⟨_, ((pss_cons (ps_set (i := 2) S.nd rfl (Or.inl rfl) (pe_op op_fdivW (pe_def d__law_cell_at hr rfl (pa_cons (pv 0) (pa_cons pe_int pa_nil))) pe_int))
    (pss_cons (ps_set (i := 3) S.nd rfl (Or.inl rfl) (pe_op op_sub (pe_op op_mod (pv 2) pe_int) pe_int))
    (pss_cons (ps_set (i := 4) S.nd rfl (Or.inl rfl) (pe_op op_add pe_int (pe_op op_mod (pe_op op_fdivW (pv 2) pe_int) (pe_op op_sub (pv 1) pe_int))))
    (pss_cons (ps_set (i := 5) S.nd rfl (Or.inl rfl) (pe_op op_add (pe_op op_mulW (pv 4) (pv 4)) (pv 1)))
    (pss_cons (ps_join (ps_if (pt_cmpR op_eq (pv 1) pe_int (nomark _)) (pss_one (ps_set (i := 5) S.nd rfl (Or.inl rfl) pe_int)) pss_nil))
    (pss_one (ps_ret (pe_lst (pa_cons (pv 3) (pa_cons (pe_op op_mulW (pv 5) (pe_def d__law_power hr rfl (pa_cons (pv 1) (pa_cons (pe_op op_mulW pe_int (pe_op op_mod (pe_op op_fdivW (pv 2) pe_int) pe_int)) pa_nil)))) pa_nil))))))))))), ?_⟩
  unfold sqT sqS sqR sqJ at q
  (try dsimp only); (first | refine seqI ?_ | skip); try walk_at "dr2"; (try simp only [sp__law_cell_at, sp__law_power]); try walk_at "dr2"
  refine ⟨ns, hS, hl, ⟨by decide, by decide⟩, ?_⟩
  generalize cellz ns 1 / 5043 = cell at q ⊢
  have m5 := mod_in (cell / 3977) (show (0 : Int) < 5 by decide)
  have mr := mod_in (cell / 41) (show (0 : Int) < p - 1 by omega)
  (try dsimp only); (first | refine seqI ?_ | skip); try walk_at "dr2"; (try simp only [sp__law_cell_at, sp__law_power]); try walk_at "dr2"
  (try dsimp only); (first | refine seqI ?_ | skip); try walk_at "dr2"; (try simp only [sp__law_cell_at, sp__law_power]); try walk_at "dr2"
  refine ⟨⟨by decide, by decide⟩, by omega, ?_⟩
  have rr : 1 ≤ 1 + cell / 41 % (p - 1) ∧ 1 + cell / 41 % (p - 1) < 1000 := by omega
  generalize 1 + cell / 41 % (p - 1) = r at q rr ⊢
  (try dsimp only); (first | refine seqI ?_ | skip); try walk_at "dr2"; (try simp only [sp__law_cell_at, sp__law_power]); try walk_at "dr2"
  refine ⟨IntMulOk.of_left (intBits_le_64 (by omega) (by omega)), ?_⟩
  refine seqI ?_
  obtain ⟨R, hR⟩ : ∃ R : St → Hp → Prop, ∀ σ' H2, R σ' H2 ↔ (H2 = H ∧ σ' = [some (.ref a), some (.int p), some (.int cell), some (.int (cell % 41 - 20)), some (.int r), some (.int (if p = 2 then 17 else r * r + p))]) := ⟨_, fun _ _ => Iff.rfl⟩
  refine joinB R ?_ ?_
  · try walk_at "dr1"; (try simp only [sp__law_cell_at, sp__law_power]); try walk_at "dr1"
    refine ite2 (fun c => (hR _ _).mpr ⟨rfl, by rw [if_pos c]⟩) (fun c => (hR _ _).mpr ⟨rfl, by rw [if_neg c]⟩)
  intro σ' H2 z
  obtain ⟨rfl, rfl⟩ := (hR _ _).mp z
  clear hR z
  have bs : Dr.Sm (if p = 2 then 17 else r * r + p) 30 := by
    have b1 : Dr.Sm (r * r + p) 30 := (((sm_of (k := 10) 1000 (by omega) (by decide)).mul (sm_of (k := 10) 1000 (by omega) (by decide))).add (sm_of (k := 10) 1000 (by omega) (by decide))).mono (by decide)
    split
    · exact sm_of 17 (by decide) (by decide)
    · exact b1
  have e2 : (2 * (cell / 3977 % 5)).toNat = 2 * (cell / 3977 % 5).toNat := by omega
  have bp : Dr.Sm (p ^ (2 * (cell / 3977 % 5)).toNat) 91 := (show Dr.Sm _ (10 * (2 * (cell / 3977 % 5)).toNat + 1) from pow_bits hp _).mono (by omega)
  try walk_at "dr1"; (try simp only [sp__law_cell_at, sp__law_power]); try walk_at "dr1"
  refine ⟨⟨by decide, by decide⟩, IntMulOk.of_left (by decide), hp.1, hp.2, by omega, by omega, mulSm bs bp (by decide), by decide, ?_⟩
  intro l n_l; generalize e_l : upd _ l _ = H3; obtain ⟨g3, k3⟩ := newH e_l n_l; clear e_l
  rw [e2] at k3
  exact q l H3 g3 k3
theorem sqT_b (ns : List Int) : Dr.Sm (sqT ns) 5 := by
  unfold sqT
  have := mod_in (cellz ns 1 / 5043) (show (0 : Int) < 41 by decide)
  exact sm_of 20 (by omega) (by decide)
theorem sqR_b (ns : List Int) {p : Int} (hp : 2 ≤ p) : 1 ≤ sqR ns p ∧ sqR ns p < p := by
  unfold sqR
  have := mod_in (cellz ns 1 / 5043 / 41) (show (0 : Int) < p - 1 by omega)
  omega
theorem sqS_b (ns : List Int) {p : Int} (hp : 2 ≤ p ∧ p < 1000) : Dr.Sm (sqS ns p) 121 := by
  have r := sqR_b ns hp.1
  unfold sqS
  have j5 : sqJ ns ≤ 4 := by
    unfold sqJ
    have := mod_in (cellz ns 1 / 5043 / 3977) (show (0 : Int) < 5 by decide)
    omega
  have bs : Dr.Sm (if p = 2 then 17 else sqR ns p * sqR ns p + p) 30 := by
    have b1 : Dr.Sm (sqR ns p * sqR ns p + p) 30 := (((sm_of (k := 10) 1000 (by omega) (by decide)).mul (sm_of (k := 10) 1000 (by omega) (by decide))).add (sm_of (k := 10) 1000 (by omega) (by decide))).mono (by decide)
    split
    · exact sm_of 17 (by decide) (by decide)
    · exact b1
  have bp : Dr.Sm (p ^ (2 * sqJ ns)) 91 := (show Dr.Sm _ (10 * (2 * sqJ ns) + 1) from pow_bits hp _).mono (by omega)
  exact bs.mul bp
def sp__law_polynomial (K : PySem.W.Frag) : Sp := fun vs H Q _ => ∃ (a : Addr) (ns : List Int) (p : Int), vs = [.ref a, .int p] ∧ SqL K H a (ns.map V.int) ∧ ns.length ≤ 63 ∧ (2 ≤ p ∧ p < 1000) ∧ ∀ (c : Addr) (f : List Int) (H' : Hp), (1 ≤ f.length ∧ f.length ≤ 9) → Dr.PolyB f 400 → (cellz ns 1 / 1681 % 3 = 2 → ∃ f0 : List Int, ∀ x, Dr.pev f x = Dr.pev f0 x * Dr.pev [sqT ns * sqT ns - sqS ns p, 0 - 2 * sqT ns, 1] x) → Same H H' → H' c = some (.lst (f.map V.int)) → Q (.ref c) H'
theorem ok__law_polynomial (B : Bi mg K) (d__law_cell_at : Def P w K mg base "_law_cell_at" 1 ["script", "k"] (sp__law_cell_at K)) (d__law_power : Def P w K mg base "_law_power" 1 ["p", "e"] (sp__law_power K)) (d__law_times : Def P w K mg base "_law_times" 1 ["f", "g"] (sp__law_times K)) (d__law_number : Def P w K mg base "_law_number" 2 ["cell", "p"] (sp__law_number K)) (d__law_square : Def P w K mg base "_law_square" 2 ["script", "p"] (sp__law_square K)) (F : Fun K "_law_polynomial" "_law_polynomial" s__law_polynomial f fd) : FnOk P w K mg base CX0 3 f fd ["script", "p"] (sp__law_polynomial K) := by
  refine F.ok S__law_polynomial (fun vs H Q E h => ?_) (fun cdv A outer s H vs Q E hr h => ?_)
  · obtain ⟨a, ns, p, rfl, _⟩ := h
    rfl
  obtain ⟨a, ns, p, rfl, hS, hl, hp, q⟩ := h
  have S := S__law_polynomial
  refine ⟨_, ((pss_cons (ps_comp [1] ["p"] rfl S.nd (k := 2) rfl rfl rfl rfl ⟨rfl, trivial⟩ ⟨rfl, rfl, rfl, rfl, trivial⟩ rfl rfl (by decide) (by decide) rfl rfl (by decide) (pi_list (pe_slice sl_list (pe_op op_cat (pe_slice sl_list (pv 0) (po_some pe_int) (po_some pe_int)) (pe_lst (pa_cons pe_int pa_nil))) po_none (po_some (pe_callB (call_max2 rfl) rfl B.b_max L2.bt_max (pa_cons pe_int (pa_cons (pe_callB (call_min2 rfl) rfl B.b_min L2.bt_min (pa_cons (pe_op op_sub (pe_callB call_len_seq rfl B.b_len PySem.boot_len (pa_cons (pv 0) pa_nil)) pe_int) (pa_cons pe_int pa_nil))) pa_nil)))))) (fun _ _ _ _ => pts_nil) (fun _ _ _ _ => (pe_def d__law_number hr rfl (pa_cons (pv 0) (pa_cons (pv 1) pa_nil)))))
    (pss_cons (ps_set (i := 3) S.nd rfl (Or.inl rfl) (pe_op op_fdivW (pe_def d__law_cell_at hr rfl (pa_cons (pv 0) (pa_cons pe_int pa_nil))) pe_int))
    (pss_cons (ps_join (ps_if (pt_cmpR op_eq (pe_op op_mod (pv 3) pe_int) pe_int (nomark _)) (pss_cons (ps_set (i := 4) S.nd rfl (Or.inl rfl) (pe_op op_sub (pe_op op_mod (pe_op op_fdivW (pv 3) pe_int) pe_int) pe_int))
    (pss_cons (ps_set (i := 5) S.nd rfl (Or.inl rfl) (pe_op op_add (pv 4) (pe_def d__law_power hr rfl (pa_cons (pv 1) (pa_cons (pe_op op_mod (pe_op op_fdivW (pv 3) pe_int) pe_int) pa_nil)))))
    (pss_one (ps_set (i := 2) S.nd rfl (Or.inl rfl) (pe_def d__law_times hr rfl (pa_cons (pv 2) (pa_cons (pe_def d__law_times hr rfl (pa_cons (pe_lst (pa_cons (pe_op op_sub pe_int (pv 4)) (pa_cons pe_int pa_nil))) (pa_cons (pe_lst (pa_cons (pe_op op_sub pe_int (pv 5)) (pa_cons pe_int pa_nil))) pa_nil))) pa_nil))))))) pss_nil))
    (pss_cons (ps_join (ps_if (pt_cmpR op_eq (pe_op op_mod (pv 3) pe_int) pe_int (nomark _)) (pss_cons (ps_asg (pe_def d__law_square hr rfl (pa_cons (pv 0) (pa_cons (pv 1) pa_nil))) (pg_lst rfl (pgs_cons (pg_name (i := 4) S.nd rfl (Or.inl rfl)) (pgs_cons (pg_name (i := 6) S.nd rfl (Or.inl rfl)) pgs_nil))))
    (pss_one (ps_set (i := 2) S.nd rfl (Or.inl rfl) (pe_def d__law_times hr rfl (pa_cons (pv 2) (pa_cons (pe_lst (pa_cons (pe_op op_sub (pe_op op_mulW (pv 4) (pv 4)) (pv 6)) (pa_cons (pe_op op_sub pe_int (pe_op op_mulW pe_int (pv 4))) (pa_cons pe_int pa_nil)))) pa_nil)))))) pss_nil))
    (pss_one (ps_ret (pv 2)))))))), ?_⟩
  have hY : cutV (ns.map V.int) (some 2) (some 9) = ((ns.take 9).drop 2).map V.int := by
    have := cut_both V.int ns (i := 2) (k := 9) (by decide) (by decide)
    simpa using this
  (try dsimp only); (first | refine seqI ?_ | skip); try walk_at "dr2"; (try simp only [sp__law_cell_at, sp__law_power, sp__law_times, sp__law_number, sp__law_square]); try walk_at "dr2"
  refine ⟨_, hS, ?_⟩
  rw [hY]
  have lY : ((ns.take 9).drop 2).length ≤ 7 := by rw [List.length_drop, List.length_take]; omega
  generalize (ns.take 9).drop 2 = Y at lY ⊢
  intro l1 n_l1; generalize e_l1 : upd _ l1 _ = H1; obtain ⟨g1, k1⟩ := newH e_l1 n_l1; clear e_l1
  refine ⟨by decide, ?_⟩
  intro l2 n_l2; generalize e_l2 : upd _ l2 _ = H2; obtain ⟨g2, k2⟩ := newH e_l2 n_l2; clear e_l2
  refine ⟨_, g2 _ _ k1, _, k2, by simp only [List.length_map, List.length_cons, List.length_nil]; unfold sizeLine; omega, ?_⟩
  intro l3 n_l3; generalize e_l3 : upd _ l3 _ = H3; obtain ⟨g3, k3⟩ := newH e_l3 n_l3; clear e_l3
  have k3 : H3 l3 = some (.lst ((Y ++ [6]).map V.int)) := by rw [k3, List.map_append]; rfl
  have G3 := g1.trans (g2.trans g3)
  refine ⟨_, .inl (G3.seq hS), ?_⟩
  rw [List.length_map]
  generalize eT : (if _ > (1 : Int) then _ else (1 : Int)) = T
  have bT : 1 ≤ T ∧ T ≤ 7 := by
    rw [← eT]
    split <;> split <;> omega
  clear eT
  refine ⟨_, SqL.of k3, ?_⟩
  intro l4 n_l4; generalize e_l4 : upd _ l4 _ = H4; obtain ⟨g4, k4⟩ := newH e_l4 n_l4; clear e_l4
  rw [cut_to V.int _ (by omega)] at k4
  have lZ : 1 ≤ ((Y ++ [6]).take T.toNat).length ∧ ((Y ++ [6]).take T.toNat).length ≤ 7 := by
    rw [List.length_take, List.length_append]
    simp only [List.length_cons, List.length_nil]
    omega
  generalize (Y ++ [6]).take T.toNat = cs at lZ k4
  refine ⟨⟨_, SqL.of k4⟩, ?_⟩
  obtain ⟨Pc, hPc⟩ : ∃ Pc : Nat → List V → Hp → Prop, ∀ i ys H5, Pc i ys H5 ↔ (H5 = H4 ∧ ∃ fs : List Int, fs.length = i ∧ ys = fs.map V.int ∧ Dr.PolyB fs 110) := ⟨_, fun _ _ _ => Iff.rfl⟩
  refine compI cs Pc (by unfold sizeLine; omega) ((hPc _ _ _).mpr ⟨rfl, [], rfl, rfl, fun x h => nomatch h⟩) (fun i ys H4 z => by obtain ⟨rfl, _⟩ := (hPc _ _ _).mp z; exact SqL.of k4) ?_ ?_
  · intro j x ys H5 hx z
    obtain ⟨rfl, fs, rfl, rfl, bfs⟩ := (hPc _ _ _).mp z
    try walk_at "dr1"; (try simp only [sp__law_cell_at, sp__law_power, sp__law_times, sp__law_number, sp__law_square]); try walk_at "dr1"
    refine ⟨hp.1, hp.2, fun v bv => (hPc _ _ _).mpr ⟨rfl, fs ++ [v], by simp, by rw [List.map_append]; rfl, fun u hu => ?_⟩⟩
    rcases List.mem_append.mp hu with z | z
    · exact bfs u z
    · rw [List.mem_singleton.mp z]; exact bv
  intro ys H5 z
  obtain ⟨rfl, fs, hfl, rfl, bfs⟩ := (hPc _ _ _).mp z
  clear hPc z
  intro l6 n_l6; generalize e_l6 : upd _ l6 _ = H6; obtain ⟨g6, k6⟩ := newH e_l6 n_l6; clear e_l6
  have G6 := G3.trans (g4.trans g6)
  (try dsimp only); (first | refine seqI ?_ | skip); try walk_at "dr2"; (try simp only [sp__law_cell_at, sp__law_power, sp__law_times, sp__law_number, sp__law_square]); try walk_at "dr2"
  refine ⟨ns, G6.seq hS, hl, ⟨by decide, by decide⟩, ?_⟩
  generalize cellz ns 1 / 1681 = cell at q ⊢
  refine seqI ?_
  obtain ⟨R, hR⟩ : ∃ R : St → Hp → Prop, ∀ σ' H7, R σ' H7 ↔ (Same H H7 ∧ ∃ (lf : Addr) (f : List Int) (t4 t5 : Option V), (1 ≤ f.length ∧ f.length ≤ 9) ∧ Dr.PolyB f 400 ∧ (cell % 3 = 1 ∨ (f.length ≤ 7 ∧ Dr.PolyB f 110)) ∧ H7 lf = some (.lst (f.map V.int)) ∧ σ' = [some (.ref a), some (.int p), some (.ref lf), some (.int cell), t4, t5, none]) := ⟨_, fun _ _ => Iff.rfl⟩
  refine joinB R ?_ ?_
  · try walk_at "dr1"; (try simp only [sp__law_cell_at, sp__law_power, sp__law_times, sp__law_number, sp__law_square]); try walk_at "dr1"
    refine ite2 (fun c1 => ?_) (fun c1 => (hR _ _).mpr ⟨G6, l6, fs, _, _, by omega, fun x hx => (bfs x hx).mono (by decide), .inr ⟨by omega, bfs⟩, k6, rfl⟩)
    have m41 := mod_in (cell / 3) (show (0 : Int) < 41 by decide)
    have m9 := mod_in (cell / 123) (show (0 : Int) < 9 by decide)
    have bt : Dr.Sm (cell / 3 % 41 - 20) 5 := sm_of 20 (by omega) (by decide)
    have bp : Dr.Sm (p ^ (cell / 123 % 9).toNat) 91 := (show Dr.Sm _ (10 * (cell / 123 % 9).toNat + 1) from pow_bits hp _).mono (by omega)
    refine ⟨⟨by decide, by decide⟩, ⟨by decide, by decide⟩, hp.1, hp.2, by omega, by omega, by decide, ?_⟩
    have bu : Dr.Sm (cell / 3 % 41 - 20 + p ^ (cell / 123 % 9).toNat) 92 := (bt.add bp).mono (by decide)
    generalize cell / 3 % 41 - 20 + p ^ (cell / 123 % 9).toNat = u at bu ⊢
    generalize cell / 3 % 41 - 20 = t at bt ⊢
    have bx : ∀ {w : Int} {n : Nat}, Dr.Sm w n → 2 ≤ n → Dr.PolyB [0 - w, 1] (n + 1) := fun {w n} hw hn x hx => by
      simp only [List.mem_cons, List.not_mem_nil, or_false] at hx
      rcases hx with z | z <;> rw [z]
      · have := (Dr.Sm.zero n).sub hw
        rwa [Nat.max_self] at this
      · exact (sm_of (k := 1) 1 (by decide) (by decide)).mono (by omega)
    intro l8 n_l8; generalize e_l8 : upd _ l8 _ = H8; obtain ⟨g8, k8⟩ := newH e_l8 n_l8; clear e_l8
    have k8 : H8 l8 = some (.lst ([0 - t, 1].map V.int)) := k8
    refine ⟨by decide, ?_⟩
    intro l9 n_l9; generalize e_l9 : upd _ l9 _ = H9; obtain ⟨g9, k9⟩ := newH e_l9 n_l9; clear e_l9
    have k9 : H9 l9 = some (.lst ([0 - u, 1].map V.int)) := k9
    refine ⟨[0 - t, 1], SqL.of (g9 _ _ k8), [0 - u, 1], SqL.of k9, by simp, by simp, by simp, by simp, 6, bx bt (by decide), 93, bx bu (by decide), by decide, by decide, fun l10 r H10 hr br nr g10 k10 => ?_⟩
    have lr := hr.len
    simp only [List.length_cons, List.length_nil] at lr
    refine ⟨fs, SqL.of (g10 _ _ (g9 _ _ (g8 _ _ k6))), r, SqL.of k10, by omega, by omega, by omega, by omega, 110, bfs, 111, br, by decide, by decide, fun l11 r2 H11 hr2 br2 nr2 g11 k11 => ?_⟩
    have lr2 := hr2.len
    exact (hR _ _).mpr ⟨G6.trans (g8.trans (g9.trans (g10.trans g11))), l11, r2, _, _, by omega, fun x hx => (br2 x hx).mono (by decide), .inl c1, k11, rfl⟩
  intro σ' H7 z
  obtain ⟨g7, lf, f, t4, t5, lf1, bf, hor, kf, rfl⟩ := (hR _ _).mp z
  clear hR z
  refine seqI ?_
  obtain ⟨R, hR⟩ : ∃ R : St → Hp → Prop, ∀ σ' H8, R σ' H8 ↔ (Same H H8 ∧ ∃ (lf : Addr) (f : List Int) (t4 t6 : Option V), (1 ≤ f.length ∧ f.length ≤ 9) ∧ Dr.PolyB f 400 ∧ (cell % 3 = 2 → ∃ f0 : List Int, ∀ x, Dr.pev f x = Dr.pev f0 x * Dr.pev [sqT ns * sqT ns - sqS ns p, 0 - 2 * sqT ns, 1] x) ∧ H8 lf = some (.lst (f.map V.int)) ∧ σ' = [some (.ref a), some (.int p), some (.ref lf), some (.int cell), t4, t5, t6]) := ⟨_, fun _ _ => Iff.rfl⟩
  refine joinB R ?_ ?_
  · try walk_at "dr1"; (try simp only [sp__law_cell_at, sp__law_power, sp__law_times, sp__law_number, sp__law_square]); try walk_at "dr1"
    refine ite2 (fun c2 => ?_) (fun c2 => (hR _ _).mpr ⟨g7, lf, f, _, _, lf1, bf, fun z => absurd z c2, kf, rfl⟩)
    obtain ⟨l7, b7⟩ : f.length ≤ 7 ∧ Dr.PolyB f 110 := by
      rcases hor with z | z
      · omega
      · exact z
    have bT := sqT_b ns
    have bS := sqS_b ns hp
    refine ⟨ns, g7.seq hS, hl, hp.1, hp.2, fun c8 H8 g8 k8 => ⟨_, SqL.of k8, rfl, _, _, rfl, _, _, rfl, rfl, _, rfl, _, rfl, mulSm bT bT (by decide), _, rfl, _, rfl, IntMulOk.of_left (by decide), by decide, ?_⟩⟩
    intro l9 n_l9; generalize e_l9 : upd _ l9 _ = H9; obtain ⟨g9, k9⟩ := newH e_l9 n_l9; clear e_l9
    have k9 : H9 l9 = some (.lst ([sqT ns * sqT ns - sqS ns p, 0 - 2 * sqT ns, 1].map V.int)) := k9
    have b9 : Dr.PolyB [sqT ns * sqT ns - sqS ns p, 0 - 2 * sqT ns, 1] 125 := fun x hx => by
      simp only [List.mem_cons, List.not_mem_nil, or_false] at hx
      rcases hx with z | z | z <;> rw [z]
      · exact ((bT.mul bT).sub bS).mono (by decide)
      · exact ((Dr.Sm.zero 5).sub ((sm_of (k := 2) 2 (by decide) (by decide)).mul bT)).mono (by decide)
      · exact sm_of 1 (by decide) (by decide)
    refine ⟨f, SqL.of (g9 _ _ (g8 _ _ kf)), _, SqL.of k9, by omega, by omega, by simp, by simp, 110, b7, 125, b9, by decide, by decide, fun l10 r H10 hr br nr g10 k10 => ?_⟩
    have lr := hr.len
    simp only [List.length_cons, List.length_nil] at lr
    exact (hR _ _).mpr ⟨g7.trans (g8.trans (g9.trans g10)), l10, r, _, _, by omega, fun x hx => (br x hx).mono (by decide), fun _ => ⟨f, hr.ev⟩, k10, rfl⟩
  intro σ' H8 z
  obtain ⟨g8, lf, f, t4, t6, lf1, bf, h2, kf, rfl⟩ := (hR _ _).mp z
  try walk_at "dr1"; (try simp only [sp__law_cell_at, sp__law_power, sp__law_times, sp__law_number, sp__law_square]); try walk_at "dr1"
  exact q lf f H8 lf1 bf h2 g8 kf
def sp__law_told (K : PySem.W.Frag) : Sp := fun vs H Q _ => ∃ (p : Int) (b : Addr) (f : List Int) (N : Int) (m : Nat), vs = [.int p, .ref b, .int N] ∧ SqL K H b (f.map V.int) ∧ (0 < f.length ∧ f.length ≤ 13) ∧ p ∈ Dr.primes ∧ (0 ≤ N ∧ N ≤ 60) ∧ Dr.PolyB f m ∧ m ≤ 2560 ∧
  ∀ (t c : Addr) (L : List Int) (w : Int) (H' : Hp), ((w = 2 ∧ ∀ x, x ∈ f → x = 0) ∨ (w = 1 ∧ Dr.Deep p 60 f ∧ ∃ x, x ∈ f ∧ x ≠ 0) ∨ (w = 0 ∧ ∃ M, Dr.Found p N.toNat 60 0 0 f M ∧ L.Perm M ∧ L.Pairwise (· ≤ ·))) → Same H H' → H' c = some (.lst (L.map V.int)) → H' t = some (.tup [.int w, .ref c]) → Q (.ref t) H'
theorem ok__law_told (B : Bi mg K) (d_endless_roots : DefE P w K mg base "endless_roots" 66 ["p", "f", "N"] (sp_endless_roots K)) (F : Fun K "_law_told" "_law_told" s__law_told f fd) : FnOk P w K mg base CX0 67 f fd ["p", "f", "N"] (sp__law_told K) := by
  refine F.ok S__law_told (fun vs H Q E h => ?_) (fun cdv A outer s H vs Q E hr h => ?_)
  · obtain ⟨p, b, f, N, m, rfl, _⟩ := h
    rfl
  obtain ⟨p, b, f, N, m, rfl, hS, hl, hp, hN, hb, hm, q⟩ := h
  have S := S__law_told
  refine ⟨_, ((pss_cons (ps_set (i := 3) S.nd rfl (Or.inl rfl) (pe_lst pa_nil))
    (pss_cons (ps_set (i := 4) S.nd rfl (Or.inl rfl) pe_int)
    (pss_cons (ps_join (ps_try2 rfl rfl rfl B.c_TooDeep rfl B.c_NoDepth (fun _ _ _ hx => (pss_one (ps_set (i := 3) S.nd rfl (Or.inl rfl) (pe_defX hx d_endless_roots hr rfl (pa_cons (pv 0) (pa_cons (pv 1) (pa_cons (pv 2) pa_nil))))))) (fun _ => (pss_one (ps_set (i := 4) S.nd rfl (Or.inl rfl) pe_int))) (fun _ => (pss_one (ps_set (i := 4) S.nd rfl (Or.inl rfl) pe_int)))))
    (pss_one (ps_ret (pe_tup (pa_cons (pv 4) (pa_cons (pv 3) pa_nil))))))))), ?_⟩
  (try dsimp only); (first | refine seqI ?_ | skip); try walk_at "dr2"; (try simp only [sp_endless_roots]); try walk_at "dr2"
  refine ⟨by decide, ?_⟩
  intro l1 n_l1; generalize e_l1 : upd _ l1 _ = H1; obtain ⟨g1, k1⟩ := newH e_l1 n_l1; clear e_l1
  (try dsimp only); (first | refine seqI ?_ | skip); try walk_at "dr2"; (try simp only [sp_endless_roots]); try walk_at "dr2"
  refine seqI ?_
  obtain ⟨R, hR⟩ : ∃ R : St → Hp → Prop, ∀ σ' H2, R σ' H2 ↔ (Same H H2 ∧ ∃ (c : Addr) (L : List Int) (w : Int), ((w = 2 ∧ ∀ x, x ∈ f → x = 0) ∨ (w = 1 ∧ Dr.Deep p 60 f ∧ ∃ x, x ∈ f ∧ x ≠ 0) ∨ (w = 0 ∧ ∃ M, Dr.Found p N.toNat 60 0 0 f M ∧ L.Perm M ∧ L.Pairwise (· ≤ ·))) ∧ H2 c = some (.lst (L.map V.int)) ∧ σ' = [some (.int p), some (.ref b), some (.int N), some (.ref c), some (.int w)]) := ⟨_, fun _ _ => Iff.rfl⟩
  refine joinB R ?_ ?_
  · (try dsimp only); (first | refine seqI ?_ | skip); try walk_at "dr2"; (try simp only [sp_endless_roots]); try walk_at "dr2"
    refine ⟨f, g1.seq hS, by omega, by omega, hp, by omega, by omega, m, hb, hm, fun h0 H2 g2 => .inr ⟨B.m_NoDepth_TooDeep, B.m_NoDepth_NoDepth, ?_⟩, fun hd hz H2 g2 => .inl ⟨B.m_TooDeep_TooDeep, ?_⟩, fun c L M H2 hf hp1 hso _ g2 k2 => ?_⟩
    · try walk_at "dr1"; (try simp only [sp_endless_roots]); try walk_at "dr1"
      exact (hR _ _).mpr ⟨g1.trans g2, l1, [], 2, .inl ⟨rfl, h0⟩, g2 _ _ k1, rfl⟩
    · try walk_at "dr1"; (try simp only [sp_endless_roots]); try walk_at "dr1"
      exact (hR _ _).mpr ⟨g1.trans g2, l1, [], 1, .inr (.inl ⟨rfl, hd, hz⟩), g2 _ _ k1, rfl⟩
    · exact (hR _ _).mpr ⟨g1.trans g2, c, L, 0, .inr (.inr ⟨rfl, M, hf, hp1, hso⟩), k2, rfl⟩
  intro σ' H2 z
  obtain ⟨g2, c, L, w, hw, kc, rfl⟩ := (hR _ _).mp z
  clear hR z
  try walk_at "dr1"; (try simp only [sp_endless_roots]); try walk_at "dr1"
  refine ⟨by decide, ?_⟩
  intro t n_t; generalize e_t : upd _ t _ = H3; obtain ⟨g3, k3⟩ := newH e_t n_t; clear e_t
  exact q t c L w H3 hw (g2.trans g3) (g3 _ _ kc) k3
def sp__law_right (K : PySem.W.Frag) : Sp := fun vs H Q _ => ∃ (p : Int) (b c : Addr) (f L M : List Int) (N : Int) (m : Nat), vs = [.int p, .ref b, .int N, .ref c] ∧ SqL K H b (f.map V.int) ∧ H c = some (.lst (L.map V.int)) ∧ (0 < f.length ∧ f.length ≤ 13) ∧ p ∈ Dr.primes ∧ (0 ≤ N ∧ N ≤ 60) ∧ Dr.PolyB f m ∧ m ≤ 2560 ∧ (∃ x, x ∈ f ∧ x ≠ 0) ∧ Dr.Found p N.toNat 60 0 0 f M ∧ L.Perm M ∧ L.Pairwise (· ≤ ·) ∧ ∀ H', Same H H' → Q (.bl true) H'
theorem ok__law_right (B : Bi mg K) (d__law_power : Def P w K mg base "_law_power" 1 ["p", "e"] (sp__law_power K)) (d__law_worth : Def P w K mg base "_law_worth" 1 ["f", "x"] (sp__law_worth K)) (F : Fun K "_law_right" "_law_right" s__law_right f fd) : FnOk P w K mg base CX0 2 f fd ["p", "f", "N", "found"] (sp__law_right K) := by
  refine F.ok S__law_right (fun vs H Q E h => ?_) (fun cdv A outer s H vs Q E hr h => ?_)
  · obtain ⟨p, b, c, f, L, M, N, m, rfl, _⟩ := h
    rfl
  obtain ⟨p, b, c, f, L, M, N, m, rfl, hS, kc, hl, hpp, hN, hb, hm, hz, hf, hLM, hso, q⟩ := h
  have S := S__law_right
  have p2 := Dr.primes_ge hpp
  have hp : 2 ≤ p ∧ p < 1000 := by omega
  refine ⟨_, ((pss_cons (ps_set (i := 4) S.nd rfl (Or.inl rfl) (pe_callB (call_maxL rfl) rfl B.b_max L2.bt_max (pa_cons (pe_comp [1] ["f"] rfl rfl ⟨rfl, trivial⟩ ⟨rfl, rfl, rfl, rfl, trivial⟩ rfl rfl (by decide) (by decide) rfl rfl (by decide) (pi_range1 rfl B.b_range (pa_cons (pe_callB call_len_seq rfl B.b_len PySem.boot_len (pa_cons (pv 1) pa_nil)) pa_nil)) (fun _ _ _ _ => (pts_one (pt_cmpR op_ne (pe_ix (ix_listK (K := K) rfl) (pv 1) (pv 0) (fun _ _ => rfl)) pe_int (nomark _)))) (fun _ _ _ _ => (pv 0))) pa_nil)))
    (pss_cons (ps_set (i := 5) S.nd rfl (Or.inl rfl) (pe_def d__law_power hr rfl (pa_cons (pv 0) (pa_cons (pv 2) pa_nil))))
    (pss_cons (ps_if (PW.pt (pw_or (pt_not (pt_val (pe_callB call_isiO rfl B.b_isinstance L2.bt_isinstance (pa_cons (pv 3) (pa_cons (pe_bltn (v := .ty "list") rfl B.b_list L2.bt_list rfl) pa_nil))))) (pw_or (pt_cmpR op_gt (pe_callB call_len_seq rfl B.b_len PySem.boot_len (pa_cons (pv 3) pa_nil)) (pv 4) (nomark _)) (pw_or1 (pt_cmpR (op_neD hr.units) (pv 3) (pe_callB (call_sortedI rfl) rfl B.b_sorted bt_sorted (pa_cons (pv 3) pa_nil)) (nomark _)))))) (pss_one (ps_ret pe_bl)) pss_nil)
    (pss_cons (ps_for PassesOwn.never rfl (pi_list (pv 3)) (pg_name (i := 6) S.nd rfl (Or.inl rfl)) (pss_cons (ps_if (PW.pt (pw_or (pt_not (pt_val (pe_callB call_isiS rfl B.b_isinstance L2.bt_isinstance (pa_cons (pv 6) (pa_cons (pe_bltn (v := .ty "int") rfl B.b_int L2.bt_int rfl) pa_nil))))) (pw_or (pt_val (pe_callB call_isiS rfl B.b_isinstance L2.bt_isinstance (pa_cons (pv 6) (pa_cons (pe_bltn (v := .ty "bool") rfl B.b_bool L2.bt_bool rfl) pa_nil)))) (pw_or (pt_cmpR op_lt (pv 6) pe_int (nomark _)) (pw_or1 (pt_cmpR op_ge (pv 6) (pv 5) (nomark _))))))) (pss_one (ps_ret pe_bl)) pss_nil)
    (pss_one (ps_if (pt_cmpR op_ne (pe_op op_mod (pe_def d__law_worth hr rfl (pa_cons (pv 1) (pa_cons (pv 6) pa_nil))) (pv 5)) pe_int (nomark _)) (pss_one (ps_ret pe_bl)) pss_nil))))
    (pss_one (ps_ret pe_bl))))))), ?_⟩
  (try dsimp only); (first | refine seqI ?_ | skip); try walk_at "dr2"; (try simp only [sp__law_power, sp__law_worth]); try walk_at "dr2"
  refine ⟨_, .inl hS, ?_⟩
  simp only [List.length_map]
  refine ⟨by omega, by omega, ?_⟩
  obtain ⟨Pc, hPc⟩ : ∃ Pc : Nat → List V → Hp → Prop, ∀ i ys H1, Pc i ys H1 ↔ (H1 = H ∧ ∃ ks : List Int, ys = ks.map V.int ∧ (∀ k : Nat, k < i → f.getD k 0 ≠ 0 → (k : Int) ∈ ks)) := ⟨_, fun _ _ _ => Iff.rfl⟩
  refine compR Pc (by unfold sizeLine; omega) ((hPc _ _ _).mpr ⟨rfl, [], rfl, fun k h => by omega⟩) ?_ ?_
  · intro i ys H1 hi z
    obtain ⟨rfl, ks, rfl, hks⟩ := (hPc _ _ _).mp z
    obtain ⟨x, ex⟩ : ∃ x, f[i]? = some x := ⟨_, List.getElem?_eq_getElem (by omega)⟩
    have ax : atI (f.map V.int) (0 + (i : Int)) = some (.int x) := by
      rw [Int.zero_add]
      exact atI_nat (by rw [List.getElem?_map, ex]; rfl)
    have gx : f.getD i 0 = x := by rw [List.getD_eq_getElem?_getD, ex]; rfl
    try walk_at "dr1"; (try simp only [sp__law_power, sp__law_worth]); try walk_at "dr1"
    refine ⟨_, hS, _, ax, rfl, ite2 (fun c0 => (hPc _ _ _).mpr ⟨rfl, ks ++ [(i : Int)], by rw [List.map_append, Int.zero_add]; rfl, fun k hk hk0 => ?_⟩) (fun c0 => (hPc _ _ _).mpr ⟨rfl, ks, rfl, fun k hk hk0 => ?_⟩)⟩
    · by_cases e : k = i
      · rw [e]; simp
      · exact List.mem_append_left _ (hks k (by omega) hk0)
    · by_cases e : k = i
      · rw [e, gx] at hk0
        exact absurd (fun z => hk0 (V.int.inj z)) c0
      · exact hks k (by omega) hk0
  intro ys H1 z
  obtain ⟨rfl, ks, rfl, hks⟩ := (hPc _ _ _).mp z
  clear hPc z
  obtain ⟨cc, hcc⟩ : ∃ c, Dr.IsCont p f c := by
    obtain ⟨c, hc, _⟩ := id hf
    exact ⟨c, hc⟩
  obtain ⟨dm, hdl, hdm⟩ := Dr.degP_ex _ (Dr.cont_free hcc)
  have len1 := hf.len hpp cc dm hcc hdm
  have fdm : f.getD dm 0 ≠ 0 := fun z => hdm.1 (by
    unfold Dr.pdiv
    rw [List.getD_eq_getElem?_getD, List.getElem?_map]
    rw [List.getD_eq_getElem?_getD] at z
    cases w : f[dm]? with
    | none => simp
    | some v =>
      rw [w] at z
      have : v = 0 := z
      rw [this]
      simp)
  have hin := hks dm (by rw [Dr.pdiv_len] at hdl; omega) fdm
  intro l2 n_l2; generalize e_l2 : upd _ l2 _ = H2; obtain ⟨g2, k2⟩ := newH e_l2 n_l2; clear e_l2
  refine ⟨_, rfl, ks, SqL.of k2, List.length_pos_of_mem hin, fun M' _ hM => ?_⟩
  have lenM : (L.length : Int) ≤ M' := by
    have := hM _ hin
    have := hLM.length_eq
    omega
  have w0 := Dr.pow_pos hp.1 N.toNat
  have kc2 := g2 _ _ kc
  have few := hf.few hpp
  have leL := hLM.length_eq
  (try dsimp only); (first | refine seqI ?_ | skip); try walk_at "dr2"; (try simp only [sp__law_power, sp__law_worth]); try walk_at "dr2"
  refine ⟨hp.1, hp.2, by omega, by omega, ?_⟩
  (try dsimp only); (first | refine seqI ?_ | skip); try walk_at "dr2"; (try simp only [sp__law_power, sp__law_worth]); try walk_at "dr2"
  refine ⟨_, kc2, true, rfl, ?_⟩
  rw [if_neg (by decide)]
  refine ⟨_, .inl (SqL.of kc2), ?_⟩
  rw [List.length_map, if_neg (by omega)]
  refine ⟨_, SqL.of kc2, by omega, fun ms hms hso2 => ?_⟩
  intro l3 n_l3; generalize e_l3 : upd _ l3 _ = H3; obtain ⟨g3, k3⟩ := newH e_l3 n_l3; clear e_l3
  have em := sorted_eq hso2 hso hms
  subst em
  refine neL1 (SqL.of (g3 _ _ kc2)) (SqL.of k3) ⟨_, rfl, ?_⟩
  rw [if_neg (by decide)]
  have G3 := g2.trans g3
  have kc3 := g3 _ _ kc2
  (try dsimp only); (first | refine seqI ?_ | skip); try walk_at "dr2"; (try simp only [sp__law_power, sp__law_worth]); try walk_at "dr2"
  refine ⟨⟨_, SqL.of kc3⟩, ?_⟩
  obtain ⟨Pv, hPv⟩ : ∃ Pv : Nat → St → Hp → Prop, ∀ i σ H4, Pv i σ H4 ↔ (Same H3 H4 ∧ ∃ t6 : Option V, σ = [some (.int p), some (.ref b), some (.int N), some (.ref c), some (.int M'), some (.int (p ^ N.toNat)), t6]) := ⟨_, fun _ _ _ => Iff.rfl⟩
  refine forI ms Pv ((hPv _ _ _).mpr ⟨Same.refl _, none, rfl⟩) (fun i σ H12 z => by obtain ⟨g, _⟩ := (hPv _ _ _).mp z; exact SqL.of (g _ _ kc3)) ?_ ?_
  · intro i x σ H4 hx z
    obtain ⟨g4, t6, rfl⟩ := (hPv _ _ _).mp z
    obtain ⟨⟨x0, x1⟩, x2⟩ := Dr.Found.sound (f := f) (k := 0) hpp hf (fun y => by simp) (.inl rfl) x (hLM.mem_iff.mp (List.mem_of_getElem? hx))
    have bx : Dr.Sm x 700 := by
      have h3 : Dr.Sm (p ^ N.toNat) 700 := (show Dr.Sm _ (10 * N.toNat + 1) from pow_bits hp _).mono (by omega)
      unfold Dr.Sm at h3 ⊢
      omega
    (try dsimp only); (first | refine seqI ?_ | skip); try walk_at "dr2"; (try simp only [sp__law_power, sp__law_worth]); try walk_at "dr2"
    rw [if_neg (by omega), if_neg (by omega)]
    try walk_at "dr1"; (try simp only [sp__law_power, sp__law_worth]); try walk_at "dr1"
    refine ⟨f, (G3.trans g4).seq hS, by omega, m, hb, 700, bx, by omega, by decide, fun H5 g5 => ⟨w0, ?_⟩⟩
    rw [if_neg (by rw [x2]; simp)]
    exact (hPv _ _ _).mpr ⟨g4.trans g5, _, rfl⟩
  intro σ H4 z
  obtain ⟨g4, t6, rfl⟩ := (hPv _ _ _).mp z
  try walk_at "dr1"; (try simp only [sp__law_power, sp__law_worth]); try walk_at "dr1"
  exact q _ (G3.trans g4)
theorem ok_law (B : Bi mg K) (d_single_depth : Def P w K mg base "single_depth" 2 ["p", "f", "a"] (sp_single_depth K)) (d__law_cell_at : Def P w K mg base "_law_cell_at" 1 ["script", "k"] (sp__law_cell_at K)) (d__law_prime : Def P w K mg base "_law_prime" 1 ["cell"] (sp__law_prime K)) (d__law_power : Def P w K mg base "_law_power" 1 ["p", "e"] (sp__law_power K)) (d__law_square : Def P w K mg base "_law_square" 2 ["script", "p"] (sp__law_square K)) (d__law_polynomial : Def P w K mg base "_law_polynomial" 3 ["script", "p"] (sp__law_polynomial K)) (d__law_told : Def P w K mg base "_law_told" 67 ["p", "f", "N"] (sp__law_told K)) (d__law_right : Def P w K mg base "_law_right" 2 ["p", "f", "N", "found"] (sp__law_right K)) (F : Fun K "law" "law" s_law f fd) : FnOk P w K mg base CX0 68 f fd ["script"] (spLaw K) := by
  refine F.ok S_law (fun vs H Q E h => ?_) (fun cdv A outer s H vs Q E hr h => ?_)
  · obtain ⟨a, ns, rfl, _⟩ := h
    rfl
  obtain ⟨la, ns, rfl, hS, hl, hbits, q⟩ := h
  have S := S_law
  refine ⟨_, ((pss_cons (ps_set (i := 1) S.nd rfl (Or.inr rfl) (pe_def d__law_prime hr rfl (pa_cons (pe_def d__law_cell_at hr rfl (pa_cons (pv 0) (pa_cons pe_int pa_nil))) pa_nil)))
    (pss_cons (ps_set (i := 2) S.nd rfl (Or.inl rfl) (pe_def d__law_polynomial hr rfl (pa_cons (pv 0) (pa_cons (pv 1) pa_nil))))
    (pss_cons (ps_set (i := 3) S.nd rfl (Or.inl rfl) (pe_callTy call_list_of rfl B.b_list L2.bt_list (pa_cons (pv 2) pa_nil)))
    (pss_cons (ps_set (i := 4) S.nd rfl (Or.inr rfl) (pe_op op_mod (pe_def d__law_cell_at hr rfl (pa_cons (pv 0) (pa_cons pe_int pa_nil))) pe_int))
    (pss_cons (ps_set (i := 5) S.nd rfl (Or.inr rfl) (pe_op op_mod (pe_op op_mod (pe_op op_fdivW (pe_def d__law_cell_at hr rfl (pa_cons (pv 0) (pa_cons pe_int pa_nil))) pe_int) pe_int) (pe_op op_add (pv 4) pe_int)))
    (pss_cons (ps_asg (pe_def d__law_told hr rfl (pa_cons (pv 1) (pa_cons (pv 3) (pa_cons (pv 4) pa_nil)))) (pg_tup rfl (pgs_cons (pg_name (i := 6) S.nd rfl (Or.inl rfl)) (pgs_cons (pg_name (i := 7) S.nd rfl (Or.inl rfl)) pgs_nil))))
    (pss_cons (ps_asg (pe_def d__law_told hr rfl (pa_cons (pv 1) (pa_cons (pv 3) (pa_cons (pv 5) pa_nil)))) (pg_tup rfl (pgs_cons (pg_name (i := 8) S.nd rfl (Or.inl rfl)) (pgs_cons (pg_name (i := 9) S.nd rfl (Or.inl rfl)) pgs_nil))))
    (pss_cons (ps_if (pt_cmpR (op_eqD hr.units) (pv 2) (pe_op op_rep (pe_lst (pa_cons pe_int pa_nil)) (pe_callB call_len_seq rfl B.b_len PySem.boot_len (pa_cons (pv 2) pa_nil))) (nomark _)) (pss_one (ps_ret (pe_and (pe_cmpR op_eq (pv 6) pe_int (nomark _)) (pe_and (pe_cmpR op_eq (pv 8) pe_int (nomark _)) (pe_one (pe_cmpR (op_eqD hr.units) (pv 3) (pv 2) (nomark _))))))) pss_nil)
    (pss_cons (ps_if (PW.pt (pw_or (pt_cmpR op_ne (pv 6) (pv 8) (nomark _)) (pw_or (pt_cmpR op_eq (pv 6) pe_int (nomark _)) (pw_or1 (pt_cmpR (op_neD hr.units) (pv 3) (pv 2) (nomark _)))))) (pss_one (ps_ret pe_bl)) pss_nil)
    (pss_cons (ps_if (pt_cmpR op_eq (pv 6) pe_int (nomark _)) (pss_one (ps_ret pe_bl)) pss_nil)
    (pss_cons (ps_if (PW.pt (pw_or (pt_not (pt_val (pe_def d__law_right hr rfl (pa_cons (pv 1) (pa_cons (pv 2) (pa_cons (pv 4) (pa_cons (pv 7) pa_nil))))))) (pw_or1 (pt_not (pt_val (pe_def d__law_right hr rfl (pa_cons (pv 1) (pa_cons (pv 2) (pa_cons (pv 5) (pa_cons (pv 9) pa_nil)))))))))) (pss_one (ps_ret pe_bl)) pss_nil)
    (pss_cons (ps_if (pt_cmpR (op_neD hr.units) (pe_callB (call_sortedI rfl) rfl B.b_sorted bt_sorted (pa_cons (pe_comp [5, 1] ["N", "p"] rfl rfl ⟨rfl, rfl, trivial⟩ ⟨rfl, rfl, rfl, rfl, rfl, rfl, rfl, rfl, trivial⟩ rfl rfl (by decide) (by decide) rfl rfl (by decide) (pi_list (pv 7)) (fun _ _ _ _ => pts_nil) (fun _ _ _ _ => (pe_op op_mod (pv 0) (pe_def d__law_power hr rfl (pa_cons (pv 2) (pa_cons (pv 1) pa_nil)))))) pa_nil)) (pv 9) (nomark _)) (pss_one (ps_ret pe_bl)) pss_nil)
    (pss_cons (ps_join (ps_if (pt_cmpR op_eq (pe_op op_mod (pe_op op_fdivW (pe_def d__law_cell_at hr rfl (pa_cons (pv 0) (pa_cons pe_int pa_nil))) pe_int) pe_int) pe_int (nomark _)) (pss_cons (ps_asg (pe_def d__law_square hr rfl (pa_cons (pv 0) (pa_cons (pv 1) pa_nil))) (pg_lst rfl (pgs_cons (pg_name (i := 10) S.nd rfl (Or.inr rfl)) (pgs_cons (pg_name (i := 11) S.nd rfl (Or.inr rfl)) pgs_nil))))
    (pss_one (ps_if (pt_cmpR op_lt (pe_callB call_len_seq rfl B.b_len PySem.boot_len (pa_cons (pe_comp [4, 1, 11, 10] ["deep", "p", "s", "t"] rfl rfl ⟨rfl, rfl, rfl, rfl, trivial⟩ ⟨rfl, rfl, rfl, rfl, rfl, rfl, rfl, rfl, rfl, rfl, rfl, rfl, rfl, rfl, rfl, rfl, trivial⟩ rfl rfl (by decide) (by decide) rfl rfl (by decide) (pi_list (pv 7)) (fun _ _ _ _ => (pts_one (pt_cmpR op_eq (pe_op op_mod (pe_op op_sub (pe_op op_mulW (pe_op op_sub (pv 0) (pv 4)) (pe_op op_sub (pv 0) (pv 4))) (pv 3)) (pe_def d__law_power hr rfl (pa_cons (pv 2) (pa_cons (pv 1) pa_nil)))) pe_int (nomark _)))) (fun _ _ _ _ => (pv 0))) pa_nil)) pe_int (nomark _)) (pss_one (ps_ret pe_bl)) pss_nil))) pss_nil))
    (pss_cons (ps_set (i := 12) S.nd rfl (Or.inl rfl) (pe_callB (call_min2 rfl) rfl B.b_min L2.bt_min (pa_cons (pv 4) (pa_cons (pe_op op_add (pe_op op_add pe_int (pe_callTy call_intB rfl B.b_int L2.bt_int (pa_cons (pe_cmpR op_lt (pv 1) pe_int (nomark _)) pa_nil))) (pe_callTy call_intB rfl B.b_int L2.bt_int (pa_cons (pe_cmpR op_lt (pv 1) pe_int (nomark _)) pa_nil))) pa_nil))))
    (pss_cons (ps_for PassesOwn.never rfl (pi_range1 rfl B.b_range (pa_cons (pe_def d__law_power hr rfl (pa_cons (pv 1) (pa_cons (pv 12) pa_nil))) pa_nil)) (pg_name (i := 13) S.nd rfl (Or.inr rfl)) (pss_cons (ps_set (i := 14) S.nd rfl (Or.inl rfl) (pe_def d_single_depth hr rfl (pa_cons (pv 1) (pa_cons (pv 3) (pa_cons (pv 13) pa_nil)))))
    (pss_one (ps_if (PW.pt (pw_and (pt_cmpR op_notN (pv 14) pe_non (nomark _)) (pw_and1 (pt_cmpR op_lt (pv 14) (pv 12) (nomark _))))) (pss_cons (ps_set (i := 15) S.nd rfl (Or.inr rfl) (pe_def d__law_power hr rfl (pa_cons (pv 1) (pa_cons (pe_op op_add (pv 14) pe_int) pa_nil))))
    (pss_one (ps_if (pt_cmpR (op_eqD hr.units) (pe_comp [15, 13] ["near", "x"] rfl rfl ⟨rfl, rfl, trivial⟩ ⟨rfl, rfl, rfl, rfl, rfl, rfl, rfl, rfl, trivial⟩ rfl rfl (by decide) (by decide) rfl rfl (by decide) (pi_list (pv 7)) (fun _ _ _ _ => (pts_one (pt_cmpR op_eq (pe_op op_mod (pe_op op_sub (pv 0) (pv 2)) (pv 1)) pe_int (nomark _)))) (fun _ _ _ _ => pe_int)) (pe_lst pa_nil) (nomark _)) (pss_one (ps_ret pe_bl)) pss_nil))) pss_nil))))
    (pss_one (ps_ret pe_bl)))))))))))))))))), ?_⟩
  (try dsimp only); (first | refine seqI ?_ | skip); try walk_at "dr2"; (try simp only [sp_single_depth, sp__law_cell_at, sp__law_prime, sp__law_power, sp__law_square, sp__law_polynomial, sp__law_told, sp__law_right]); try walk_at "dr2"
  refine ⟨ns, hS, hl, fun p H1 hpp g1 => ?_⟩
  have p2 := Dr.primes_ge hpp
  have hp : 2 ≤ p ∧ p < 1000 := by omega
  (try dsimp only); (first | refine seqI ?_ | skip); try walk_at "dr2"; (try simp only [sp_single_depth, sp__law_cell_at, sp__law_prime, sp__law_power, sp__law_square, sp__law_polynomial, sp__law_told, sp__law_right]); try walk_at "dr2"
  refine ⟨ns, g1.seq hS, hl, hp.1, hp.2, fun lf f H2 ⟨lf1, lf9⟩ bf hsq g2 kf => ?_⟩
  (try dsimp only); (first | refine seqI ?_ | skip); try walk_at "dr2"; (try simp only [sp_single_depth, sp__law_cell_at, sp__law_prime, sp__law_power, sp__law_square, sp__law_polynomial, sp__law_told, sp__law_right]); try walk_at "dr2"
  refine ⟨_, .inl (SqL.of kf), ?_⟩
  intro lh n_lh; generalize e_lh : upd _ lh _ = H3; obtain ⟨g3, kh⟩ := newH e_lh n_lh; clear e_lh
  have G3 := g1.trans (g2.trans g3)
  have kf3 := g3 _ _ kf
  (try dsimp only); (first | refine seqI ?_ | skip); try walk_at "dr2"; (try simp only [sp_single_depth, sp__law_cell_at, sp__law_prime, sp__law_power, sp__law_square, sp__law_polynomial, sp__law_told, sp__law_right]); try walk_at "dr2"
  refine ⟨ns, G3.seq hS, hl, ?_⟩
  have m41 := mod_in (cellz ns 1) (show (0 : Int) < 41 by decide)
  obtain ⟨deep, ed⟩ : ∃ deep, deep = cellz ns 1 % 41 := ⟨_, rfl⟩
  rw [← ed] at m41 ⊢
  (try dsimp only); (first | refine seqI ?_ | skip); try walk_at "dr2"; (try simp only [sp_single_depth, sp__law_cell_at, sp__law_prime, sp__law_power, sp__law_square, sp__law_polynomial, sp__law_told, sp__law_right]); try walk_at "dr2"
  refine ⟨ns, G3.seq hS, hl, ⟨by decide, by decide⟩, by omega, ?_⟩
  have mN := mod_in (cellz ns 1 / 41 % 41) (show (0 : Int) < deep + 1 by omega)
  generalize cellz ns 1 / 41 % 41 % (deep + 1) = N at mN ⊢
  (try dsimp only); (first | refine seqI ?_ | skip); try walk_at "dr2"; (try simp only [sp_single_depth, sp__law_cell_at, sp__law_prime, sp__law_power, sp__law_square, sp__law_polynomial, sp__law_told, sp__law_right]); try walk_at "dr2"
  refine ⟨f, SqL.of kh, by omega, by omega, hpp, by omega, by omega, 400, bf, by decide, fun t c L w H4 hw g4 kc kt => ⟨_, SqT.of kt, rfl, _, _, rfl, _, _, rfl, rfl, ?_⟩⟩
  (try dsimp only); (first | refine seqI ?_ | skip); try walk_at "dr2"; (try simp only [sp_single_depth, sp__law_cell_at, sp__law_prime, sp__law_power, sp__law_square, sp__law_polynomial, sp__law_told, sp__law_right]); try walk_at "dr2"
  refine ⟨f, SqL.of (g4 _ _ kh), by omega, by omega, hpp, by omega, by omega, 400, bf, by decide, fun t' c' L' w' H5 hw' g5 kc' kt' => ⟨_, SqT.of kt', rfl, _, _, rfl, _, _, rfl, rfl, ?_⟩⟩
  have G5 := g4.trans g5
  have kf5 := G5 _ _ kf3
  have kh5 := G5 _ _ kh
  have kc5 := g5 _ _ kc
  (try dsimp only); (first | refine seqI ?_ | skip); try walk_at "dr2"; (try simp only [sp_single_depth, sp__law_cell_at, sp__law_prime, sp__law_power, sp__law_square, sp__law_polynomial, sp__law_told, sp__law_right]); try walk_at "dr2"
  refine ⟨by decide, ?_⟩
  intro l6 n_l6; generalize e_l6 : upd _ l6 _ = H6; obtain ⟨g6, k6⟩ := newH e_l6 n_l6; clear e_l6
  refine ⟨_, .inl (SqL.of (g6 _ _ kf5)), _, k6, by simp only [List.length_map]; omega, by simp only [List.length_map]; omega, by simp only [List.length_cons, List.length_nil, List.length_map]; unfold sizeLine; omega, ?_⟩
  intro l7 n_l7; generalize e_l7 : upd _ l7 _ = H7; obtain ⟨g7, k7⟩ := newH e_l7 n_l7; clear e_l7
  rw [rep_zero] at k7
  have g67 := g6.trans g7
  have kf7 := g67 _ _ kf5
  have kh7 := g67 _ _ kh5
  have kc7 := g67 _ _ kc5
  have kc7' := g67 _ _ kc'
  have G7 := G3.trans (G5.trans g67)
  refine eqL (SqL.of kf7) (SqL.of k7) ⟨_, rfl, ?_⟩
  have rl : ((((f.map V.int).length : Nat) : Int)).toNat = f.length := by rw [List.length_map]; omega
  rw [rl]
  by_cases cz : f = List.replicate f.length 0
  · rw [if_pos (decide_eq_true cz)]
    have hz : ∀ x, x ∈ f → x = 0 := fun x hx => by
      rw [cz] at hx
      exact (List.mem_replicate.mp hx).2
    have w2 : w = 2 := by
      rcases hw with ⟨e, _⟩ | ⟨_, _, x, hx, x0⟩ | ⟨_, M, hM, _⟩
      · exact e
      · exact absurd (hz x hx) x0
      · obtain ⟨cc, hc, _⟩ := id hM
        obtain ⟨x, hx, n⟩ := hc.one
        exact absurd (by rw [hz x hx]; simp) n
    have w2' : w' = 2 := by
      rcases hw' with ⟨e, _⟩ | ⟨_, _, x, hx, x0⟩ | ⟨_, M, hM, _⟩
      · exact e
      · exact absurd (hz x hx) x0
      · obtain ⟨cc, hc, _⟩ := id hM
        obtain ⟨x, hx, n⟩ := hc.one
        exact absurd (by rw [hz x hx]; simp) n
    subst w2 w2'
    rw [if_pos rfl, if_pos rfl]
    exact eqL1 (SqL.of kh7) (SqL.of kf7) (q _)
  rw [if_neg (by simp [cz])]
  have nz : ∃ x, x ∈ f ∧ x ≠ 0 := Classical.byContradiction fun z => cz (List.eq_replicate_iff.mpr ⟨rfl, fun x hx => Classical.byContradiction fun y => z ⟨x, hx, y⟩⟩)
  have three : (w = 1 ∧ w' = 1) ∨ (w = 0 ∧ w' = 0 ∧ ∃ M, Dr.Found p deep.toNat 60 0 0 f M ∧ L.Perm M ∧ L.Pairwise (· ≤ ·) ∧ L'.Pairwise (· ≤ ·) ∧ ∃ M', Dr.Found p N.toNat 60 0 0 f M' ∧ L'.Perm M') := by
    have z1 : ¬ ∀ x, x ∈ f → x = 0 := fun z => by
      obtain ⟨x, hx, x0⟩ := nz
      exact x0 (z x hx)
    rcases hw with ⟨_, e⟩ | ⟨e, d1, _⟩ | ⟨e, M, hM, hP, hs⟩
    · exact absurd e z1
    · rcases hw' with ⟨_, e'⟩ | ⟨e', _⟩ | ⟨_, M', hM', _⟩
      · exact absurd e' z1
      · exact .inl ⟨e, e'⟩
      · exact absurd d1 (hM'.not_deep (by omega))
    · rcases hw' with ⟨_, e'⟩ | ⟨_, d1, _⟩ | ⟨e', M', hM', hP', hs'⟩
      · exact absurd e' z1
      · exact absurd d1 (hM.not_deep (by omega))
      · exact .inr ⟨e, e', M, hM, hP, hs, hs', M', hM', hP'⟩
  (try dsimp only); (first | refine seqI ?_ | skip); try walk_at "dr2"; (try simp only [sp_single_depth, sp__law_cell_at, sp__law_prime, sp__law_power, sp__law_square, sp__law_polynomial, sp__law_told, sp__law_right]); try walk_at "dr2"
  rcases three with ⟨rfl, rfl⟩ | ⟨rfl, rfl, M, hM, hP, hs, hs', M', hM', hP'⟩
  · rw [if_neg (by simp), if_neg (by decide)]
    refine neL1 (SqL.of kh7) (SqL.of kf7) ⟨_, rfl, ?_⟩
    rw [if_neg (by decide)]
    (try dsimp only); (first | refine seqI ?_ | skip); try walk_at "dr2"; (try simp only [sp_single_depth, sp__law_cell_at, sp__law_prime, sp__law_power, sp__law_square, sp__law_polynomial, sp__law_told, sp__law_right]); try walk_at "dr2"
    exact q _
  rw [if_neg (by simp), if_neg (by decide)]
  refine neL1 (SqL.of kh7) (SqL.of kf7) ⟨_, rfl, ?_⟩
  rw [if_neg (by decide)]
  (try dsimp only); (first | refine seqI ?_ | skip); try walk_at "dr2"; (try simp only [sp_single_depth, sp__law_cell_at, sp__law_prime, sp__law_power, sp__law_square, sp__law_polynomial, sp__law_told, sp__law_right]); try walk_at "dr2"
  rw [if_neg (by decide)]
  (try dsimp only); (first | refine seqI ?_ | skip); try walk_at "dr2"; (try simp only [sp_single_depth, sp__law_cell_at, sp__law_prime, sp__law_power, sp__law_square, sp__law_polynomial, sp__law_told, sp__law_right]); try walk_at "dr2"
  refine ⟨f, SqL.of kf7, L, kc7, by omega, by omega, hpp, by omega, by omega, M, 400, bf, by decide, nz, hM, hP, hs, fun H8 g8 => ?_⟩
  refine ⟨f, SqL.of (g8 _ _ kf7), L', g8 _ _ kc7', by omega, by omega, hpp, by omega, by omega, M', 400, bf, by decide, nz, hM', hP', hs', fun H9 g9 => ?_⟩
  have G9 := g8.trans g9
  have kf9 := G9 _ _ kf7
  have kh9 := G9 _ _ kh7
  have kc9 := G9 _ _ kc7
  have kc9' := G9 _ _ kc7'
  have few := hM.few hpp
  have leL := hP.length_eq
  have qN := Dr.pow_pos hp.1 N.toNat
  (try dsimp only); (first | refine seqI ?_ | skip); try walk_at "dr2"; (try simp only [sp_single_depth, sp__law_cell_at, sp__law_prime, sp__law_power, sp__law_square, sp__law_polynomial, sp__law_told, sp__law_right]); try walk_at "dr2"
  refine ⟨⟨_, SqL.of kc9⟩, ?_⟩
  obtain ⟨Pc, hPc⟩ : ∃ Pc : Nat → List V → Hp → Prop, ∀ i ys H10, Pc i ys H10 ↔ (H10 = H9 ∧ ys = ((L.take i).map (· % p ^ N.toNat)).map V.int) := ⟨_, fun _ _ _ => Iff.rfl⟩
  refine compI L Pc (by unfold sizeLine; omega) ((hPc _ _ _).mpr ⟨rfl, by simp⟩) (fun i ys H4 z => by obtain ⟨rfl, _⟩ := (hPc _ _ _).mp z; exact SqL.of kc9) ?_ ?_
  · intro j x ys H10 hx z
    obtain ⟨rfl, rfl⟩ := (hPc _ _ _).mp z
    try walk_at "dr1"; (try simp only [sp_single_depth, sp__law_cell_at, sp__law_prime, sp__law_power, sp__law_square, sp__law_polynomial, sp__law_told, sp__law_right]); try walk_at "dr1"
    refine ⟨hp.1, hp.2, by omega, by omega, qN, (hPc _ _ _).mpr ⟨rfl, ?_⟩⟩
    rw [List.take_add_one, hx, List.map_append, List.map_append]
    rfl
  intro ys H10 z
  obtain ⟨rfl, rfl⟩ := (hPc _ _ _).mp z
  rw [List.take_length]
  clear hPc z
  intro l11 n_l11; generalize e_l11 : upd _ l11 _ = H11; obtain ⟨g11, k11⟩ := newH e_l11 n_l11; clear e_l11
  refine ⟨_, rfl, _, SqL.of k11, by rw [List.length_map]; omega, fun ms hms hso2 => ?_⟩
  intro l12 n_l12; generalize e_l12 : upd _ l12 _ = H12; obtain ⟨g12, k12⟩ := newH e_l12 n_l12; clear e_l12
  have eM : M' = M.map (· % p ^ N.toNat) := hM'.fn hpp (hM.low hp.1 (by omega))
  have em : ms = L' := sorted_eq hso2 hs' (hms.trans ((hP.map _).trans (by rw [← eM]; exact hP'.symm)))
  subst em
  have g112 := g11.trans g12
  refine neL1 (SqL.of k12) (SqL.of (g112 _ _ kc9')) ⟨_, rfl, ?_⟩
  rw [if_neg (by decide)]
  have kh12 := g112 _ _ kh9
  have kc12 := g112 _ _ kc9
  have kf12 := g112 _ _ kf9
  have G12 := G7.trans (G9.trans g112)
  refine seqI ?_
  obtain ⟨R, hR⟩ : ∃ R : St → Hp → Prop, ∀ σ' H13, R σ' H13 ↔ (Same H12 H13 ∧ ∃ t10 t11 : Option V, σ' = [some (.ref la), some (.int p), some (.ref lf), some (.ref lh), some (.int deep), some (.int N), some (.int 0), some (.ref c), some (.int 0), some (.ref c'), t10, t11, none, none, none, none]) := ⟨_, fun _ _ => Iff.rfl⟩
  refine joinB R ?_ ?_
  · try walk_at "dr1"; (try simp only [sp_single_depth, sp__law_cell_at, sp__law_prime, sp__law_power, sp__law_square, sp__law_polynomial, sp__law_told, sp__law_right]); try walk_at "dr1"
    refine ⟨ns, G12.seq hS, hl, ⟨by decide, by decide⟩, ite2 (fun c2 => ?_) (fun _ => (hR _ _).mpr ⟨Same.refl _, _, _, rfl⟩)⟩
    obtain ⟨f0, hf0⟩ := hsq c2
    obtain ⟨x1, x2, R2, hR2, sx1, sx2⟩ := Dr.square_two (t := sqT ns) (r := sqR ns p) (j := sqJ ns) hpp (sqR_b ns hp.1) rfl hf0 hM
    have qD := Dr.pow_pos hp.1 deep.toNat
    have bT := sqT_b ns
    have bS := sqS_b ns hp
    refine ⟨ns, G12.seq hS, hl, hp.1, hp.2, fun c8 H13 g13 k13 => ⟨_, SqL.of k13, rfl, _, _, rfl, _, _, rfl, rfl, ⟨_, SqL.of (g13 _ _ kc12)⟩, ?_⟩⟩
    obtain ⟨Pc, hPc⟩ : ∃ Pc : Nat → List V → Hp → Prop, ∀ i ys H14, Pc i ys H14 ↔ (H14 = H13 ∧ ys = ((L.take i).filter fun x => decide (((x - sqT ns) * (x - sqT ns) - sqS ns p) % p ^ deep.toNat = 0)).map V.int) := ⟨_, fun _ _ _ => Iff.rfl⟩
    refine compI L Pc (by unfold sizeLine; omega) ((hPc _ _ _).mpr ⟨rfl, by simp⟩) (fun i ys H4 z => by obtain ⟨rfl, _⟩ := (hPc _ _ _).mp z; exact SqL.of (g13 _ _ kc12)) ?_ ?_
    · intro j x ys H14 hx z
      obtain ⟨rfl, rfl⟩ := (hPc _ _ _).mp z
      obtain ⟨⟨x0, x1'⟩, _⟩ := Dr.Found.sound (f := f) (k := 0) hpp hM (fun y => by simp) (.inl rfl) x (hP.mem_iff.mp (List.mem_of_getElem? hx))
      have bx : Dr.Sm x 700 := by
        have h3 : Dr.Sm (p ^ deep.toNat) 700 := (show Dr.Sm _ (10 * deep.toNat + 1) from pow_bits hp _).mono (by omega)
        unfold Dr.Sm at h3 ⊢
        omega
      try walk_at "dr1"; (try simp only [sp_single_depth, sp__law_cell_at, sp__law_prime, sp__law_power, sp__law_square, sp__law_polynomial, sp__law_told, sp__law_right]); try walk_at "dr1"
      refine ⟨mulSm (bx.sub bT) (bx.sub bT) (by decide), hp.1, hp.2, by omega, by omega, qD, ite2 (fun cc => (hPc _ _ _).mpr ⟨rfl, ?_⟩) (fun cc => (hPc _ _ _).mpr ⟨rfl, ?_⟩)⟩
      · rw [List.take_add_one, hx, List.filter_append, List.map_append]
        simp [cc]
      · rw [List.take_add_one, hx, List.filter_append, List.map_append]
        simp [cc]
    intro ys H14 z
    obtain ⟨rfl, rfl⟩ := (hPc _ _ _).mp z
    rw [List.take_length]
    intro l15 n_l15; generalize e_l15 : upd _ l15 _ = H15; obtain ⟨g15, k15⟩ := newH e_l15 n_l15; clear e_l15
    have two : 2 ≤ (L.filter fun x => decide (((x - sqT ns) * (x - sqT ns) - sqS ns p) % p ^ deep.toNat = 0)).length := by
      have sx1 : ((x1 - sqT ns) * (x1 - sqT ns) - sqS ns p) % p ^ deep.toNat = 0 := sx1
      have sx2 : ((x2 - sqT ns) * (x2 - sqT ns) - sqS ns p) % p ^ deep.toNat = 0 := sx2
      rw [((hP.trans hR2).filter _).length_eq, List.filter_cons, if_pos (decide_eq_true sx1), List.filter_cons, if_pos (decide_eq_true sx2)]
      simp
    refine ⟨_, rfl, _, .inl (SqL.of k15), ?_⟩
    rw [List.length_map, if_neg (by omega)]
    exact (hR _ _).mpr ⟨g13.trans g15, _, _, rfl⟩
  intro σ' H13 z
  obtain ⟨g13, t10, t11, rfl⟩ := (hR _ _).mp z
  clear hR z
  (try dsimp only); (first | refine seqI ?_ | skip); try walk_at "dr2"; (try simp only [sp_single_depth, sp__law_cell_at, sp__law_prime, sp__law_power, sp__law_square, sp__law_polynomial, sp__law_told, sp__law_right]); try walk_at "dr2"
  generalize es : (if _ < deep then _ else deep) = small
  have bs : 0 ≤ small ∧ small ≤ 3 ∧ small ≤ deep := by
    rw [← es]
    split <;> split <;> split <;> omega
  clear es
  have kh13 := g13 _ _ kh12
  have kc13 := g13 _ _ kc12
  have qs := Dr.pow_pos hp.1 small.toNat
  have bq : p ^ small.toNat ≤ 1000000000 := by
    have h1 : p.toNat ^ small.toNat ≤ 1000 ^ 3 := Nat.le_trans (Nat.pow_le_pow_left (by omega) _) (Nat.pow_le_pow_right (by decide) (by omega))
    have h2 : ((p.toNat ^ small.toNat : Nat) : Int) ≤ ((1000 ^ 3 : Nat) : Int) := Int.ofNat_le.mpr h1
    have h3 : ((p.toNat ^ small.toNat : Nat) : Int) = p ^ small.toNat := by rw [Int.natCast_pow, Int.toNat_of_nonneg (by omega)]
    rw [h3] at h2
    omega
  (try dsimp only); (first | refine seqI ?_ | skip); try walk_at "dr2"; (try simp only [sp_single_depth, sp__law_cell_at, sp__law_prime, sp__law_power, sp__law_square, sp__law_polynomial, sp__law_told, sp__law_right]); try walk_at "dr2"
  refine ⟨hp.1, hp.2, by omega, by omega, by omega, by omega, ?_⟩
  obtain ⟨Pv, hPv⟩ : ∃ Pv : Nat → St → Hp → Prop, ∀ i σ H14, Pv i σ H14 ↔ (Same H13 H14 ∧ ∃ t13 t14 t15 : Option V, σ = [some (.ref la), some (.int p), some (.ref lf), some (.ref lh), some (.int deep), some (.int N), some (.int 0), some (.ref c), some (.int 0), some (.ref c'), t10, t11, some (.int small), t13, t14, t15]) := ⟨_, fun _ _ _ => Iff.rfl⟩
  refine forR Pv ((hPv _ _ _).mpr ⟨Same.refl _, _, _, _, rfl⟩) ?_ (fun σ H' _ => ?_)
  case refine_2 =>
    try walk_at "dr1"; (try simp only [sp_single_depth, sp__law_cell_at, sp__law_prime, sp__law_power, sp__law_square, sp__law_polynomial, sp__law_told, sp__law_right]); try walk_at "dr1"
    exact q _
  intro i σ H14 hi z
  obtain ⟨g14, t13, t14, t15, rfl⟩ := (hPv _ _ _).mp z
  have bx : Dr.Sm (0 + (i : Int)) 40 := sm_of 1000000000 (by omega) (by decide)
  (try dsimp only); (first | refine seqI ?_ | skip); try walk_at "dr2"; (try simp only [sp_single_depth, sp__law_cell_at, sp__law_prime, sp__law_power, sp__law_square, sp__law_polynomial, sp__law_told, sp__law_right]); try walk_at "dr2"
  refine ⟨f, SqL.of (g14 _ _ kh13), by omega, by omega, 400, bf, 40, bx, by decide, by decide, hp.1, hp.2, fun H15 g15 => ⟨fun d u hd hd1 => ?_, fun _ => ?_⟩⟩
  case refine_2 =>
    try walk_at "dr1"; (try simp only [sp_single_depth, sp__law_cell_at, sp__law_prime, sp__law_power, sp__law_square, sp__law_polynomial, sp__law_told, sp__law_right]); try walk_at "dr1"
    exact (hPv _ _ _).mpr ⟨g14.trans g15, _, _, _, rfl⟩
  try walk_at "dr1"; (try simp only [sp_single_depth, sp__law_cell_at, sp__law_prime, sp__law_power, sp__law_square, sp__law_polynomial, sp__law_told, sp__law_right]); try walk_at "dr1"
  refine ite2 (fun cd => ?_) (fun _ => (hPv _ _ _).mpr ⟨g14.trans g15, _, _, _, rfl⟩)
  refine ⟨hp.1, hp.2, by omega, by omega, ?_⟩
  rw [show ((d : Int) + 1).toNat = d + 1 by omega]
  have G15 := g14.trans g15
  have kc15 := G15 _ _ kc13
  have q1 := Dr.pow_pos hp.1 (d + 1)
  obtain ⟨r0, hr0, nr0⟩ := hd.told hpp (by omega) hM
  refine ⟨⟨_, SqL.of kc15⟩, ?_⟩
  obtain ⟨Pe, hPe⟩ : ∃ Pe : Nat → List V → Hp → Prop, ∀ j ys H16, Pe j ys H16 ↔ (H16 = H15 ∧ ∃ os : List Int, ys = os.map V.int ∧ ((∃ x, x ∈ L.take j ∧ (x - (0 + (i : Int))) % p ^ (d + 1) = 0) → os ≠ [])) := ⟨_, fun _ _ _ => Iff.rfl⟩
  refine compI L Pe (by unfold sizeLine; omega) ((hPe _ _ _).mpr ⟨rfl, [], rfl, fun ⟨x, hx, _⟩ => by simp at hx⟩) (fun i ys H4 z => by obtain ⟨rfl, _⟩ := (hPe _ _ _).mp z; exact SqL.of kc15) ?_ ?_
  · intro j x ys H16 hx z
    obtain ⟨rfl, os, rfl, ho⟩ := (hPe _ _ _).mp z
    try walk_at "dr1"; (try simp only [sp_single_depth, sp__law_cell_at, sp__law_prime, sp__law_power, sp__law_square, sp__law_polynomial, sp__law_told, sp__law_right]); try walk_at "dr1"
    refine ⟨q1, ite2 (fun cc => (hPe _ _ _).mpr ⟨rfl, os ++ [1], by rw [List.map_append]; rfl, fun _ => by simp⟩) (fun cc => (hPe _ _ _).mpr ⟨rfl, os, rfl, fun ⟨y, hy, hy2⟩ => ?_⟩)⟩
    rw [List.take_add_one, hx] at hy
    rcases List.mem_append.mp hy with w | w
    · exact ho ⟨y, w, hy2⟩
    · have : y = x := by simpa using w
      rw [this] at hy2
      exact absurd hy2 cc
  intro ys H16 z
  obtain ⟨rfl, os, rfl, ho⟩ := (hPe _ _ _).mp z
  rw [List.take_length] at ho
  have one := ho ⟨r0, hP.mem_iff.mpr hr0, nr0⟩
  intro l17 n_l17; generalize e_l17 : upd _ l17 _ = H17; obtain ⟨g17, k17⟩ := newH e_l17 n_l17; clear e_l17
  refine ⟨by decide, ?_⟩
  intro l18 n_l18; generalize e_l18 : upd _ l18 _ = H18; obtain ⟨g18, k18⟩ := newH e_l18 n_l18; clear e_l18
  have k18 : H18 l18 = some (.lst (([] : List Int).map V.int)) := k18
  refine eqL (SqL.of (g18 _ _ k17)) (SqL.of k18) ⟨_, rfl, ?_⟩
  rw [if_neg (by simp [one])]
  exact (hPv _ _ _).mpr ⟨G15.trans (g17.trans g18), _, _, _, rfl⟩
theorem all_mk {h : Heap} {fa f1 f2 f3 f4 f5 f6 f7 f8 f9 f10 f11 f12 f13 f14 f15 f16 f17 f18 f19 f20 f21 f22 f23 f24 f25 f26 f27 f28 : Addr} (X : K.In h) (G : h.Ns mainGlobals mg) (hfa : mg "law" = some (.ref fa))
    {od1 an1 od2 an2 od3 an3 od4 an4 od5 an5 od6 an6 od7 an7 od8 an8 od9 an9 od10 an10 od11 an11 od12 an12 od13 an13 od14 an14 od15 an15 od16 an16 od17 an17 od18 an18 od19 an19 od20 an20 od21 an21 od22 an22 od23 an23 od24 an24 od25 an25 od26 an26 od27 an27 od28 an28 : Option Addr} {sl1 sl2 sl3 sl4 sl5 sl6 sl7 sl8 sl9 sl10 sl11 sl12 sl13 sl14 sl15 sl16 sl17 sl18 sl19 sl20 sl21 sl22 sl23 sl24 sl25 sl26 sl27 sl28 : Array (Option Value)} {oc1 kV1 dc1 pm1 cd1 ct1 oc2 kV2 dc2 pm2 cd2 ct2 oc3 kV3 dc3 pm3 cd3 ct3 oc4 kV4 dc4 pm4 cd4 ct4 oc5 kV5 dc5 pm5 cd5 ct5 oc6 kV6 dc6 pm6 cd6 ct6 oc7 kV7 dc7 pm7 cd7 ct7 oc8 kV8 dc8 pm8 cd8 ct8 oc9 kV9 dc9 pm9 cd9 ct9 oc10 kV10 dc10 pm10 cd10 ct10 oc11 kV11 dc11 pm11 cd11 ct11 oc12 kV12 dc12 pm12 cd12 ct12 oc13 kV13 dc13 pm13 cd13 ct13 oc14 kV14 dc14 pm14 cd14 ct14 oc15 kV15 dc15 pm15 cd15 ct15 oc16 kV16 dc16 pm16 cd16 ct16 oc17 kV17 dc17 pm17 cd17 ct17 oc18 kV18 dc18 pm18 cd18 ct18 oc19 kV19 dc19 pm19 cd19 ct19 oc20 kV20 dc20 pm20 cd20 ct20 oc21 kV21 dc21 pm21 cd21 ct21 oc22 kV22 dc22 pm22 cd22 ct22 oc23 kV23 dc23 pm23 cd23 ct23 oc24 kV24 dc24 pm24 cd24 ct24 oc25 kV25 dc25 pm25 cd25 ct25 oc26 kV26 dc26 pm26 cd26 ct26 oc27 kV27 dc27 pm27 cd27 ct27 oc28 kV28 dc28 pm28 cd28 ct28 : Value}
    (a1 : PySem.W.nsIn K mainGlobals "depth_of" = some (some (.ref f1))) (l1 : K.lookup f1 = some ⟨oc1, od1, .func (PySem.W.fnOf "depth_of" "depth_of" (defArgs s_depth_of) (defBody s_depth_of) (defScope s_depth_of) .none kV1 dc1 pm1 an1 cd1 ct1), sl1⟩) (c1 : PySem.W.codeIn K cd1 "depth_of" = true) (k1 : PySem.W.keepIn K (.ref f1) = true)
    (a2 : PySem.W.nsIn K mainGlobals "power_of" = some (some (.ref f2))) (l2 : K.lookup f2 = some ⟨oc2, od2, .func (PySem.W.fnOf "power_of" "power_of" (defArgs s_power_of) (defBody s_power_of) (defScope s_power_of) .none kV2 dc2 pm2 an2 cd2 ct2), sl2⟩) (c2 : PySem.W.codeIn K cd2 "power_of" = true) (k2 : PySem.W.keepIn K (.ref f2) = true)
    (a3 : PySem.W.nsIn K mainGlobals "inverse_by_prime" = some (some (.ref f3))) (l3 : K.lookup f3 = some ⟨oc3, od3, .func (PySem.W.fnOf "inverse_by_prime" "inverse_by_prime" (defArgs s_inverse_by_prime) (defBody s_inverse_by_prime) (defScope s_inverse_by_prime) .none kV3 dc3 pm3 an3 cd3 ct3), sl3⟩) (c3 : PySem.W.codeIn K cd3 "inverse_by_prime" = true) (k3 : PySem.W.keepIn K (.ref f3) = true)
    (a4 : PySem.W.nsIn K mainGlobals "inverse_of" = some (some (.ref f4))) (l4 : K.lookup f4 = some ⟨oc4, od4, .func (PySem.W.fnOf "inverse_of" "inverse_of" (defArgs s_inverse_of) (defBody s_inverse_of) (defScope s_inverse_of) .none kV4 dc4 pm4 an4 cd4 ct4), sl4⟩) (c4 : PySem.W.codeIn K cd4 "inverse_of" = true) (k4 : PySem.W.keepIn K (.ref f4) = true)
    (a5 : PySem.W.nsIn K mainGlobals "worth_at" = some (some (.ref f5))) (l5 : K.lookup f5 = some ⟨oc5, od5, .func (PySem.W.fnOf "worth_at" "worth_at" (defArgs s_worth_at) (defBody s_worth_at) (defScope s_worth_at) .none kV5 dc5 pm5 an5 cd5 ct5), sl5⟩) (c5 : PySem.W.codeIn K cd5 "worth_at" = true) (k5 : PySem.W.keepIn K (.ref f5) = true)
    (a6 : PySem.W.nsIn K mainGlobals "degree_of" = some (some (.ref f6))) (l6 : K.lookup f6 = some ⟨oc6, od6, .func (PySem.W.fnOf "degree_of" "degree_of" (defArgs s_degree_of) (defBody s_degree_of) (defScope s_degree_of) .none kV6 dc6 pm6 an6 cd6 ct6), sl6⟩) (c6 : PySem.W.codeIn K cd6 "degree_of" = true) (k6 : PySem.W.keepIn K (.ref f6) = true)
    (a7 : PySem.W.nsIn K mainGlobals "poly_product" = some (some (.ref f7))) (l7 : K.lookup f7 = some ⟨oc7, od7, .func (PySem.W.fnOf "poly_product" "poly_product" (defArgs s_poly_product) (defBody s_poly_product) (defScope s_poly_product) .none kV7 dc7 pm7 an7 cd7 ct7), sl7⟩) (c7 : PySem.W.codeIn K cd7 "poly_product" = true) (k7 : PySem.W.keepIn K (.ref f7) = true)
    (a8 : PySem.W.nsIn K mainGlobals "slope_of" = some (some (.ref f8))) (l8 : K.lookup f8 = some ⟨oc8, od8, .func (PySem.W.fnOf "slope_of" "slope_of" (defArgs s_slope_of) (defBody s_slope_of) (defScope s_slope_of) .none kV8 dc8 pm8 an8 cd8 ct8), sl8⟩) (c8 : PySem.W.codeIn K cd8 "slope_of" = true) (k8 : PySem.W.keepIn K (.ref f8) = true)
    (a9 : PySem.W.nsIn K mainGlobals "seen_from" = some (some (.ref f9))) (l9 : K.lookup f9 = some ⟨oc9, od9, .func (PySem.W.fnOf "seen_from" "seen_from" (defArgs s_seen_from) (defBody s_seen_from) (defScope s_seen_from) .none kV9 dc9 pm9 an9 cd9 ct9), sl9⟩) (c9 : PySem.W.codeIn K cd9 "seen_from" = true) (k9 : PySem.W.keepIn K (.ref f9) = true)
    (a10 : PySem.W.nsIn K mainGlobals "content_of" = some (some (.ref f10))) (l10 : K.lookup f10 = some ⟨oc10, od10, .func (PySem.W.fnOf "content_of" "content_of" (defArgs s_content_of) (defBody s_content_of) (defScope s_content_of) .none kV10 dc10 pm10 an10 cd10 ct10), sl10⟩) (c10 : PySem.W.codeIn K cd10 "content_of" = true) (k10 : PySem.W.keepIn K (.ref f10) = true)
    (a11 : PySem.W.nsIn K mainGlobals "without_content" = some (some (.ref f11))) (l11 : K.lookup f11 = some ⟨oc11, od11, .func (PySem.W.fnOf "without_content" "without_content" (defArgs s_without_content) (defBody s_without_content) (defScope s_without_content) .none kV11 dc11 pm11 an11 cd11 ct11), sl11⟩) (c11 : PySem.W.codeIn K cd11 "without_content" = true) (k11 : PySem.W.keepIn K (.ref f11) = true)
    (a12 : PySem.W.nsIn K mainGlobals "rests_by_prime" = some (some (.ref f12))) (l12 : K.lookup f12 = some ⟨oc12, od12, .func (PySem.W.fnOf "rests_by_prime" "rests_by_prime" (defArgs s_rests_by_prime) (defBody s_rests_by_prime) (defScope s_rests_by_prime) .none kV12 dc12 pm12 an12 cd12 ct12), sl12⟩) (c12 : PySem.W.codeIn K cd12 "rests_by_prime" = true) (k12 : PySem.W.keepIn K (.ref f12) = true)
    (a13 : PySem.W.nsIn K mainGlobals "single_depth" = some (some (.ref f13))) (l13 : K.lookup f13 = some ⟨oc13, od13, .func (PySem.W.fnOf "single_depth" "single_depth" (defArgs s_single_depth) (defBody s_single_depth) (defScope s_single_depth) .none kV13 dc13 pm13 an13 cd13 ct13), sl13⟩) (c13 : PySem.W.codeIn K cd13 "single_depth" = true) (k13 : PySem.W.keepIn K (.ref f13) = true)
    (a14 : PySem.W.nsIn K mainGlobals "root_of" = some (some (.ref f14))) (l14 : K.lookup f14 = some ⟨oc14, od14, .func (PySem.W.fnOf "root_of" "root_of" (defArgs s_root_of) (defBody s_root_of) (defScope s_root_of) .none kV14 dc14 pm14 an14 cd14 ct14), sl14⟩) (c14 : PySem.W.codeIn K cd14 "root_of" = true) (k14 : PySem.W.keepIn K (.ref f14) = true)
    (a15 : PySem.W.nsIn K mainGlobals "deepened" = some (some (.ref f15))) (l15 : K.lookup f15 = some ⟨oc15, od15, .func (PySem.W.fnOf "deepened" "deepened" (defArgs s_deepened) (defBody s_deepened) (defScope s_deepened) .none kV15 dc15 pm15 an15 cd15 ct15), sl15⟩) (c15 : PySem.W.codeIn K cd15 "deepened" = true) (k15 : PySem.W.keepIn K (.ref f15) = true)
    (a16 : PySem.W.nsIn K mainGlobals "roots_within" = some (some (.ref f16))) (l16 : K.lookup f16 = some ⟨oc16, od16, .func (PySem.W.fnOf "roots_within" "roots_within" (defArgs s_roots_within) (defBody s_roots_within) (defScope s_roots_within) .none kV16 dc16 pm16 an16 cd16 ct16), sl16⟩) (c16 : PySem.W.codeIn K cd16 "roots_within" = true) (k16 : PySem.W.keepIn K (.ref f16) = true)
    (a17 : PySem.W.nsIn K mainGlobals "endless_roots" = some (some (.ref f17))) (l17 : K.lookup f17 = some ⟨oc17, od17, .func (PySem.W.fnOf "endless_roots" "endless_roots" (defArgs s_endless_roots) (defBody s_endless_roots) (defScope s_endless_roots) .none kV17 dc17 pm17 an17 cd17 ct17), sl17⟩) (c17 : PySem.W.codeIn K cd17 "endless_roots" = true) (k17 : PySem.W.keepIn K (.ref f17) = true)
    (a18 : PySem.W.nsIn K mainGlobals "_law_cell_at" = some (some (.ref f18))) (l18 : K.lookup f18 = some ⟨oc18, od18, .func (PySem.W.fnOf "_law_cell_at" "_law_cell_at" (defArgs s__law_cell_at) (defBody s__law_cell_at) (defScope s__law_cell_at) .none kV18 dc18 pm18 an18 cd18 ct18), sl18⟩) (c18 : PySem.W.codeIn K cd18 "_law_cell_at" = true) (k18 : PySem.W.keepIn K (.ref f18) = true)
    (a19 : PySem.W.nsIn K mainGlobals "_law_prime" = some (some (.ref f19))) (l19 : K.lookup f19 = some ⟨oc19, od19, .func (PySem.W.fnOf "_law_prime" "_law_prime" (defArgs s__law_prime) (defBody s__law_prime) (defScope s__law_prime) .none kV19 dc19 pm19 an19 cd19 ct19), sl19⟩) (c19 : PySem.W.codeIn K cd19 "_law_prime" = true) (k19 : PySem.W.keepIn K (.ref f19) = true)
    (a20 : PySem.W.nsIn K mainGlobals "_law_power" = some (some (.ref f20))) (l20 : K.lookup f20 = some ⟨oc20, od20, .func (PySem.W.fnOf "_law_power" "_law_power" (defArgs s__law_power) (defBody s__law_power) (defScope s__law_power) .none kV20 dc20 pm20 an20 cd20 ct20), sl20⟩) (c20 : PySem.W.codeIn K cd20 "_law_power" = true) (k20 : PySem.W.keepIn K (.ref f20) = true)
    (a21 : PySem.W.nsIn K mainGlobals "_law_times" = some (some (.ref f21))) (l21 : K.lookup f21 = some ⟨oc21, od21, .func (PySem.W.fnOf "_law_times" "_law_times" (defArgs s__law_times) (defBody s__law_times) (defScope s__law_times) .none kV21 dc21 pm21 an21 cd21 ct21), sl21⟩) (c21 : PySem.W.codeIn K cd21 "_law_times" = true) (k21 : PySem.W.keepIn K (.ref f21) = true)
    (a22 : PySem.W.nsIn K mainGlobals "_law_number" = some (some (.ref f22))) (l22 : K.lookup f22 = some ⟨oc22, od22, .func (PySem.W.fnOf "_law_number" "_law_number" (defArgs s__law_number) (defBody s__law_number) (defScope s__law_number) .none kV22 dc22 pm22 an22 cd22 ct22), sl22⟩) (c22 : PySem.W.codeIn K cd22 "_law_number" = true) (k22 : PySem.W.keepIn K (.ref f22) = true)
    (a23 : PySem.W.nsIn K mainGlobals "_law_square" = some (some (.ref f23))) (l23 : K.lookup f23 = some ⟨oc23, od23, .func (PySem.W.fnOf "_law_square" "_law_square" (defArgs s__law_square) (defBody s__law_square) (defScope s__law_square) .none kV23 dc23 pm23 an23 cd23 ct23), sl23⟩) (c23 : PySem.W.codeIn K cd23 "_law_square" = true) (k23 : PySem.W.keepIn K (.ref f23) = true)
    (a24 : PySem.W.nsIn K mainGlobals "_law_polynomial" = some (some (.ref f24))) (l24 : K.lookup f24 = some ⟨oc24, od24, .func (PySem.W.fnOf "_law_polynomial" "_law_polynomial" (defArgs s__law_polynomial) (defBody s__law_polynomial) (defScope s__law_polynomial) .none kV24 dc24 pm24 an24 cd24 ct24), sl24⟩) (c24 : PySem.W.codeIn K cd24 "_law_polynomial" = true) (k24 : PySem.W.keepIn K (.ref f24) = true)
    (a25 : PySem.W.nsIn K mainGlobals "_law_worth" = some (some (.ref f25))) (l25 : K.lookup f25 = some ⟨oc25, od25, .func (PySem.W.fnOf "_law_worth" "_law_worth" (defArgs s__law_worth) (defBody s__law_worth) (defScope s__law_worth) .none kV25 dc25 pm25 an25 cd25 ct25), sl25⟩) (c25 : PySem.W.codeIn K cd25 "_law_worth" = true) (k25 : PySem.W.keepIn K (.ref f25) = true)
    (a26 : PySem.W.nsIn K mainGlobals "_law_told" = some (some (.ref f26))) (l26 : K.lookup f26 = some ⟨oc26, od26, .func (PySem.W.fnOf "_law_told" "_law_told" (defArgs s__law_told) (defBody s__law_told) (defScope s__law_told) .none kV26 dc26 pm26 an26 cd26 ct26), sl26⟩) (c26 : PySem.W.codeIn K cd26 "_law_told" = true) (k26 : PySem.W.keepIn K (.ref f26) = true)
    (a27 : PySem.W.nsIn K mainGlobals "_law_right" = some (some (.ref f27))) (l27 : K.lookup f27 = some ⟨oc27, od27, .func (PySem.W.fnOf "_law_right" "_law_right" (defArgs s__law_right) (defBody s__law_right) (defScope s__law_right) .none kV27 dc27 pm27 an27 cd27 ct27), sl27⟩) (c27 : PySem.W.codeIn K cd27 "_law_right" = true) (k27 : PySem.W.keepIn K (.ref f27) = true)
    (a28 : PySem.W.nsIn K mainGlobals "law" = some (some (.ref f28))) (l28 : K.lookup f28 = some ⟨oc28, od28, .func (PySem.W.fnOf "law" "law" (defArgs s_law) (defBody s_law) (defScope s_law) .none kV28 dc28 pm28 an28 cd28 ct28), sl28⟩) (c28 : PySem.W.codeIn K cd28 "law" = true) (k28 : PySem.W.keepIn K (.ref f28) = true)
    (z_all : PySem.W.nsIn K mainGlobals "all" = some none) (z_bool : PySem.W.nsIn K mainGlobals "bool" = some none) (z_enumerate : PySem.W.nsIn K mainGlobals "enumerate" = some none) (z_int : PySem.W.nsIn K mainGlobals "int" = some none) (z_isinstance : PySem.W.nsIn K mainGlobals "isinstance" = some none) (z_len : PySem.W.nsIn K mainGlobals "len" = some none) (z_list : PySem.W.nsIn K mainGlobals "list" = some none) (z_max : PySem.W.nsIn K mainGlobals "max" = some none) (z_min : PySem.W.nsIn K mainGlobals "min" = some none) (z_range : PySem.W.nsIn K mainGlobals "range" = some none) (z_reversed : PySem.W.nsIn K mainGlobals "reversed" = some none) (z_sorted : PySem.W.nsIn K mainGlobals "sorted" = some none) {t_GREATEST_DEPTH : Tok} (z_GREATEST_DEPTH : PySem.W.nsIn K mainGlobals "GREATEST_DEPTH" = some (some (.int 60 t_GREATEST_DEPTH))) {e_NoDepth : Addr} (z_NoDepth : PySem.W.nsIn K mainGlobals "NoDepth" = some (some (.ref e_NoDepth))) {e_NoInverse : Addr} (z_NoInverse : PySem.W.nsIn K mainGlobals "NoInverse" = some (some (.ref e_NoInverse))) {e_NoSingle : Addr} (z_NoSingle : PySem.W.nsIn K mainGlobals "NoSingle" = some (some (.ref e_NoSingle))) {e_TooDeep : Addr} (z_TooDeep : PySem.W.nsIn K mainGlobals "TooDeep" = some (some (.ref e_TooDeep))) (x_NoDepth : ExcK K e_NoDepth) (x_NoSingle : ExcK K e_NoSingle) (x_TooDeep : ExcK K e_TooDeep) (m_TooDeep_TooDeep : PySem.W.exmOne K (.ref e_TooDeep) (.ref e_TooDeep) = some true) (m_NoDepth_TooDeep : PySem.W.exmOne K (.ref e_NoDepth) (.ref e_TooDeep) = some false) (m_NoDepth_NoDepth : PySem.W.exmOne K (.ref e_NoDepth) (.ref e_NoDepth) = some true) :
    ∃ fd : FuncData, (∀ (s : Shared) (v : Value), BindsTo s fd ⟨[v], []⟩ [("script", v)]) ∧ ∀ base : Heap, K.In base → base.Ns mainGlobals mg → FnOk P w K mg base CX0 68 fa fd ["script"] (spLaw K) := by
  have e := hfa.symm.trans (PySem.W.mg_of X G a28)
  cases e
  have F1 := fun_mk (st := s_depth_of) l1 c1 k1
  have b1 := F1.binds (ps := ["p", "x"]) fun _ _ _ _ _ _ us hl => match us, hl with | [_, _], _ => rfl
  have F2 := fun_mk (st := s_power_of) l2 c2 k2
  have b2 := F2.binds (ps := ["p", "e"]) fun _ _ _ _ _ _ us hl => match us, hl with | [_, _], _ => rfl
  have F3 := fun_mk (st := s_inverse_by_prime) l3 c3 k3
  have b3 := F3.binds (ps := ["p", "x"]) fun _ _ _ _ _ _ us hl => match us, hl with | [_, _], _ => rfl
  have F4 := fun_mk (st := s_inverse_of) l4 c4 k4
  have b4 := F4.binds (ps := ["p", "e", "x"]) fun _ _ _ _ _ _ us hl => match us, hl with | [_, _, _], _ => rfl
  have F5 := fun_mk (st := s_worth_at) l5 c5 k5
  have b5 := F5.binds (ps := ["f", "x"]) fun _ _ _ _ _ _ us hl => match us, hl with | [_, _], _ => rfl
  have F6 := fun_mk (st := s_degree_of) l6 c6 k6
  have b6 := F6.binds (ps := ["f"]) fun _ _ _ _ _ _ us hl => match us, hl with | [_], _ => rfl
  have F7 := fun_mk (st := s_poly_product) l7 c7 k7
  have b7 := F7.binds (ps := ["f", "g"]) fun _ _ _ _ _ _ us hl => match us, hl with | [_, _], _ => rfl
  have F8 := fun_mk (st := s_slope_of) l8 c8 k8
  have b8 := F8.binds (ps := ["f"]) fun _ _ _ _ _ _ us hl => match us, hl with | [_], _ => rfl
  have F9 := fun_mk (st := s_seen_from) l9 c9 k9
  have b9 := F9.binds (ps := ["p", "f", "a", "e"]) fun _ _ _ _ _ _ us hl => match us, hl with | [_, _, _, _], _ => rfl
  have F10 := fun_mk (st := s_content_of) l10 c10 k10
  have b10 := F10.binds (ps := ["p", "f"]) fun _ _ _ _ _ _ us hl => match us, hl with | [_, _], _ => rfl
  have F11 := fun_mk (st := s_without_content) l11 c11 k11
  have b11 := F11.binds (ps := ["p", "f"]) fun _ _ _ _ _ _ us hl => match us, hl with | [_, _], _ => rfl
  have F12 := fun_mk (st := s_rests_by_prime) l12 c12 k12
  have b12 := F12.binds (ps := ["p", "f"]) fun _ _ _ _ _ _ us hl => match us, hl with | [_, _], _ => rfl
  have F13 := fun_mk (st := s_single_depth) l13 c13 k13
  have b13 := F13.binds (ps := ["p", "f", "a"]) fun _ _ _ _ _ _ us hl => match us, hl with | [_, _, _], _ => rfl
  have F14 := fun_mk (st := s_root_of) l14 c14 k14
  have b14 := F14.binds (ps := ["p", "f", "a", "N"]) fun _ _ _ _ _ _ us hl => match us, hl with | [_, _, _, _], _ => rfl
  have F15 := fun_mk (st := s_deepened) l15 c15 k15
  have b15 := F15.binds (ps := ["p", "f", "a", "d", "N"]) fun _ _ _ _ _ _ us hl => match us, hl with | [_, _, _, _, _], _ => rfl
  have F16 := fun_mk (st := s_roots_within) l16 c16 k16
  have b16 := F16.binds (ps := ["p", "a", "e", "seen", "N"]) fun _ _ _ _ _ _ us hl => match us, hl with | [_, _, _, _, _], _ => rfl
  have F17 := fun_mk (st := s_endless_roots) l17 c17 k17
  have b17 := F17.binds (ps := ["p", "f", "N"]) fun _ _ _ _ _ _ us hl => match us, hl with | [_, _, _], _ => rfl
  have F18 := fun_mk (st := s__law_cell_at) l18 c18 k18
  have b18 := F18.binds (ps := ["script", "k"]) fun _ _ _ _ _ _ us hl => match us, hl with | [_, _], _ => rfl
  have F19 := fun_mk (st := s__law_prime) l19 c19 k19
  have b19 := F19.binds (ps := ["cell"]) fun _ _ _ _ _ _ us hl => match us, hl with | [_], _ => rfl
  have F20 := fun_mk (st := s__law_power) l20 c20 k20
  have b20 := F20.binds (ps := ["p", "e"]) fun _ _ _ _ _ _ us hl => match us, hl with | [_, _], _ => rfl
  have F21 := fun_mk (st := s__law_times) l21 c21 k21
  have b21 := F21.binds (ps := ["f", "g"]) fun _ _ _ _ _ _ us hl => match us, hl with | [_, _], _ => rfl
  have F22 := fun_mk (st := s__law_number) l22 c22 k22
  have b22 := F22.binds (ps := ["cell", "p"]) fun _ _ _ _ _ _ us hl => match us, hl with | [_, _], _ => rfl
  have F23 := fun_mk (st := s__law_square) l23 c23 k23
  have b23 := F23.binds (ps := ["script", "p"]) fun _ _ _ _ _ _ us hl => match us, hl with | [_, _], _ => rfl
  have F24 := fun_mk (st := s__law_polynomial) l24 c24 k24
  have b24 := F24.binds (ps := ["script", "p"]) fun _ _ _ _ _ _ us hl => match us, hl with | [_, _], _ => rfl
  have F25 := fun_mk (st := s__law_worth) l25 c25 k25
  have b25 := F25.binds (ps := ["f", "x"]) fun _ _ _ _ _ _ us hl => match us, hl with | [_, _], _ => rfl
  have F26 := fun_mk (st := s__law_told) l26 c26 k26
  have b26 := F26.binds (ps := ["p", "f", "N"]) fun _ _ _ _ _ _ us hl => match us, hl with | [_, _, _], _ => rfl
  have F27 := fun_mk (st := s__law_right) l27 c27 k27
  have b27 := F27.binds (ps := ["p", "f", "N", "found"]) fun _ _ _ _ _ _ us hl => match us, hl with | [_, _, _, _], _ => rfl
  have F28 := fun_mk (st := s_law) l28 c28 k28
  have k_NoDepth : clK K "NoDepth" = e_NoDepth := clK_of z_NoDepth
  have k_NoInverse : clK K "NoInverse" = e_NoInverse := clK_of z_NoInverse
  have k_NoSingle : clK K "NoSingle" = e_NoSingle := clK_of z_NoSingle
  have k_TooDeep : clK K "TooDeep" = e_TooDeep := clK_of z_TooDeep
  have B : Bi mg K := ⟨PySem.W.mg_none_of X G z_all, PySem.W.mg_none_of X G z_bool, PySem.W.mg_none_of X G z_enumerate, PySem.W.mg_none_of X G z_int, PySem.W.mg_none_of X G z_isinstance, PySem.W.mg_none_of X G z_len, PySem.W.mg_none_of X G z_list, PySem.W.mg_none_of X G z_max, PySem.W.mg_none_of X G z_min, PySem.W.mg_none_of X G z_range, PySem.W.mg_none_of X G z_reversed, PySem.W.mg_none_of X G z_sorted, ⟨_, PySem.W.mg_of X G z_GREATEST_DEPTH⟩, (by rw [k_NoDepth]; exact PySem.W.mg_of X G z_NoDepth), (by rw [k_NoInverse]; exact PySem.W.mg_of X G z_NoInverse), (by rw [k_NoSingle]; exact PySem.W.mg_of X G z_NoSingle), (by rw [k_TooDeep]; exact PySem.W.mg_of X G z_TooDeep), (by rw [k_NoDepth]; exact x_NoDepth), (by rw [k_NoSingle]; exact x_NoSingle), (by rw [k_TooDeep]; exact x_TooDeep), (by simp only [k_TooDeep]; exact m_TooDeep_TooDeep), (by simp only [k_NoDepth, k_TooDeep]; exact m_NoDepth_TooDeep), (by simp only [k_NoDepth]; exact m_NoDepth_NoDepth)⟩
  refine ⟨PySem.W.fnOf "law" "law" (defArgs s_law) (defBody s_law) (defScope s_law) .none kV28 dc28 pm28 an28 cd28 ct28, fun s v => .of_eq rfl, fun base _ _ => ?_⟩
  have D_depth_of := def_mk (P := P) (w := w) (base := base) F1 (ok_depth_of B  F1) b1 (PySem.W.mg_of X G a1)
  have D_power_of := def_mk (P := P) (w := w) (base := base) F2 (ok_power_of B  F2) b2 (PySem.W.mg_of X G a2)
  have D_inverse_by_prime := def_mk (P := P) (w := w) (base := base) F3 (ok_inverse_by_prime B  F3) b3 (PySem.W.mg_of X G a3)
  have D_worth_at := def_mk (P := P) (w := w) (base := base) F5 (ok_worth_at B  F5) b5 (PySem.W.mg_of X G a5)
  have D_degree_of := def_mk (P := P) (w := w) (base := base) F6 (ok_degree_of B  F6) b6 (PySem.W.mg_of X G a6)
  have D_poly_product := def_mk (P := P) (w := w) (base := base) F7 (ok_poly_product B  F7) b7 (PySem.W.mg_of X G a7)
  have D_slope_of := def_mk (P := P) (w := w) (base := base) F8 (ok_slope_of B  F8) b8 (PySem.W.mg_of X G a8)
  have D__law_cell_at := def_mk (P := P) (w := w) (base := base) F18 (ok__law_cell_at B  F18) b18 (PySem.W.mg_of X G a18)
  have D__law_prime := def_mk (P := P) (w := w) (base := base) F19 (ok__law_prime B  F19) b19 (PySem.W.mg_of X G a19)
  have D__law_power := def_mk (P := P) (w := w) (base := base) F20 (ok__law_power B  F20) b20 (PySem.W.mg_of X G a20)
  have D__law_times := def_mk (P := P) (w := w) (base := base) F21 (ok__law_times B  F21) b21 (PySem.W.mg_of X G a21)
  have D__law_worth := def_mk (P := P) (w := w) (base := base) F25 (ok__law_worth B  F25) b25 (PySem.W.mg_of X G a25)
  have D_inverse_of := def_mk (P := P) (w := w) (base := base) F4 (ok_inverse_of B D_power_of D_inverse_by_prime F4) b4 (PySem.W.mg_of X G a4)
  have D_seen_from := def_mk (P := P) (w := w) (base := base) F9 (ok_seen_from B D_power_of D_poly_product F9) b9 (PySem.W.mg_of X G a9)
  have D_content_of := defE_mk (P := P) (w := w) (base := base) F10 (ok_content_of B D_degree_of F10) b10 (PySem.W.mg_of X G a10)
  have D_rests_by_prime := def_mk (P := P) (w := w) (base := base) F12 (ok_rests_by_prime B D_worth_at F12) b12 (PySem.W.mg_of X G a12)
  have D_single_depth := def_mk (P := P) (w := w) (base := base) F13 (ok_single_depth B D_depth_of D_power_of D_worth_at D_slope_of F13) b13 (PySem.W.mg_of X G a13)
  have D__law_number := def_mk (P := P) (w := w) (base := base) F22 (ok__law_number B D__law_power F22) b22 (PySem.W.mg_of X G a22)
  have D__law_square := def_mk (P := P) (w := w) (base := base) F23 (ok__law_square B D__law_cell_at D__law_power F23) b23 (PySem.W.mg_of X G a23)
  have D__law_right := def_mk (P := P) (w := w) (base := base) F27 (ok__law_right B D__law_power D__law_worth F27) b27 (PySem.W.mg_of X G a27)
  have D_without_content := defE_mk (P := P) (w := w) (base := base) F11 (ok_without_content B D_power_of D_content_of F11) b11 (PySem.W.mg_of X G a11)
  have D_deepened := def_mk (P := P) (w := w) (base := base) F15 (ok_deepened B D_power_of D_inverse_of D_worth_at D_slope_of F15) b15 (PySem.W.mg_of X G a15)
  have D__law_polynomial := def_mk (P := P) (w := w) (base := base) F24 (ok__law_polynomial B D__law_cell_at D__law_power D__law_times D__law_number D__law_square F24) b24 (PySem.W.mg_of X G a24)
  have D_root_of := defE_mk (P := P) (w := w) (base := base) F14 (ok_root_of B D_power_of D_single_depth D_deepened F14) b14 (PySem.W.mg_of X G a14)
  have D_roots_within := recE_mk (P := P) (w := w) (base := base) (sp := spN_roots_within K) F16 b16 (PySem.W.mg_of X G a16) 4 (fun n d => ok_roots_within B D_power_of D_worth_at D_slope_of D_seen_from D_without_content D_rests_by_prime D_root_of d F16) 60
  have D_endless_roots := defE_mk (P := P) (w := w) (base := base) F17 (ok_endless_roots B D_roots_within F17) b17 (PySem.W.mg_of X G a17)
  have D__law_told := def_mk (P := P) (w := w) (base := base) F26 (ok__law_told B D_endless_roots F26) b26 (PySem.W.mg_of X G a26)
  exact ok_law B D_single_depth D__law_cell_at D__law_prime D__law_power D__law_square D__law_polynomial D__law_told D__law_right F28
end
end K45
open PySem PySem.W PyProof.Rows
set_option maxRecDepth 100000 in
set_option maxHeartbeats 0 in
theorem PySem.Challenge.cw_deeprests_k45_whole_endless_roots_lead_o_holds : PySem.Challenge.rw_deeprests_k45_whole_endless_roots_lead_o.Holds := by
  w_on; o_law; k_head; (case hw => w_witness2)
  k_fill
  refine L2.walk_law (l := PySem.Challenge.rw_deeprests_k45_whole_endless_roots_lead_o) (k := 68) (CX := fun _ => L2.CX0) rfl rfl ⟨rfl, by decide, by decide⟩ (fun w h Y => PySem.W.kIn_of Y) (fun _ _ _ _ _ z => z) ?F
  case F =>
    intro w mg fa h KX G hmg
    refine' K45.all_mk KX G hmg ?a1 ?l1 ?c1 ?k1 ?a2 ?l2 ?c2 ?k2 ?a3 ?l3 ?c3 ?k3 ?a4 ?l4 ?c4 ?k4 ?a5 ?l5 ?c5 ?k5 ?a6 ?l6 ?c6 ?k6 ?a7 ?l7 ?c7 ?k7 ?a8 ?l8 ?c8 ?k8 ?a9 ?l9 ?c9 ?k9 ?a10 ?l10 ?c10 ?k10 ?a11 ?l11 ?c11 ?k11 ?a12 ?l12 ?c12 ?k12 ?a13 ?l13 ?c13 ?k13 ?a14 ?l14 ?c14 ?k14 ?a15 ?l15 ?c15 ?k15 ?a16 ?l16 ?c16 ?k16 ?a17 ?l17 ?c17 ?k17 ?a18 ?l18 ?c18 ?k18 ?a19 ?l19 ?c19 ?k19 ?a20 ?l20 ?c20 ?k20 ?a21 ?l21 ?c21 ?k21 ?a22 ?l22 ?c22 ?k22 ?a23 ?l23 ?c23 ?k23 ?a24 ?l24 ?c24 ?k24 ?a25 ?l25 ?c25 ?k25 ?a26 ?l26 ?c26 ?k26 ?a27 ?l27 ?c27 ?k27 ?a28 ?l28 ?c28 ?k28 ?z_all ?z_bool ?z_enumerate ?z_int ?z_isinstance ?z_len ?z_list ?z_max ?z_min ?z_range ?z_reversed ?z_sorted ?z_GREATEST_DEPTH ?z_NoDepth ?z_NoInverse ?z_NoSingle ?z_TooDeep ?x_NoDepth ?x_NoSingle ?x_TooDeep ?m_TooDeep_TooDeep ?m_NoDepth_TooDeep ?m_NoDepth_NoDepth
    (case a1 => k_is)
    (case l1 => k_is)
    (case c1 => k_is)
    (case k1 => k_is)
    (case a2 => k_is)
    (case l2 => k_is)
    (case c2 => k_is)
    (case k2 => k_is)
    (case a3 => k_is)
    (case l3 => k_is)
    (case c3 => k_is)
    (case k3 => k_is)
    (case a4 => k_is)
    (case l4 => k_is)
    (case c4 => k_is)
    (case k4 => k_is)
    (case a5 => k_is)
    (case l5 => k_is)
    (case c5 => k_is)
    (case k5 => k_is)
    (case a6 => k_is)
    (case l6 => k_is)
    (case c6 => k_is)
    (case k6 => k_is)
    (case a7 => k_is)
    (case l7 => k_is)
    (case c7 => k_is)
    (case k7 => k_is)
    (case a8 => k_is)
    (case l8 => k_is)
    (case c8 => k_is)
    (case k8 => k_is)
    (case a9 => k_is)
    (case l9 => k_is)
    (case c9 => k_is)
    (case k9 => k_is)
    (case a10 => k_is)
    (case l10 => k_is)
    (case c10 => k_is)
    (case k10 => k_is)
    (case a11 => k_is)
    (case l11 => k_is)
    (case c11 => k_is)
    (case k11 => k_is)
    (case a12 => k_is)
    (case l12 => k_is)
    (case c12 => k_is)
    (case k12 => k_is)
    (case a13 => k_is)
    (case l13 => k_is)
    (case c13 => k_is)
    (case k13 => k_is)
    (case a14 => k_is)
    (case l14 => k_is)
    (case c14 => k_is)
    (case k14 => k_is)
    (case a15 => k_is)
    (case l15 => k_is)
    (case c15 => k_is)
    (case k15 => k_is)
    (case a16 => k_is)
    (case l16 => k_is)
    (case c16 => k_is)
    (case k16 => k_is)
    (case a17 => k_is)
    (case l17 => k_is)
    (case c17 => k_is)
    (case k17 => k_is)
    (case a18 => k_is)
    (case l18 => k_is)
    (case c18 => k_is)
    (case k18 => k_is)
    (case a19 => k_is)
    (case l19 => k_is)
    (case c19 => k_is)
    (case k19 => k_is)
    (case a20 => k_is)
    (case l20 => k_is)
    (case c20 => k_is)
    (case k20 => k_is)
    (case a21 => k_is)
    (case l21 => k_is)
    (case c21 => k_is)
    (case k21 => k_is)
    (case a22 => k_is)
    (case l22 => k_is)
    (case c22 => k_is)
    (case k22 => k_is)
    (case a23 => k_is)
    (case l23 => k_is)
    (case c23 => k_is)
    (case k23 => k_is)
    (case a24 => k_is)
    (case l24 => k_is)
    (case c24 => k_is)
    (case k24 => k_is)
    (case a25 => k_is)
    (case l25 => k_is)
    (case c25 => k_is)
    (case k25 => k_is)
    (case a26 => k_is)
    (case l26 => k_is)
    (case c26 => k_is)
    (case k26 => k_is)
    (case a27 => k_is)
    (case l27 => k_is)
    (case c27 => k_is)
    (case k27 => k_is)
    (case a28 => k_is)
    (case l28 => k_is)
    (case c28 => k_is)
    (case k28 => k_is)
    (case z_all => kernel_rfl)
    (case z_bool => k_is)
    (case z_enumerate => k_is)
    (case z_int => k_is)
    (case z_isinstance => k_is)
    (case z_len => k_is)
    (case z_list => k_is)
    (case z_max => k_is)
    (case z_min => k_is)
    (case z_range => k_is)
    (case z_reversed => k_is)
    (case z_sorted => k_is)
    (case z_GREATEST_DEPTH => k_is)
    (case z_NoDepth => k_is)
    (case z_NoInverse => k_is)
    (case z_NoSingle => k_is)
    (case z_TooDeep => k_is)
    (case x_NoDepth => show PySem.W.excIn _ _ _ _ = true; kernel_rfl)
    (case x_NoSingle => show PySem.W.excIn _ _ _ _ = true; kernel_rfl)
    (case x_TooDeep => show PySem.W.excIn _ _ _ _ = true; kernel_rfl)
    (case m_TooDeep_TooDeep => kernel_rfl)
    (case m_NoDepth_TooDeep => kernel_rfl)
    (case m_NoDepth_NoDepth => kernel_rfl)