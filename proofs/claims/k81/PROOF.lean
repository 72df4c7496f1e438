import PyProof.Rows.All
import Wide.All
import OpenK.AllK
import Wide.FinOn
import Lean
import PyProof.EqAt
import PyProof.EqKinds
import PyProof.TupleCall
import PySem.Challenge.RW_deeprests_k81_polynomials_read
set_option Elab.async false
set_option linter.all false
set_option maxRecDepth 100000
set_option compiler.extract_closed false
namespace L2
open PySem PySem.Spec PyProof.Rows
abbrev Key := Sum Int Str
def keyIs : Key → Value → Bool
  | .inl k, v => Value.isInt k v
  | .inr x, v => Value.isStrOf x v
def keyH (w : World) : Key → Int
  | .inl k => hashInt k
  | .inr x => hashStr w x
theorem keyIs_shape : ∀ {k : Key} {v : Value}, keyIs k v = true → (∃ i t, k = Sum.inl i ∧ v = Value.int i t) ∨ (∃ x t, k = Sum.inr x ∧ v = Value.str x t)
  | .inl i, v, h => by
    obtain ⟨t, e⟩ := Value.isInt_shape (k := i) (v := v) h
    exact .inl ⟨i, t, rfl, e⟩
  | .inr x, v, h => by
    obtain ⟨t, e⟩ := Value.isStrOf_shape (x := x) (v := v) h
    exact .inr ⟨x, t, rfl, e⟩
theorem key_ll (a b : Int) : decide ((Sum.inl a : Key) = Sum.inl b) = (a == b) := by
  by_cases e : a = b
  · subst e; simp
  · have h : ¬ (Sum.inl a : Key) = Sum.inl b := fun q => e (Sum.inl.inj q)
    rw [decide_eq_false h]
    exact (beq_eq_false_iff_ne.mpr e).symm
theorem key_rr (a b : Str) : decide ((Sum.inr a : Key) = Sum.inr b) = decide (a = b) := by
  by_cases e : a = b
  · subst e; simp
  · have h : ¬ (Sum.inr a : Key) = Sum.inr b := fun q => e (Sum.inr.inj q)
    rw [decide_eq_false h, decide_eq_false e]
theorem key_lr (a : Int) (b : Str) : decide ((Sum.inl a : Key) = Sum.inr b) = false := decide_eq_false (fun q => nomatch q)
theorem key_rl (a : Str) (b : Int) : decide ((Sum.inr a : Key) = Sum.inl b) = false := decide_eq_false (fun q => nomatch q)
def mixKind (prog : Program) (w : World) : PySem.KeyKind prog w Key where
  is := keyIs
  hash := keyH w
  inj := fun v a b ha hb => by
    rcases keyIs_shape ha with ⟨i, t, rfl, rfl⟩ | ⟨x, t, rfl, rfl⟩
    · rcases keyIs_shape hb with ⟨j, u, rfl, e⟩ | ⟨y, u, rfl, e⟩
      · injection e with e1 _; rw [e1]
      · exact nomatch e
    · rcases keyIs_shape hb with ⟨j, u, rfl, e⟩ | ⟨y, u, rfl, e⟩
      · exact nomatch e
      · injection e with e1 _; rw [e1]
  byValue := fun k v h => by
    rcases keyIs_shape h with ⟨i, t, rfl, rfl⟩ | ⟨x, t, rfl, rfl⟩ <;> rfl
  pyHash := fun hv h => by
    rcases keyIs_shape hv with ⟨i, t, rfl, rfl⟩ | ⟨x, t, rfl, rfl⟩
    · exact wpAny_pyHash_int h
    · exact wpAny_pyHash_str h
  eqBool := fun hu hv h => by
    rcases keyIs_shape hu with ⟨i, t, rfl, rfl⟩ | ⟨x, t, rfl, rfl⟩
    · rcases keyIs_shape hv with ⟨j, u, rfl, rfl⟩ | ⟨y, u, rfl, rfl⟩
      · rw [key_ll] at h; exact wpAny_eqBool_int h
      · rw [key_lr] at h; exact SeqAt.EqAt.int_str i t y u _ _ _ _ h
    · rcases keyIs_shape hv with ⟨j, u, rfl, rfl⟩ | ⟨y, u, rfl, rfl⟩
      · rw [key_rl] at h; exact SeqAt.EqAt.str_int x t j u _ _ _ _ h
      · rw [key_rr] at h; exact wpAny_eqBool_str h
  «strs» := fun k x t v h => by
    rcases keyIs_shape h with ⟨i, u, rfl, e⟩ | ⟨y, u, rfl, e⟩
    · exact nomatch e
    · injection e with e1 _
      subst e1
      cases v <;> rfl
end L2
namespace L2
open PySem PySem.Spec PyProof.Rows
inductive V where
  | non | bl (b : Bool) | int (i : Int) | str (x : Str) | byt (b : Array UInt8) | flt (b : UInt64) | ref (a : Addr) | ty (n : String)
  deriving DecidableEq
def RelV : V → Value → Prop
  | .non, u => u = Value.none
  | .bl b, u => u = Value.bool b
  | .int i, u => ∃ t, u = Value.int i t
  | .str x, u => ∃ t, u = Value.str x t
  | .byt b, u => ∃ t, u = Value.bytes b t
  | .flt b, u => ∃ t, u = Value.float b t
  | .ref a, u => u = Value.ref a
  | .ty n, u => u = Value.type n
abbrev Vals : List V → List Value → Prop := Paired RelV
theorem Vals.length {xs : List V} {us : List Value} (r : Vals xs us) : xs.length = us.length := Paired.length r
theorem Vals.get : ∀ {xs : List V} {us : List Value} {i : Nat} {x : V}, Vals xs us → xs[i]? = some x → ∃ u, us[i]? = some u ∧ RelV x u
  | _, _, _, _, .nil, e => by simp at e
  | _, _, 0, _, .cons r _, e => by simp at e; subst e; exact ⟨_, rfl, r⟩
  | _, _, i + 1, x, .cons _ t, e => by
    obtain ⟨u, h1, h2⟩ := Vals.get (i := i) (x := x) t (by simpa using e)
    exact ⟨u, by simpa using h1, h2⟩
theorem Vals.append : ∀ {xs ys : List V} {us ws : List Value}, Vals xs us → Vals ys ws → Vals (xs ++ ys) (us ++ ws)
  | _, _, _, _, .nil, s => s
  | _, _, _, _, .cons r t, s => .cons r (Vals.append t s)
theorem Vals.take : ∀ {xs : List V} {us : List Value} (n : Nat), Vals xs us → Vals (xs.take n) (us.take n)
  | _, _, 0, _ => .nil
  | _, _, _ + 1, .nil => .nil
  | _, _, n + 1, .cons r t => .cons r (Vals.take n t)
theorem Vals.drop : ∀ {xs : List V} {us : List Value} (n : Nat), Vals xs us → Vals (xs.drop n) (us.drop n)
  | _, _, 0, r => r
  | _, _, _ + 1, .nil => .nil
  | _, _, n + 1, .cons _ t => Vals.drop n t
def RelO : Option V → Option Value → Prop
  | some v, some u => RelV v u
  | none, none => True
  | _, _ => False
def KV {κ : Type} : List (κ × V) → List (κ × Value) → Prop := Paired fun (p : κ × V) (q : κ × Value) => p.1 = q.1 ∧ RelV p.2 q.2
def kV : Key → V
  | .inl i => .int i
  | .inr x => .str x
inductive HO where
  | lst (xs : List V)
  | tup (xs : List V)
  | dK (kvs : List (Key × V)) | dT (kvs : List (List Key × V))
  | set (S : Int → Bool) (n : Nat)
  | ins (C dx : Addr) (fs : List (Str × V))
  | own (x : Addr)
  | xd (fs : List (Str × V))
  | met (f x : Addr)
  | rng (lo hi : Int)
  | frz (o : Obj) (u : HO)
  | tbl (ps : Array Value)
  | ext (φ : Heap → Prop)
abbrev Hp := Addr → Option HO
def upd (H : Hp) (a : Addr) (o : HO) : Hp := fun b => if b = a then some o else H b
theorem upd_same {H : Hp} {a : Addr} {o : HO} : upd H a o a = some o := by unfold upd; rw [if_pos rfl]
theorem upd_ne {H : Hp} {a b : Addr} {o : HO} (h : b ≠ a) : upd H a o b = H b := by unfold upd; rw [if_neg h]
theorem ne_of_none {H : Hp} {a b : Addr} {o : HO} (h : H a = some o) (h' : H b = none) : a ≠ b := by
  intro e; subst e; rw [h] at h'; cases h'
section
variable (P : Program) (w : World)
def ObjOk (H : Hp) (h : Heap) (a : Addr) : HO → Prop
  | .lst xs => xs.length ≤ sizeLine ∧ ∃ (its : List Value) (n : Nat), Vals xs its ∧ h.get? a = some { cls := .type "list", data := .seq its.toArray n }
  | .tup xs => xs.length ≤ sizeLine ∧ ∃ its : List Value, Vals xs its ∧ IsTup h a its.toArray
  | .dK kvs => kvs.length ≤ sizeLine ∧ (a == sysModules) = false ∧ ∃ vs, KV kvs vs ∧ h.DictOf (mixKind P w) a vs
  | .dT kvs => kvs.length ≤ sizeLine ∧ (a == sysModules) = false ∧ ∃ xs : List (List Key × Addr × Value),
      Paired (fun (p : List Key × V) (q : List Key × Addr × Value) => p.1 = q.1 ∧ H q.2.1 = some (.tup (p.1.map kV)) ∧ RelV p.2 q.2.2) kvs xs ∧
      ∃ o es ep, h.get? a = some o ∧ o.ExactDict ∧ o.data = .dict es ep ∧ es.toList = xs.map (entryOfKey (tupleKind (mixKind P w))) ∧ (xs.map (·.1)).Nodup
  | .set S n => h.SetOf (intKind P w) a S n
  | .ins C dx fs => H dx = some (.own a) ∧ fs.length ≤ 1000 ∧ dx ≠ a ∧ h.get? a = some (PySem.W.instObj C dx) ∧
      ∃ mA, h.Ns1 dx mA ∧ (∀ f, RelO (fs.lookup f) (mA f)) ∧ PySem.Within mA (fs.map (·.1))
  | .own _ => ∃ o, h.get? a = some o
  | .xd fs => ∃ mA, h.Ns1 a mA ∧ ∀ f, RelO (fs.lookup f) (mA f)
  | .rng lo hi => ∃ t u v, h.get? a = some { cls := .type "range", data := .fields #[.int lo t, .int hi u, .int 1 v] }
  | .frz o u => h.get? a = some o ∧ ObjOk H h a u
  | .tbl ps => h.get? a = some { cls := .none, data := .fields ps }
  | .met f x => h.get? a = some (PySem.W.methodObj (.ref f) (.ref x))
  | .ext φ => φ h ∧ (∃ o, h.get? a = some o) ∧ ∀ h1 h2 : Heap, φ h1 → (∀ o, h1.get? a = some o → h2.get? a = some o) → φ h2
def HOk (H : Hp) (h : Heap) : Prop := ∀ a o, H a = some o → ObjOk P w H h a o
end
section
variable {P : Program} {w : World} {H H' : Hp} {h h' : Heap} {a : Addr} {o : HO}
theorem ObjOk.lt (x : ObjOk P w H h a o) : a < h.objs.size := by
  cases o with
  | lst xs => obtain ⟨_, _, _, _, e⟩ := x; exact Heap.lt_size e
  | tup xs => obtain ⟨_, _, _, p⟩ := x; exact p.lt
  | dK kvs => obtain ⟨_, _, _, _, o, _, _, e, _⟩ := x; exact Heap.lt_size e
  | dT kvs => obtain ⟨_, _, _, _, o, _, _, e, _⟩ := x; exact Heap.lt_size e
  | set S n => obtain ⟨o, _, _, _, e, _⟩ := x; exact Heap.lt_size e
  | ins C dx fs => obtain ⟨_, _, _, e, _⟩ := x; exact Heap.lt_size e
  | own y => obtain ⟨_, e⟩ := x; exact Heap.lt_size e
  | xd fs => obtain ⟨_, ⟨_, _, _, e, _⟩, _⟩ := x; exact Heap.lt_size e
  | rng lo hi => obtain ⟨_, _, _, e⟩ := x; exact Heap.lt_size e
  | frz ob u => obtain ⟨e, _⟩ := x; exact Heap.lt_size e
  | tbl ps => exact Heap.lt_size (show h.get? a = some _ from x)
  | met f y => exact Heap.lt_size (show h.get? a = some _ from x)
  | ext φ => obtain ⟨_, ⟨_, e⟩, _⟩ := x; exact Heap.lt_size e
theorem Paired.mapP {α β : Type} {F G : α → β → Prop} : ∀ {l₁ : List α} {l₂ : List β}, Paired F l₁ l₂ → (∀ a b, F a b → G a b) → Paired G l₁ l₂
  | _, _, .nil, _ => .nil
  | _, _, .cons r t, f => .cons (f _ _ r) (Paired.mapP t f)
theorem ObjOk.stay (x : ObjOk P w H h a o) (k : ∀ b u, (b = a ∨ H b = some (.own a)) → h.get? b = some u → h'.get? b = some u)
    (ho : ∀ b, H b = some (.own a) → H' b = some (.own a)) (ht : ∀ b xs, H b = some (.tup xs) → H' b = some (.tup xs)) : ObjOk P w H' h' a o := by
  induction o with
  | lst xs => obtain ⟨z, its, n, r, e⟩ := x; exact ⟨z, its, n, r, k _ _ (.inl rfl) e⟩
  | tup xs => obtain ⟨z, its, r, ob, e, c⟩ := x; exact ⟨z, its, r, ob, k _ _ (.inl rfl) e, c⟩
  | dK kvs => obtain ⟨z, y, vs, r, ob, es, ep, e, c⟩ := x; exact ⟨z, y, vs, r, ob, es, ep, k _ _ (.inl rfl) e, c⟩
  | dT kvs =>
    obtain ⟨z, y, xs, r, ob, es, ep, e, c⟩ := x
    exact ⟨z, y, xs, Paired.mapP r fun p q z => ⟨z.1, ht _ _ z.2.1, z.2.2⟩, ob, es, ep, k _ _ (.inl rfl) e, c⟩
  | set S n => obtain ⟨ob, es, ep, t, e, c⟩ := x; exact ⟨ob, es, ep, t, k _ _ (.inl rfl) e, c⟩
  | ins C dx fs =>
    obtain ⟨d, z, ne, e, mA, ⟨od, es, ep, e2, c⟩, r⟩ := x
    exact ⟨ho _ d, z, ne, k _ _ (.inl rfl) e, mA, ⟨od, es, ep, k _ _ (.inr d) e2, c⟩, r⟩
  | own y => obtain ⟨ob, e⟩ := x; exact ⟨ob, k _ _ (.inl rfl) e⟩
  | xd fs => obtain ⟨mA, ⟨od, es, ep, e, c⟩, r⟩ := x; exact ⟨mA, ⟨od, es, ep, k _ _ (.inl rfl) e, c⟩, r⟩
  | rng lo hi => obtain ⟨t, u, v, e⟩ := x; exact ⟨t, u, v, k _ _ (.inl rfl) e⟩
  | frz ob u ih => obtain ⟨e, q⟩ := x; exact ⟨k _ _ (.inl rfl) e, ih q⟩
  | tbl ps =>
    have e : h.get? a = some { cls := .none, data := .fields ps } := x
    show h'.get? a = some { cls := .none, data := .fields ps }
    exact k a _ (.inl rfl) e
  | met f y =>
    have e : h.get? a = some (PySem.W.methodObj (.ref f) (.ref y)) := x
    show h'.get? a = some (PySem.W.methodObj (.ref f) (.ref y))
    exact k a _ (.inl rfl) e
  | ext φ => obtain ⟨p, ⟨o, e⟩, st⟩ := x; exact ⟨st _ _ p fun o q => k _ _ (.inl rfl) q, ⟨o, k _ _ (.inl rfl) e⟩, st⟩
theorem HOk.lt (x : HOk P w H h) (e : H a = some o) : a < h.objs.size := (x a o e).lt
theorem HOk.fresh (x : HOk P w H h) (e : h.objs.size ≤ a) : H a = none := by
  cases q : H a with
  | none => rfl
  | some u => exact absurd (Nat.lt_of_lt_of_le (x.lt q) e) (Nat.lt_irrefl _)
theorem HOk.kept (x : HOk P w H h) (k : ∀ b u, h.get? b = some u → h'.get? b = some u) : HOk P w H h' := fun a o e =>
  (x a o e).stay (fun b u _ q => k b u q) (fun _ q => q) fun _ _ q => q
theorem HOk.laid (x : HOk P w H h) (k : ∀ b u, h.get? b = some u → h'.get? b = some u) (hp : h.objs.size ≤ a) (new : ObjOk P w (upd H a o) h' a o) : HOk P w (upd H a o) h' := fun b u e => by
  have hn := x.fresh hp
  by_cases hb : b = a
  · subst hb; rw [upd_same] at e; cases e; exact new
  · rw [upd_ne hb] at e
    exact (x b u e).stay (fun c v _ q => k c v q) (fun c q => by rw [upd_ne (ne_of_none q hn)]; exact q) fun c xs q => by rw [upd_ne (ne_of_none q hn)]; exact q
end
def Rd (H : Hp) (a : Addr) (u : HO) : Prop := H a = some u ∨ ∃ o, H a = some (.frz o u)
theorem Rd.ok {P : Program} {w : World} {H : Hp} {h : Heap} {a : Addr} {u : HO} (r : Rd H a u) (x : HOk P w H h) : ObjOk P w H h a u := by
  rcases r with r | ⟨o, r⟩
  · exact x a u r
  · obtain ⟨_, q⟩ := x a _ r
    exact q
def Mut : Option HO → Prop
  | some (.lst _) => True
  | some (.dK _) => True
  | some (.dT _) => True
  | some (.set _ _) => True
  | some (.ins _ _ _) => True
  | some (.ext _) => True
  | _ => False
section
variable {P : Program} {w : World} {H : Hp} {h h' : Heap} {x e : Addr} {o' : HO}
theorem HOk.write (ok : HOk P w H h) (mu : Mut (H x)) (he : e = x ∨ H e = some (.own x)) (k : ∀ b u, b ≠ e → h.get? b = some u → h'.get? b = some u) (heo : ∃ u, h'.get? e = some u)
    (new : ObjOk P w (upd H x o') h' x o') : HOk P w (upd H x o') h' := fun b u q => by
  have nown : ∀ c y, H c = some (.own y) → c ≠ x := fun c y r z => by subst z; rw [r] at mu; exact mu
  have ntup : ∀ c xs, H c = some (.tup xs) → c ≠ x := fun c xs r z => by subst z; rw [r] at mu; exact mu
  by_cases hb : b = x
  · subst hb; rw [upd_same] at q; cases q; exact new
  · rw [upd_ne hb] at q
    by_cases hbe : b = e
    · have q' : H b = some (.own x) := by
        rcases he with z | z
        · exact absurd (hbe.trans z) hb
        · rw [hbe]; exact z
      rw [q] at q'; cases q'
      obtain ⟨v, hv⟩ := heo
      exact ⟨v, by rw [hbe]; exact hv⟩
    · refine (ok b u q).stay (fun c v hc r => k c v ?_ r) (fun c r => by rw [upd_ne (nown c b r)]; exact r) fun c xs r => by rw [upd_ne (ntup c xs r)]; exact r
      rcases hc with rfl | hc
      · exact hbe
      · rintro rfl
        rcases he with z | z
        · exact nown c b hc z
        · rw [hc] at z; cases z; exact hb rfl
end
structure Un (fs ex : List Addr) (H H' : Hp) (h h' : Heap) : Prop where
  keep : ∀ b o, h.get? b = some o → H b = none → b ∉ fs → b ∉ ex → h'.get? b = some o
  slot : ∀ b o, h.get? b = some o → H b = none → b ∈ fs → b ∉ ex → ∃ sl, h'.get? b = some { o with slots := sl }
  free : ∀ b o, h.get? b = some o → H b = none → b ∉ ex → H' b = none
  there : ∀ b o, h.get? b = some o → b ∉ ex → ∃ o', h'.get? b = some o'
  tups : ∀ b xs, H b = some (.tup xs) → H' b = some (.tup xs)
  frzs : ∀ b o u, H b = some (.frz o u) → H' b = some (.frz o u)
  tbls : ∀ b ps, H b = some (.tbl ps) → ∃ more, H' b = some (.tbl (ps ++ more))
section
variable {fs fs' ex ex' : List Addr} {H H1 H2 : Hp} {h h1 h2 h' : Heap} {a x e : Addr} {o : HO}
theorem Un.any (u : Un fs ex H H1 h h1) {b : Addr} {ob : Obj} (q : h.get? b = some ob) (n : H b = none) (hx : b ∉ ex) : ∃ sl, h1.get? b = some { ob with slots := sl } := by
  by_cases hb : b ∈ fs
  · exact u.slot b ob q n hb hx
  · exact ⟨ob.slots, u.keep b ob q n hb hx⟩
theorem Un.kept (k : ∀ b u, h.get? b = some u → h'.get? b = some u) : Un fs ex H H h h' :=
  ⟨fun b ob q _ _ _ => k b ob q, fun b ob q _ _ _ => ⟨ob.slots, k b ob q⟩, fun _ _ _ n _ => n, fun b ob q _ => ⟨ob, k b ob q⟩, fun _ _ q => q, fun _ _ _ q => q, fun _ ps q => ⟨#[], by rw [q]; simp⟩⟩
theorem Un.refl : Un fs ex H H h h := Un.kept fun _ _ q => q
theorem Un.laid (k : ∀ b u, h.get? b = some u → h'.get? b = some u) (hp : h.objs.size ≤ a) (hn : H a = none) : Un fs ex H (upd H a o) h h' where
  keep := fun b u q _ _ _ => k b u q
  slot := fun b u q _ _ _ => ⟨u.slots, k b u q⟩
  free := fun b u q n _ => by rw [upd_ne (Nat.ne_of_lt (Nat.lt_of_lt_of_le (Heap.lt_size q) hp))]; exact n
  there := fun b u q _ => ⟨u, k b u q⟩
  tups := fun b xs q => by rw [upd_ne (ne_of_none q hn)]; exact q
  frzs := fun b u xs q => by rw [upd_ne (ne_of_none q hn)]; exact q
  tbls := fun b ps q => ⟨#[], by rw [upd_ne (ne_of_none q hn), q]; simp⟩
theorem Un.write (mu : Mut (H x)) (he : e = x ∨ H e = some (.own x)) (k : ∀ b u, b ≠ e → h.get? b = some u → h'.get? b = some u) (heo : ∃ u, h'.get? e = some u) : Un fs ex H (upd H x o) h h' := by
  have hx : ∀ b, H b = none → b ≠ x := fun b n z => by subst z; rw [n] at mu; exact mu
  have hb : ∀ b, H b = none → b ≠ e := fun b n z => by
    subst z
    rcases he with r | r
    · exact hx b n r
    · rw [n] at r; cases r
  have hm : ∀ b u, H b = some u → ¬ Mut (some u) → b ≠ x := fun b u q nm z => by subst z; rw [q] at mu; exact nm mu
  refine ⟨fun b u q n _ _ => k b u (hb b n) q, fun b u q n _ _ => ⟨u.slots, k b u (hb b n) q⟩, fun b u q n _ => by rw [upd_ne (hx b n)]; exact n, fun b u q _ => ?_,
    fun b xs q => by rw [upd_ne (hm b _ q fun z => z)]; exact q, fun b u xs q => by rw [upd_ne (hm b _ q fun z => z)]; exact q, fun b ps q => ⟨#[], by rw [upd_ne (hm b _ q fun z => z), q]; simp⟩⟩
  by_cases hbe : b = e
  · subst hbe; exact heo
  · exact ⟨u, k b u hbe q⟩
end
def trk (h : Heap) (H : Hp) : List Addr := (List.range h.objs.size).filter fun a => (H a).isSome
def hidT (h : Heap) (H : Hp) : Heap := PySem.W.hideAll h (trk h H)
theorem hidT_size (h : Heap) (H : Hp) : (hidT h H).objs.size = h.objs.size := PySem.W.hideAll_size _ _
theorem hidT_get {h : Heap} {H : Hp} {b : Addr} {o : Obj} (e : h.get? b = some o) (n : H b = none) : (hidT h H).get? b = some o :=
  PySem.W.hideAll_get _ e fun hm => by
    have q : (H b).isSome = true := (List.mem_filter.mp hm).2
    rw [n] at q; simp at q
theorem of_hidT {h : Heap} {H : Hp} {b : Addr} {o : Obj} (e : (hidT h H).get? b = some o) : h.get? b = some o ∧ H b = none := by
  have e' : h.get? b = some o := PySem.W.of_hideAll (trk h H) e
  refine ⟨e', ?_⟩
  cases q : H b with
  | none => rfl
  | some x =>
    have hm : b ∈ trk h H := List.mem_filter.mpr ⟨List.mem_range.mpr (Heap.lt_size e'), by simp [q]⟩
    have z : (hidT h H).get? b = none := PySem.W.hideAll_none (trk h H) hm
    rw [z] at e; cases e
def allNews (g h : Heap) (L : Addr) : List (Addr × Obj) := (List.range h.objs.size).filterMap fun a => if a = L ∨ (g.get? a).isSome = true then none else (h.get? a).map fun o => (a, o)
def rest (g h : Heap) (L d : Addr) : List (Addr × Obj) := (allNews g h L).filter fun p => decide (p.1 ≠ d)
end L2
namespace L2
open PySem PySem.Spec PyProof.Rows
structure Mod (K : PySem.W.Frag) (mg : Str → Option Value) (base : Heap) : Prop where
  kin : K.In base
  glob : base.Ns mainGlobals mg
  blt : ∃ mb, base.Ns builtinsNs mb ∧ ∀ x : Str, x ≠ "__name__" → mb x = bootBuiltins x
  nolimit : base.NoLimit
/-- the context: a def's body (or a comprehension's block) running. base: fixed through the whole law; s₀, H₀: the entry; outer: the frames whose slots others may change (a def's callers); stack: all frames that run;
   ex: iterators that were made ahead of the entry and are walked here (a comprehension's); fn: the names whose cells were made at the entry (a def: all; a comprehension's block: its own); calm: not within an except suite; pn: pins that every state bears; xe: what is wanted of an exception that leaves the code -/
structure Cx where
  prog : Program
  w : World
  K : PySem.W.Frag
  mg : Str → Option Value
  base : Heap
  A : Around
  N : List Str
  s₀ : Shared
  H₀ : Hp
  env : Env
  outer : List Env
  stack : List Env
  ex : List Addr
  fn : Str → Bool
  calm : Bool
  pn : List (Addr × Obj)
  xe : Value → Shared → Prop
def frs (l : List Env) : List Addr := l.filterMap (·.frame)
abbrev Cx.fs (X : Cx) : List Addr := frs X.outer
def Vis (sc : Scope) (x : Str) : Prop := sc.names.lookup x = some .local ∨ sc.names.lookup x = some .cell ∨ sc.names.lookup x = some .free
def Loc (sc : Scope) (x : Str) : Prop := sc.names.lookup x = some .local ∨ sc.names.lookup x = some .cell
def Look (env : Env) (h : Heap) (m : Str → Option Value) (x : Str) (u : Value) : Prop :=
  (env.kindOf x = some .local ∧ m x = some u) ∨ ((env.kindOf x = some .cell ∨ env.kindOf x = some .free) ∧ ∃ c, env.cells.lookup x = some c ∧ h.IsCell c (some u))
structure Cx.Ok (X : Cx) : Prop where
  mod : Mod X.K X.mg X.base
  kind : X.env.scope.kind = .function
  glob : X.env.globals = mainGlobals
  blt : X.env.builtins = builtinsNs
  above : X.s₀.heap.objs.size ≤ X.env.locals
  inj : ∀ x y c, X.env.cells.lookup x = some c → X.env.cells.lookup y = some c → x = y
  has : ∀ x, (X.env.kindOf x = some .cell ∨ X.env.kindOf x = some .free) → ∃ c, X.env.cells.lookup x = some c
  cab : ∀ x c, X.fn x = true → X.env.cells.lookup x = some c → X.s₀.heap.objs.size ≤ c
  hd : X.calm = true → X.A.handled = none
  frames : X.A.frames = some X.stack
  stk : X.stack = X.outer ∨ (X.stack = X.env :: X.outer ∧ X.env.frame = some X.env.locals)
  exf : ∀ b ∈ X.ex, b ≠ X.env.locals ∧ ∀ x c, X.env.cells.lookup x = some c → c ≠ b
  bs : ∀ b o, X.base.get? b = some o → X.s₀.heap.get? b = some o ∧ X.H₀ b = none
  bsz : X.base.objs.size ≤ X.s₀.heap.objs.size
  noex : ∀ b o, X.base.get? b = some o → b ∉ X.ex
  exfs : ∀ b ∈ X.ex, b ∉ X.fs
  funs : X.s₀.heap.FunFrames X.base X.outer
  frf : ∀ b ∈ X.fs, X.H₀ b = none
structure Inv (X : Cx) (pins : List (Addr × Obj)) (σ : List (Option V)) (H : Hp) (s : Shared) : Prop where
  ok : X.Ok
  os : s.os = X.s₀.os
  bare : AllBare s.gens
  base : Un X.fs X.ex X.H₀ H X.s₀.heap s.heap
  loc : ∃ m, s.heap.Ns X.env.locals m ∧ ∀ (i : Nat) (x : Str) (v : V), X.N[i]? = some x → σ[i]? = some (some v) → Vis X.env.scope x → ∃ u, RelV v u ∧ Look X.env s.heap m x u
  cell : ∀ x c, X.env.cells.lookup x = some c → ∃ v, s.heap.IsCell c v
  free : H X.env.locals = none
  freeC : ∀ x c, X.env.cells.lookup x = some c → H c = none
  pin : ∀ p ∈ X.pn ++ pins, s.heap.get? p.1 = some p.2 ∧ H p.1 = none ∧ p.1 ≠ X.env.locals ∧ p.1 ∉ X.fs ∧ ∀ v, p.2.data ≠ .cell v
  hok : HOk X.prog X.w H s.heap
  len : σ.length = X.N.length
section
variable {X : Cx} {pins : List (Addr × Obj)} {σ : List (Option V)} {H H' : Hp} {s : Shared} {h' : Heap}
theorem Cx.Ok.nofr (ok : X.Ok) {b : Addr} {o : Obj} (e : X.base.get? b = some o) : b ∉ X.fs := fun hb => by
  have := (ok.funs.mem hb).1
  rw [e] at this; cases this
theorem Inv.bs (I : Inv X pins σ H s) : ∀ b o, X.base.get? b = some o → s.heap.get? b = some o ∧ H b = none := fun b o e =>
  ⟨I.base.keep b o (I.ok.bs b o e).1 (I.ok.bs b o e).2 (I.ok.nofr e) (I.ok.noex b o e), I.base.free b o (I.ok.bs b o e).1 (I.ok.bs b o e).2 (I.ok.noex b o e)⟩
theorem Inv.bk (I : Inv X pins σ H s) : ∀ b o, X.base.get? b = some o → s.heap.get? b = some o := fun b o e => (I.bs b o e).1
theorem Inv.mod (I : Inv X pins σ H s) : Mod X.K X.mg X.base := I.ok.mod
theorem Inv.kIn (I : Inv X pins σ H s) : X.K.In s.heap := I.ok.mod.kin.keeps I.bk
theorem Inv.lt (I : Inv X pins σ H s) : X.env.locals < s.heap.objs.size := let ⟨_, hn, _⟩ := I.loc; hn.lt
theorem Inv.sz (I : Inv X pins σ H s) : X.s₀.heap.objs.size ≤ s.heap.objs.size := Nat.le_trans I.ok.above (Nat.le_of_lt I.lt)
theorem Inv.nofs (I : Inv X pins σ H s) {a : Addr} (h : s.heap.objs.size ≤ a) : a ∉ X.fs := fun hb => by
  obtain ⟨_, o, ho, _⟩ := I.ok.funs.mem hb
  exact absurd (Nat.lt_of_lt_of_le (Heap.lt_size ho) (Nat.le_trans I.sz h)) (Nat.lt_irrefl _)
theorem Inv.cne (I : Inv X pins σ H s) : ∀ x c, X.env.cells.lookup x = some c → c ≠ X.env.locals := fun x c e z => by
  obtain ⟨v, o, ho, hd⟩ := I.cell x c e
  obtain ⟨m, ⟨o', es, ep, ho', hd', _⟩, _⟩ := I.loc
  rw [z, ho'] at ho; cases ho; rw [hd'] at hd; cases hd
theorem Inv.funs (I : Inv X pins σ H s) : s.heap.FunFrames X.base X.outer := by
  have all : ∀ (l : List Env), (∀ b ∈ frs l, b ∈ X.fs) → X.s₀.heap.FunFrames X.base l → s.heap.FunFrames X.base l := by
    intro l
    induction l with
    | nil => intro _ _; trivial
    | cons env r ih =>
      intro hs hl
      obtain ⟨hk, ⟨L, o, hf, hn, ho, hd⟩, hr⟩ := hl
      have hL : L ∈ X.fs := hs L (by unfold frs; rw [List.filterMap_cons, hf]; exact List.mem_cons_self)
      obtain ⟨sl, e⟩ := I.base.slot L o ho (I.ok.frf L hL) hL fun z => I.ok.exfs L z hL
      exact ⟨hk, ⟨L, _, hf, hn, e, hd⟩, ih (fun b hb => hs b (by unfold frs; rw [List.filterMap_cons, hf]; exact List.mem_cons_of_mem _ hb)) hr⟩
  exact all X.outer (fun _ hb => hb) I.ok.funs
theorem Inv.stack (I : Inv X pins σ H s) : s.heap.FunFrames X.base X.stack := by
  rcases I.ok.stk with e | ⟨e, hf⟩
  · rw [e]; exact I.funs
  · rw [e]
    obtain ⟨m, hn, _⟩ := I.loc
    refine .cons (by rw [I.ok.kind]; decide) hf hn ?_ I.funs
    exact Heap.get?_none_of_le (Nat.le_trans I.ok.bsz I.ok.above)
theorem Inv.stkSub (I : Inv X pins σ H s) : ∀ b ∈ frs X.stack, b ∈ X.env.locals :: X.fs := fun b hb => by
  rcases I.ok.stk with e | ⟨e, hf⟩
  · rw [e] at hb; exact List.mem_cons_of_mem _ hb
  · rw [e] at hb
    unfold frs at hb
    rw [List.filterMap_cons, hf] at hb
    exact hb
theorem Inv.stkFree (I : Inv X pins σ H s) : ∀ b ∈ frs X.stack, H b = none := fun b hb => by
  rcases List.mem_cons.mp (I.stkSub b hb) with e | hb
  · rw [e]; exact I.free
  · obtain ⟨_, o, ho, _⟩ := I.ok.funs.mem hb
    exact I.base.free b o ho (I.ok.frf b hb) fun z => I.ok.exfs b z hb
theorem Inv.step {g' : Array GenState} {t' : Nat} {d' : Drawn} {ch : List Addr} (I : Inv X pins σ H s)
    (hch : ∀ b ∈ ch, (b ∈ X.ex ∨ X.s₀.heap.objs.size ≤ b) ∧ b ≠ X.env.locals ∧ (∀ x c, X.env.cells.lookup x = some c → c ≠ b) ∧ ∀ p ∈ X.pn ++ pins, p.1 ≠ b)
    (keep : ∀ b o, b ≠ X.env.locals → b ∉ X.fs → b ∉ ch → s.heap.get? b = some o → H b = none → h'.get? b = some o)
    (slot : ∀ b o, b ≠ X.env.locals → b ∈ X.fs → b ∉ ch → s.heap.get? b = some o → H b = none → ∃ sl, h'.get? b = some { o with slots := sl }) (free : ∀ b o, b ∉ ch → s.heap.get? b = some o → H b = none → H' b = none)
    (there : ∀ b o, b ∉ ch → s.heap.get? b = some o → ∃ o', h'.get? b = some o')
    (tups : ∀ b xs, H b = some (.tup xs) → H' b = some (.tup xs)) (frzs : ∀ b o u, H b = some (.frz o u) → H' b = some (.frz o u)) (tbls : ∀ b ps, H b = some (.tbl ps) → ∃ more, H' b = some (.tbl (ps ++ more)))
    (ns : ∀ m, s.heap.Ns X.env.locals m → h'.Ns X.env.locals m) (hok : HOk X.prog X.w H' h') (hg : AllBare g') :
    Inv X pins σ H' { s with heap := h', gens := g', drawn := d', toks := t' } := by
  have neL : ∀ b o, X.s₀.heap.get? b = some o → b ≠ X.env.locals := fun b o e => Nat.ne_of_lt (Nat.lt_of_lt_of_le (Heap.lt_size e) I.ok.above)
  have neC : ∀ b o, X.s₀.heap.get? b = some o → b ∉ X.ex → b ∉ ch := fun b o e hx hb => by
    rcases (hch b hb).1 with z | z
    · exact hx z
    · exact absurd (Nat.lt_of_lt_of_le (Heap.lt_size e) z) (Nat.lt_irrefl _)
  have cellK : ∀ x c, X.env.cells.lookup x = some c → ∀ v, s.heap.IsCell c v → h'.IsCell c v := fun x c e v ⟨o, ho, hd⟩ => by
    have nch : c ∉ ch := fun z => (hch c z).2.2.1 x c e rfl
    by_cases hc : c ∈ X.fs
    · obtain ⟨sl, q⟩ := slot c o (I.cne x c e) hc nch ho (I.freeC x c e)
      exact ⟨_, q, hd⟩
    · exact ⟨o, keep c o (I.cne x c e) hc nch ho (I.freeC x c e), hd⟩
  refine ⟨I.ok, I.os, hg, ⟨fun b o e n hb hx => ?_, fun b o e n hb hx => ?_, fun b o e n hx => ?_, fun b o e hx => ?_, fun b xs e => tups b xs (I.base.tups b xs e), fun b o xs e => frzs b o xs (I.base.frzs b o xs e), fun b ps e => ?_⟩, ?_, fun x c e => ?_, ?_, fun x c e => ?_, fun p hp => ?_, hok, I.len⟩
  · exact keep b o (neL b o e) hb (neC b o e hx) (I.base.keep b o e n hb hx) (I.base.free b o e n hx)
  · obtain ⟨sl, e1⟩ := I.base.slot b o e n hb hx
    obtain ⟨sl', e2⟩ := slot b _ (neL b o e) hb (neC b o e hx) e1 (I.base.free b o e n hx)
    exact ⟨sl', e2⟩
  · obtain ⟨o', e1⟩ := I.base.there b o e hx
    exact free b o' (neC b o e hx) e1 (I.base.free b o e n hx)
  · obtain ⟨o', e1⟩ := I.base.there b o e hx
    exact there b o' (neC b o e hx) e1
  · obtain ⟨m1, e1⟩ := I.base.tbls b ps e
    obtain ⟨m2, e2⟩ := tbls b _ e1
    exact ⟨m1 ++ m2, by rw [e2, Array.append_assoc]⟩
  · obtain ⟨m, hn, hl⟩ := I.loc
    refine ⟨m, ns m hn, fun i x v e1 e2 e3 => ?_⟩
    obtain ⟨u, r, l⟩ := hl i x v e1 e2 e3
    refine ⟨u, r, ?_⟩
    rcases l with l | ⟨k, c, e, z⟩
    · exact .inl l
    · exact .inr ⟨k, c, e, cellK x c e _ z⟩
  · obtain ⟨v, z⟩ := I.cell x c e
    exact ⟨v, cellK x c e v z⟩
  · obtain ⟨m, ⟨o, _, _, ho, _⟩, _⟩ := I.loc
    exact free _ o (fun z => (hch _ z).2.1 rfl) ho I.free
  · obtain ⟨v, o, ho, hd⟩ := I.cell x c e
    exact free c o (fun z => (hch c z).2.2.1 x c e rfl) ho (I.freeC x c e)
  · obtain ⟨e, n, ne, nf, d⟩ := I.pin p hp
    have nch : p.1 ∉ ch := fun z => (hch p.1 z).2.2.2 p hp rfl
    exact ⟨keep p.1 p.2 ne nf nch e n, free p.1 p.2 nch e n, ne, nf, d⟩
theorem Inv.un {t' : Nat} (I : Inv X pins σ H s) (u : Un X.fs [] H H' s.heap h') (hok : HOk X.prog X.w H' h') : Inv X pins σ H' { s with heap := h', toks := t' } := by
  obtain ⟨m, ⟨o, es, ep, ho, r⟩, _⟩ := id I.loc
  obtain ⟨sl, hL⟩ := u.any ho I.free (by simp)
  exact I.step (g' := s.gens) (d' := s.drawn) (ch := []) (fun _ z => nomatch z) (fun b o _ hb _ e n => u.keep b o e n hb (by simp)) (fun b o _ hb _ e n => u.slot b o e n hb (by simp)) (fun b o _ e n => u.free b o e n (by simp)) (fun b o _ e => u.there b o e (by simp)) u.tups u.frzs u.tbls (fun m' hm => by
    obtain ⟨o', es', ep', ho', r'⟩ := hm
    rw [ho] at ho'; cases ho'
    exact ⟨_, es', ep', hL, r'⟩) hok I.bare
theorem Inv.call {g' : Array GenState} {t' : Nat} {d' : Drawn} {ch : List Addr} (I : Inv X pins σ H s) (u : Un (frs X.stack) ch H H' s.heap h') (hok : HOk X.prog X.w H' h') (hg : AllBare g')
    (hch : ∀ b ∈ ch, (b ∈ X.ex ∨ X.s₀.heap.objs.size ≤ b) ∧ b ≠ X.env.locals ∧ (∀ x c, X.env.cells.lookup x = some c → c ≠ b) ∧ ∀ p ∈ X.pn ++ pins, p.1 ≠ b) :
    Inv X pins σ H' { s with heap := h', gens := g', drawn := d', toks := t' } := by
  obtain ⟨m, ⟨o, es, ep, ho, r⟩, _⟩ := id I.loc
  obtain ⟨sl, hL⟩ := u.any ho I.free fun z => (hch _ z).2.1 rfl
  exact I.step (ch := ch) hch (fun b o hL hb hc e n => u.keep b o e n (fun z => (List.mem_cons.mp (I.stkSub b z)).elim hL hb) hc) (fun b o _ _ hc e n => u.any e n hc) (fun b o hc e n => u.free b o e n hc) (fun b o hc e => u.there b o e hc) u.tups u.frzs u.tbls (fun m' hm => by
    obtain ⟨o', es', ep', ho', r'⟩ := hm
    rw [ho] at ho'; cases ho'
    exact ⟨_, es', ep', hL, r'⟩) hok hg
theorem Inv.turned {t' : Nat} {it : Addr} (I : Inv X pins σ H s) (k : ∀ b o, b ≠ it → s.heap.get? b = some o → h'.get? b = some o) (hn : H it = none) (hL : it ≠ X.env.locals)
    (h1 : it ∈ X.ex ∨ X.s₀.heap.objs.size ≤ it) (h2 : ∀ x c, X.env.cells.lookup x = some c → c ≠ it) (h3 : ∀ p ∈ X.pn ++ pins, p.1 ≠ it) : Inv X pins σ H { s with heap := h', toks := t' } := by
  have nit : ∀ b u, H b = some u → b ≠ it := fun b u e z => by rw [z, hn] at e; cases e
  refine I.step (g' := s.gens) (d' := s.drawn) (ch := [it]) (fun b hb => ?_) (fun b o _ _ hc e _ => k b o (fun z => hc (by simp [z])) e) (fun b o _ _ hc e _ => ⟨o.slots, k b o (fun z => hc (by simp [z])) e⟩) (fun _ _ _ _ n => n)
    (fun b o hc e => ⟨o, k b o (fun z => hc (by simp [z])) e⟩) (fun _ _ e => e) (fun _ _ _ e => e) (fun b ps e => ⟨#[], by rw [e]; simp⟩) (fun m hm => ?_) (fun b u e => ?_) I.bare
  · have e : b = it := by simpa using hb
    subst e
    exact ⟨h1, hL, h2, h3⟩
  · obtain ⟨o, es, ep, ho, r⟩ := hm
    exact ⟨o, es, ep, k _ o (Ne.symm hL) ho, r⟩
  · refine (I.hok b u e).stay (fun c v hc q => k c v ?_ q) (fun _ q => q) fun _ _ q => q
    rcases hc with z | z
    · rw [z]; exact nit b u e
    · exact nit c _ z
theorem Inv.tok (I : Inv X pins σ H s) (t : Nat) : Inv X pins σ H { s with toks := t } := I.un (h' := s.heap) (t' := t) Un.refl I.hok
theorem Inv.kept {t' : Nat} (I : Inv X pins σ H s) (k : ∀ b u, s.heap.get? b = some u → h'.get? b = some u) : Inv X pins σ H { s with heap := h', toks := t' } := I.un (Un.kept k) (I.hok.kept k)
theorem Inv.laid {a : Addr} {o : HO} {t' : Nat} (I : Inv X pins σ H s) (k : ∀ b u, s.heap.get? b = some u → h'.get? b = some u) (hp : s.heap.objs.size ≤ a) (new : ObjOk X.prog X.w (upd H a o) h' a o) :
    Inv X pins σ (upd H a o) { s with heap := h', toks := t' } := I.un (Un.laid k hp (I.hok.fresh hp)) (I.hok.laid k hp new)
theorem Inv.write {x e : Addr} {o : HO} {t' : Nat} (I : Inv X pins σ H s) (mu : Mut (H x)) (he : e = x ∨ H e = some (.own x)) (k : ∀ b u, b ≠ e → s.heap.get? b = some u → h'.get? b = some u) (heo : ∃ u, h'.get? e = some u)
    (new : ObjOk X.prog X.w (upd H x o) h' x o) : Inv X pins σ (upd H x o) { s with heap := h', toks := t' } := I.un (Un.write mu he k heo) (I.hok.write mu he k heo new)
theorem Inv.pins_of {pins' : List (Addr × Obj)} (I : Inv X pins σ H s) (h : ∀ p ∈ pins', s.heap.get? p.1 = some p.2 ∧ H p.1 = none ∧ p.1 ≠ X.env.locals ∧ p.1 ∉ X.fs ∧ ∀ v, p.2.data ≠ .cell v) : Inv X pins' σ H s :=
  ⟨I.ok, I.os, I.bare, I.base, I.loc, I.cell, I.free, I.freeC, fun p hp => (List.mem_append.mp hp).elim (fun z => I.pin p (List.mem_append_left _ z)) (h p), I.hok, I.len⟩
theorem nodup_ix {N : List Str} (hN : N.Nodup) {i j : Nat} {x : Str} (a : N[i]? = some x) (b : N[j]? = some x) : i = j := by
  obtain ⟨h1, e1⟩ := List.getElem?_eq_some_iff.mp a
  obtain ⟨h2, e2⟩ := List.getElem?_eq_some_iff.mp b
  exact (List.getElem_inj hN).mp (e1.trans e2.symm)
theorem store_ok2 {M : Model} {A : Around} {E : Value → Shared → Prop} {i : Nat} {x : Str} {v : V} {u : Value} {Q : Unit → Shared → Prop} (I : Inv X pins σ H s) (hN : X.N.Nodup) (hi : X.N[i]? = some x) (hx : Loc X.env.scope x) (r : RelV v u)
    (h : ∀ s', Inv X pins (σ.set i (some v)) H s' → (∃ a, Heap.SameBut a s.heap s'.heap ∧ (a = X.env.locals ∨ X.env.cells.lookup x = some a)) → Q () s') (hf : X.fn x = true ∨ X.env.scope.names.lookup x = some .local := by first | exact .inl rfl | exact .inr rfl | assumption) : wpAny M A (storeName X.env x u) Q E s := by
  obtain ⟨m, hn, hl⟩ := id I.loc
  have hcls : (X.env.scope.kind == .class || (X.env.scope.kind == .module && X.env.locals != X.env.globals)) = false := by rw [I.ok.kind]; rfl
  have hiσ : i < σ.length := by rw [I.len]; exact (List.getElem?_eq_some_iff.mp hi).1
  have cne := I.cne
  have tracked : ∀ {a : Addr} {h' : Heap}, (∃ o, s.heap.get? a = some o ∧ H a = none) → Heap.SameBut a s.heap h' → HOk X.prog X.w H h' := fun {a h'} ha hs b ob e => by
    obtain ⟨_, _, hfree⟩ := ha
    refine (I.hok b ob e).stay (fun c w' hc q => (hs.2 c ?_).trans q) (fun _ q => q) fun _ _ q => q
    rintro rfl
    rcases hc with rfl | hc
    · rw [hfree] at e; cases e
    · rw [hfree] at hc; cases hc
  rcases hx with hk | hk
  · refine wpAny_storeName_local hk hn (fun h' hn' hs => ?_) hcls
    obtain ⟨oL, _, _, hoL, _⟩ := id hn
    refine h _ ⟨I.ok, I.os, I.bare, ⟨fun b o e n hb hx => ?_, fun b o e n hb hx => ?_, I.base.free, fun b o e hx => ?_, I.base.tups, I.base.frzs, I.base.tbls⟩, ⟨_, hn', fun j y v' e1 e2 e3 => ?_⟩, fun y c e => ?_, I.free, I.freeC, fun p hp => ?_, tracked ⟨oL, hoL, I.free⟩ hs, by simpa using I.len⟩ ⟨_, hs, .inl rfl⟩
    · exact (hs.2 b (Nat.ne_of_lt (Nat.lt_of_lt_of_le (Heap.lt_size e) I.ok.above))).trans (I.base.keep b o e n hb hx)
    · obtain ⟨sl, e1⟩ := I.base.slot b o e n hb hx
      exact ⟨sl, (hs.2 b (Nat.ne_of_lt (Nat.lt_of_lt_of_le (Heap.lt_size e) I.ok.above))).trans e1⟩
    · obtain ⟨o', e1⟩ := I.base.there b o e hx
      exact ⟨o', (hs.2 b (Nat.ne_of_lt (Nat.lt_of_lt_of_le (Heap.lt_size e) I.ok.above))).trans e1⟩
    · by_cases hj : j = i
      · subst hj
        rw [hi] at e1; cases e1
        rw [List.getElem?_set_self hiσ] at e2
        cases e2
        exact ⟨u, r, .inl ⟨hk, by simp⟩⟩
      · rw [List.getElem?_set_ne (Ne.symm hj)] at e2
        obtain ⟨u', r', q⟩ := hl j y v' e1 e2 e3
        refine ⟨u', r', ?_⟩
        rcases q with ⟨k, e⟩ | ⟨k, c, e, z⟩
        · refine .inl ⟨k, ?_⟩
          have : y ≠ x := fun e => hj (nodup_ix hN e1 (e ▸ hi))
          simp [this, e]
        · exact .inr ⟨k, c, e, z.sameBut hs (cne y c e)⟩
    · obtain ⟨w', z⟩ := I.cell y c e
      exact ⟨w', z.sameBut hs (cne y c e)⟩
    · obtain ⟨e, n, ne, nf, d⟩ := I.pin p hp
      exact ⟨(hs.2 p.1 ne).trans e, n, ne, nf, d⟩
  · have hfn : X.fn x = true := by
      rcases hf with z | z
      · exact z
      · rw [z] at hk; cases hk
    obtain ⟨c, hc⟩ := I.ok.has x (.inl hk)
    obtain ⟨w', z⟩ := I.cell x c hc
    refine wpAny_storeName_cell I.ok.kind hk hc z (fun h' hc' hs => ?_)
    obtain ⟨oc, hoc, hocd⟩ := id z
    refine h { s with heap := h' } ⟨I.ok, I.os, I.bare, ⟨fun b o e n hb hx => ?_, fun b o e n hb hx => ?_, I.base.free, fun b o e hx => ?_, I.base.tups, I.base.frzs, I.base.tbls⟩, ⟨m, hn.sameBut hs (Ne.symm (cne x c hc)), fun j y v' e1 e2 e3 => ?_⟩, fun y c' e => ?_, I.free, I.freeC, fun p hp => ?_, tracked ⟨oc, hoc, I.freeC x c hc⟩ hs, by simpa using I.len⟩ ⟨c, hs, .inr hc⟩
    · exact (hs.2 b (Nat.ne_of_lt (Nat.lt_of_lt_of_le (Heap.lt_size e) (I.ok.cab x c hfn hc)))).trans (I.base.keep b o e n hb hx)
    · obtain ⟨sl, e1⟩ := I.base.slot b o e n hb hx
      exact ⟨sl, (hs.2 b (Nat.ne_of_lt (Nat.lt_of_lt_of_le (Heap.lt_size e) (I.ok.cab x c hfn hc)))).trans e1⟩
    · obtain ⟨o', e1⟩ := I.base.there b o e hx
      exact ⟨o', (hs.2 b (Nat.ne_of_lt (Nat.lt_of_lt_of_le (Heap.lt_size e) (I.ok.cab x c hfn hc)))).trans e1⟩
    · by_cases hj : j = i
      · subst hj
        rw [hi] at e1; cases e1
        rw [List.getElem?_set_self hiσ] at e2
        cases e2
        exact ⟨u, r, .inr ⟨.inl hk, c, hc, hc'⟩⟩
      · rw [List.getElem?_set_ne (Ne.symm hj)] at e2
        obtain ⟨u', r', q⟩ := hl j y v' e1 e2 e3
        refine ⟨u', r', ?_⟩
        rcases q with q | ⟨k, c', e, z'⟩
        · exact .inl q
        · refine .inr ⟨k, c', e, z'.sameBut hs ?_⟩
          rintro rfl
          exact hj (nodup_ix hN e1 (I.ok.inj _ _ _ e hc ▸ hi))
    · by_cases hcc : c' = c
      · subst hcc; exact ⟨_, hc'⟩
      · obtain ⟨w2, z2⟩ := I.cell y c' e
        exact ⟨w2, z2.sameBut hs hcc⟩
    · obtain ⟨e, n, ne, nf, d⟩ := I.pin p hp
      refine ⟨(hs.2 p.1 ?_).trans e, n, ne, nf, d⟩
      intro q
      rw [q, hoc] at e
      have q' : oc = p.2 := Option.some.inj e
      exact d w' (by rw [← q']; exact hocd)
theorem store_ok {M : Model} {A : Around} {E : Value → Shared → Prop} {i : Nat} {x : Str} {v : V} {u : Value} {Q : Unit → Shared → Prop} (I : Inv X pins σ H s) (hN : X.N.Nodup) (hi : X.N[i]? = some x) (hx : Loc X.env.scope x) (r : RelV v u)
    (h : ∀ s', Inv X pins (σ.set i (some v)) H s' → Q () s') (hf : X.fn x = true ∨ X.env.scope.names.lookup x = some .local := by first | exact .inl rfl | exact .inr rfl | assumption) : wpAny M A (storeName X.env x u) Q E s :=
  store_ok2 I hN hi hx r (fun s' I' _ => h s' I') hf
theorem Inv.call' {s' : Shared} {ch : List Addr} (I : Inv X pins σ H s) (ho : s'.os = s.os) (u : Un (frs X.stack) ch H H' s.heap s'.heap) (hok : HOk X.prog X.w H' s'.heap) (hg : AllBare s'.gens)
    (hch : ∀ b ∈ ch, (b ∈ X.ex ∨ X.s₀.heap.objs.size ≤ b) ∧ b ≠ X.env.locals ∧ (∀ x c, X.env.cells.lookup x = some c → c ≠ b) ∧ ∀ p ∈ X.pn ++ pins, p.1 ≠ b) : Inv X pins σ H' s' := by
  obtain ⟨h', g', d', t', o'⟩ := s'
  have e : o' = s.os := ho
  subst e
  exact I.call (g' := g') (t' := t') (d' := d') u hok hg hch
end
abbrev XK := Value → Option Addr → Hp → Prop
abbrev St := List (Option V)
abbrev VK := V → Hp → Prop
abbrev TE := St → Hp → VK → Prop
abbrev TT := St → Hp → (Bool → Hp → Prop) → Prop
abbrev TA := St → Hp → (List V → Hp → Prop) → Prop
structure Ends where
  nx : St → Hp → Prop
  rt : VK
  bk : St → Hp → Prop := fun _ _ => False
  ct : St → Hp → Prop := fun _ _ => False
abbrev TS := Ends → St → Hp → Prop
def EP (X : Cx) (pins : List (Addr × Obj)) (σ : St) (Q : VK) (u : Value) (s' : Shared) : Prop := ∃ v H', Inv X pins σ H' s' ∧ RelV v u ∧ Q v H'
def TP (X : Cx) (pins : List (Addr × Obj)) (σ : St) (Q : Bool → Hp → Prop) (b : Bool) (s' : Shared) : Prop := ∃ H', Inv X pins σ H' s' ∧ Q b H'
def AP (X : Cx) (pins : List (Addr × Obj)) (σ : St) (Q : List V → Hp → Prop) (us : List Value) (s' : Shared) : Prop := ∃ vs H', Inv X pins σ H' s' ∧ Vals vs us ∧ Q vs H'
def SP (X : Cx) (pins : List (Addr × Obj)) (D : Ends) (f : Flow) (s' : Shared) : Prop :=
  match f with
  | .next => ∃ σ' H', Inv X pins σ' H' s' ∧ D.nx σ' H'
  | .brk => ∃ σ' H', Inv X pins σ' H' s' ∧ D.bk σ' H'
  | .cont => ∃ σ' H', Inv X pins σ' H' s' ∧ D.ct σ' H'
  | .ret u => ∃ v σ' H', Inv X pins σ' H' s' ∧ RelV v u ∧ D.rt v H'
def PE (X : Cx) (e : Expr) (t : TE) : Prop :=
  ∀ (pins : List (Addr × Obj)) (s : Shared) (σ : St) (H : Hp) (Q : VK), Inv X pins σ H s → t σ H Q → wpAny (model X.prog X.w) X.A (eval e X.env) (EP X pins σ Q) X.xe s
def PT (X : Cx) (e : Expr) (t : TT) : Prop :=
  ∀ (pins : List (Addr × Obj)) (s : Shared) (σ : St) (H : Hp) (Q : Bool → Hp → Prop), Inv X pins σ H s → t σ H Q → wpAny (model X.prog X.w) X.A (isTrue e X.env (eval e X.env)) (TP X pins σ Q) X.xe s
def PW (X : Cx) (e : Expr) (t : TT) : Prop :=
  ∀ (whole : Sem Value) (pins : List (Addr × Obj)) (s : Shared) (σ : St) (H : Hp) (Q : Bool → Hp → Prop), Inv X pins σ H s → t σ H Q → wpAny (model X.prog X.w) X.A (isTrue e X.env whole) (TP X pins σ Q) X.xe s
theorem PW.pt {X : Cx} {e : Expr} {t : TT} (h : PW X e t) : PT X e t := h _
def PA (X : Cx) (es : List Expr) (t : TA) : Prop :=
  ∀ (pos : Pos) (pins : List (Addr × Obj)) (s : Shared) (σ : St) (H : Hp) (Q : List V → Hp → Prop), Inv X pins σ H s → t σ H Q → wpAny (model X.prog X.w) X.A (spliced (backTo pos (starEach es X.env))) (AP X pins σ Q) X.xe s
def PS (X : Cx) (st : Stmt) (t : TS) : Prop :=
  ∀ (pins : List (Addr × Obj)) (s : Shared) (σ : St) (H : Hp) (D : Ends), Inv X pins σ H s → t D σ H → wpAny (model X.prog X.w) X.A (exec st X.env) (SP X pins D) X.xe s
def PSs (X : Cx) (st : List Stmt) (t : TS) : Prop :=
  ∀ (pins : List (Addr × Obj)) (s : Shared) (σ : St) (H : Hp) (D : Ends), Inv X pins σ H s → t D σ H → wpAny (model X.prog X.w) X.A (execs st X.env) (SP X pins D) X.xe s
theorem thn {α : Type} {t : Sem α} {Q Q' : α → Shared → Prop} {M : Model} {A : Around} {E : Value → Shared → Prop} {s : Shared} (h : wpAny M A t Q E s) (hQ : ∀ a s, Q a s → Q' a s) : wpAny M A t Q' E s := wpAny_mono h hQ fun _ _ x => x
end L2
namespace L2
open PySem PySem.Spec PyProof.Rows
section
variable {X : Cx}
def tVar (i : Nat) : TE := fun σ H Q => ∃ v, σ[i]? = some (some v) ∧ Q v H
def tC (v : V) : TE := fun _ H Q => Q v H
theorem pe_var {i : Nat} {x : Str} {pos : Pos} (hN : X.N[i]? = some x) (hv : Vis X.env.scope x) (hd : (x == ("__debug__" : Str)) = false := by decide) (hcd : (x == ("__classdict__" : Str)) = false := by decide) : PE X (.Name x pos) (tVar i) := by
  intro pins s σ H Q I h
  obtain ⟨v, e, h⟩ := h
  obtain ⟨m, hn, hl⟩ := I.loc
  obtain ⟨u, r, l⟩ := hl i x v hN e hv
  have fin : EP X pins σ Q u s := ⟨v, H, I, r, h⟩
  rcases l with ⟨hk, hm⟩ | ⟨hk, c, hc, hcell⟩
  · exact wpAny_Name (wpAny_loadName_local I.ok.kind hk hn hm fin) hd
  · rcases hk with hk | hk
    · exact wpAny_Name (wpAny_loadName_cell I.ok.kind hk hc hcell fin) hd
    · exact wpAny_Name (wpAny_loadName_free I.ok.kind hk hc hcell fin hcd) hd
theorem pe_int {i j pos} : PE X (.Constant (.int i) j pos) (tC (.int i)) := fun _ _ _ H _ I h => wpAny_Constant_int ⟨.int i, H, I.tok _, ⟨_, rfl⟩, h⟩
theorem pe_bl {b j pos} : PE X (.Constant (.bool b) j pos) (tC (.bl b)) := fun _ _ _ H _ I h => Constant_bool ⟨.bl b, H, I, rfl, h⟩
theorem pe_non {j pos} : PE X (.Constant .none j pos) (tC .non) := fun _ _ _ H _ I h => Constant_none ⟨.non, H, I, rfl, h⟩
theorem pe_str {x j pos} : PE X (.Constant (.str x) j pos) (tC (.str x)) := fun _ _ _ H _ I h => Calls.Constant_str ⟨.str x, H, I.tok _, ⟨_, rfl⟩, h⟩
def Gl (X : Cx) (x : Str) : Prop := X.env.kindOf x = some .globalImplicit
theorem ld_glob {E : Value → Shared → Prop} {pins : List (Addr × Obj)} {s : Shared} {σ : St} {H : Hp} {x : Str} {u : Value} {pos : Pos} {Q : Value → Shared → Prop} (I : Inv X pins σ H s) (hg : Gl X x) (hm : X.mg x = some u) (h : Q u s)
    (hd : (x == ("__debug__" : Str)) = false := by decide) : wpAny (model X.prog X.w) X.A (eval (.Name x pos) X.env) Q E s :=
  Calls.Name_function_global I.ok.kind hg (Calls.loadGlobal_global (by rw [I.ok.glob]; exact I.mod.glob.keeps I.bk) hm h) hd
theorem ld_blt {E : Value → Shared → Prop} {pins : List (Addr × Obj)} {s : Shared} {σ : St} {H : Hp} {x : Str} {u : Value} {pos : Pos} {Q : Value → Shared → Prop} (I : Inv X pins σ H s) (hg : Gl X x) (hm : X.mg x = none) (hv : bootBuiltins x = some u) (h : Q u s)
    (hn : x ≠ "__name__" := by decide) (hd : (x == ("__debug__" : Str)) = false := by decide) : wpAny (model X.prog X.w) X.A (eval (.Name x pos) X.env) Q E s := by
  obtain ⟨mb, h1, h2⟩ := I.mod.blt
  exact Calls.Name_function_global I.ok.kind hg (Calls.loadGlobal_builtin (by rw [I.ok.glob]; exact I.mod.glob.keeps I.bk) hm (by rw [I.ok.blt]; exact h1.keeps I.bk) ((h2 x hn).trans hv) h) hd
theorem pe_glob {x : Str} {v : V} {u : Value} {pos : Pos} (hg : Gl X x) (hm : X.mg x = some u) (r : RelV v u) (hd : (x == ("__debug__" : Str)) = false := by decide) : PE X (.Name x pos) (tC v) :=
  fun _ _ _ H _ I h => ld_glob I hg hm ⟨v, H, I, r, h⟩ hd
theorem pe_bltn {x : Str} {v : V} {u : Value} {pos : Pos} (hg : Gl X x) (hm : X.mg x = none) (hv : bootBuiltins x = some u) (r : RelV v u) (hn : x ≠ "__name__" := by decide) (hd : (x == ("__debug__" : Str)) = false := by decide) : PE X (.Name x pos) (tC v) :=
  fun _ _ _ H _ I h => ld_blt I hg hm hv ⟨v, H, I, r, h⟩ hn hd
def t2I (ta tb : TE) (k : Int → Int → Hp → Prop) : St → Hp → Prop := fun σ H => ta σ H fun x H1 => tb σ H1 fun y H2 => ∃ i j, x = .int i ∧ y = .int j ∧ k i j H2
def tAdd (ta tb : TE) : TE := fun σ H Q => t2I ta tb (fun i j H2 => Q (.int (i + j)) H2) σ H
def tSub (ta tb : TE) : TE := fun σ H Q => t2I ta tb (fun i j H2 => Q (.int (i - j)) H2) σ H
def tMul (ta tb : TE) : TE := fun σ H Q => t2I ta tb (fun i j H2 => (-(2 ^ 64) < i ∧ i < 2 ^ 64) ∧ Q (.int (i * j)) H2) σ H
variable {a b : Expr} {ta tb : TE} {pos : Pos}
def PC (X : Cx) (op : CmpOp) (a b : Expr) (t : TE) : Prop :=
  ∀ (pins : List (Addr × Obj)) (s : Shared) (σ : St) (H : Hp) (Q : VK), Inv X pins σ H s → t σ H Q →
    wpAny (model X.prog X.w) X.A (eval a X.env) (fun v s₁ => wpAny (model X.prog X.w) X.A (eval b X.env) (fun u s₂ => wpAny (model X.prog X.w) X.A (compareOp op v u) (EP X pins σ Q) X.xe s₂) X.xe s₁) X.xe s
def tCmp (p : Int → Int → Bool) (ta tb : TE) : TE := fun σ H Q => t2I ta tb (fun i j H2 => Q (.bl (p i j)) H2) σ H
abbrev tLt : TE → TE → TE := tCmp fun i j => decide (i < j)
abbrev tLe : TE → TE → TE := tCmp fun i j => decide (i ≤ j)
abbrev tGt : TE → TE → TE := tCmp fun i j => decide (j < i)
abbrev tGe : TE → TE → TE := tCmp fun i j => decide (j ≤ i)
abbrev tEqI : TE → TE → TE := tCmp fun i j => decide (i = j)
abbrev tNeI : TE → TE → TE := tCmp fun i j => !decide (i = j)
def tIsN (ta : TE) : TE := fun σ H Q => ta σ H fun x H1 => Q (.bl (decide (x = .non))) H1
def tNotN (ta : TE) : TE := fun σ H Q => ta σ H fun x H1 => Q (.bl (!decide (x = .non))) H1
def tB (t : TE) : TT := fun σ H Q => t σ H fun x H1 => ∃ c, x = .bl c ∧ Q c H1
theorem pt_val {e : Expr} {t : TE} (h : PE X e t) (he : ∀ whole, isTrue e X.env whole = (do let v ← whole; standAt e.pos; holding [v] (truthy v)) := by intro _; rfl) : PT X e (tB t) := by
  intro pins s σ H Q I hw
  refine isTrue_plain (thn (h pins s σ H _ I hw) fun v s1 ⟨x, H1, I1, r1, q1⟩ => ?_) (he _)
  obtain ⟨d, rfl, q⟩ := q1
  cases r1
  exact wpAny_truthy_bool ⟨H1, I1, q⟩
variable {tA tB' : TT} {rest : List Expr}
def tAnd (t u : TT) : TT := fun σ H Q => t σ H fun c H1 => if c = true then u σ H1 Q else Q false H1
def tOr (t u : TT) : TT := fun σ H Q => t σ H fun c H1 => if c = true then Q true H1 else u σ H1 Q
def tNot (t : TT) : TT := fun σ H Q => t σ H fun c H1 => Q (!c) H1
theorem pw_and1 (ha : PT X a tA) : PW X (.BoolOp .And [a] pos) tA := by
  intro wh pins s σ H Q I h
  refine isTrue_and (thn (ha pins s σ H Q I h) fun c s1 e => ?_)
  cases c with
  | true => exact isTrue_and_nil e
  | false => exact e
theorem pw_or1 (ha : PT X a tA) : PW X (.BoolOp .Or [a] pos) tA := by
  intro wh pins s σ H Q I h
  refine isTrue_or (thn (ha pins s σ H Q I h) fun c s1 e => ?_)
  cases c with
  | false => exact isTrue_or_nil e
  | true => exact e
theorem pw_and (ha : PT X a tA) (hb : PW X (.BoolOp .And (b :: rest) pos) tB') : PW X (.BoolOp .And (a :: b :: rest) pos) (tAnd tA tB') := by
  intro wh pins s σ H Q I h
  refine isTrue_and (thn (ha pins s σ H _ I h) fun c s1 ⟨H1, I1, q1⟩ => ?_)
  cases c with
  | true => exact hb wh pins s1 σ H1 Q I1 q1
  | false => exact ⟨H1, I1, q1⟩
theorem pw_or (ha : PT X a tA) (hb : PW X (.BoolOp .Or (b :: rest) pos) tB') : PW X (.BoolOp .Or (a :: b :: rest) pos) (tOr tA tB') := by
  intro wh pins s σ H Q I h
  refine isTrue_or (thn (ha pins s σ H _ I h) fun c s1 ⟨H1, I1, q1⟩ => ?_)
  cases c with
  | true => exact ⟨H1, I1, q1⟩
  | false => exact hb wh pins s1 σ H1 Q I1 q1
theorem pt_not (ha : PT X a tA) : PT X (.UnaryOp .Not a pos) (tNot tA) := by
  intro pins s σ H Q I h
  exact isTrue_not (ha pins s σ H (fun c H1 => Q (!c) H1) I h)
def tAndV (ta tb : TE) : TE := fun σ H Q => ta σ H fun x H1 => ∃ c, x = .bl c ∧ if c = true then tb σ H1 Q else Q (.bl false) H1
def tOrV (ta tb : TE) : TE := fun σ H Q => ta σ H fun x H1 => ∃ c, x = .bl c ∧ if c = true then Q (.bl true) H1 else tb σ H1 Q
def tNotV (ta : TE) : TE := fun σ H Q => ta σ H fun x H1 => ∃ c, x = .bl c ∧ Q (.bl (!c)) H1
theorem pe_one {op} {t : TE} (h : PE X a t) : PE X (.BoolOp op [a] pos) t := fun pins s σ H Q I hw => BoolOp_one (h pins s σ H Q I hw)
theorem pe_and (ha : PE X a ta) (hb : PE X (.BoolOp .And (b :: rest) pos) tb) : PE X (.BoolOp .And (a :: b :: rest) pos) (tAndV ta tb) := by
  intro pins s σ H Q I h
  refine BoolOp_and (thn (ha pins s σ H _ I h) fun v s1 ⟨x, H1, I1, r1, q1⟩ => ?_)
  obtain ⟨c, rfl, q1⟩ := q1
  cases r1
  refine wpAny_truthy_bool ?_
  cases c with
  | true => exact hb pins s1 σ H1 Q I1 q1
  | false => exact ⟨.bl false, H1, I1, rfl, q1⟩
theorem pe_not (ha : PE X a ta) : PE X (.UnaryOp .Not a pos) (tNotV ta) := by
  intro pins s σ H Q I h
  refine UnaryOp_ (thn (ha pins s σ H _ I h) fun v s1 ⟨x, H1, I1, r1, q1⟩ => ?_)
  obtain ⟨c, rfl, q1⟩ := q1
  cases r1
  exact not_of (wpAny_truthy_bool ⟨.bl (!c), H1, I1, rfl, q1⟩)
def tIf (t : TT) (ta tb : TE) : TE := fun σ H Q => t σ H fun c H1 => if c = true then ta σ H1 Q else tb σ H1 Q
theorem pe_ifExp {c : Expr} (hc : PT X c tA) (ha : PE X a ta) (hb : PE X b tb) : PE X (.IfExp c a b pos) (tIf tA ta tb) := by
  intro pins s σ H Q I h
  refine wpAny_IfExp (thn (hc pins s σ H _ I h) fun d s1 ⟨H1, I1, q1⟩ => ?_)
  cases d with
  | true => exact ha pins s1 σ H1 Q I1 q1
  | false => exact hb pins s1 σ H1 Q I1 q1
end
end L2
namespace L2
open PySem PySem.Spec PyProof.Rows
def SqL (K : PySem.W.Frag) (H : Hp) (a : Addr) (xs : List V) : Prop :=
  Rd H a (.lst xs) ∨
    ∃ (o : Obj) (its : Array Value) (n : Nat), K.lookup a = some o ∧ o.cls = .type "list" ∧ o.dict = none ∧ o.data = .seq its n ∧ its.size ≤ sizeLine ∧ Vals xs its.toList
def SqT (K : PySem.W.Frag) (H : Hp) (a : Addr) (xs : List V) : Prop :=
  Rd H a (.tup xs) ∨
    ∃ (o : Obj) (its : Array Value) (n : Nat), K.lookup a = some o ∧ o.cls = .type "tuple" ∧ o.data = .seq its n ∧ its.size ≤ sizeLine ∧ Vals xs its.toList
def absV : Value → Option V
  | .none => some .non
  | .bool b => some (.bl b)
  | .int i _ => some (.int i)
  | .str x _ => some (.str x)
  | .bytes b _ => some (.byt b)
  | .float b _ => some (.flt b)
  | .ref a => some (.ref a)
  | .type n => some (.ty n)
  | _ => none
theorem RelV.abs {x : V} {u : Value} (r : RelV x u) : absV u = some x := by
  cases x with
  | non => cases r; rfl
  | bl _ => cases r; rfl
  | int _ => obtain ⟨t, rfl⟩ := r; rfl
  | str _ => obtain ⟨t, rfl⟩ := r; rfl
  | byt _ => obtain ⟨t, rfl⟩ := r; rfl
  | flt _ => obtain ⟨t, rfl⟩ := r; rfl
  | ref _ => cases r; rfl
  | ty _ => cases r; rfl
theorem RelV.inj {x y : V} {u : Value} (r : RelV x u) (q : RelV y u) : x = y := Option.some.inj (r.abs.symm.trans q.abs)
theorem Vals.inj : ∀ {xs ys : List V} {us : List Value}, Vals xs us → Vals ys us → xs = ys
  | _, _, _, .nil, .nil => rfl
  | _, _, _, .cons r t, .cons r' t' => by rw [r.inj r', Vals.inj t t']
section
variable {X : Cx} {pins : List (Addr × Obj)} {σ : St} {H : Hp} {s : Shared} {a : Addr} {xs ys : List V}
theorem SqL.of {K : PySem.W.Frag} (h : H a = some (.lst xs)) : SqL K H a xs := .inl (.inl h)
theorem Inv.list (I : Inv X pins σ H s) (h : SqL X.K H a xs) : ∃ its : List Value, Vals xs its ∧ PlainL s.heap a its.toArray ∧ xs.length ≤ sizeLine := by
  rcases h with h | ⟨o, its, n, hk, hc, hd, hs, hz, r⟩
  · obtain ⟨z, its, n, r, e⟩ := h.ok I.hok
    exact ⟨its, r, ⟨_, n, e, rfl, rfl, rfl⟩, z⟩
  · refine ⟨its.toList, r, ⟨o, n, I.kIn a o hk, hc, hd, by simpa using hs⟩, ?_⟩
    have e := r.length
    simp only [Array.length_toList] at e
    omega
theorem Inv.tuple (I : Inv X pins σ H s) (h : SqT X.K H a xs) : ∃ its : List Value, Vals xs its ∧ IsTup s.heap a its.toArray ∧ xs.length ≤ sizeLine := by
  rcases h with h | ⟨o, its, n, hk, hc, hs, hz, r⟩
  · obtain ⟨z, its, r, p⟩ := h.ok I.hok
    exact ⟨its, r, p, z⟩
  · refine ⟨its.toList, r, ⟨o, I.kIn a o hk, hc, n, by simpa using hs⟩, ?_⟩
    have e := r.length
    simp only [Array.length_toList] at e
    omega
theorem Inv.list_inj (I : Inv X pins σ H s) (h : SqL X.K H a xs) (h' : SqL X.K H a ys) : xs = ys := by
  obtain ⟨its, r, ⟨o, n, e, _, _, d⟩, _⟩ := I.list h
  obtain ⟨its', r', ⟨o', n', e', _, _, d'⟩, _⟩ := I.list h'
  rw [e] at e'; cases e'
  rw [d] at d'
  injection d' with d1 _
  have : its = its' := by simpa using congrArg Array.toList d1
  subst this
  exact r.inj r'
end
abbrev Cx.wish (X : Cx) (E : Value → Shared → Prop) : Cx := { X with xe := E }
abbrev Cx.nox (X : Cx) : Cx := X.wish fun _ _ => False
theorem Cx.Ok.wish {X : Cx} (ok : X.Ok) (E : Value → Shared → Prop) : (X.wish E).Ok :=
  ⟨ok.mod, ok.kind, ok.glob, ok.blt, ok.above, ok.inj, ok.has, ok.cab, ok.hd, ok.frames, ok.stk, ok.exf, ok.bs, ok.bsz, ok.noex, ok.exfs, ok.funs, ok.frf⟩
theorem Cx.Ok.unwish {X : Cx} {E : Value → Shared → Prop} (ok : (X.wish E).Ok) : X.Ok :=
  ⟨ok.mod, ok.kind, ok.glob, ok.blt, ok.above, ok.inj, ok.has, ok.cab, ok.hd, ok.frames, ok.stk, ok.exf, ok.bs, ok.bsz, ok.noex, ok.exfs, ok.funs, ok.frf⟩
section
variable {X : Cx} {pins : List (Addr × Obj)} {σ : St} {H : Hp} {s : Shared} {E : Value → Shared → Prop}
theorem Inv.wish (I : Inv X pins σ H s) (E : Value → Shared → Prop) : Inv (X.wish E) pins σ H s := ⟨I.ok.wish E, I.os, I.bare, I.base, I.loc, I.cell, I.free, I.freeC, I.pin, I.hok, I.len⟩
theorem Inv.unwish (I : Inv (X.wish E) pins σ H s) : Inv X pins σ H s := ⟨I.ok.unwish, I.os, I.bare, I.base, I.loc, I.cell, I.free, I.freeC, I.pin, I.hok, I.len⟩
theorem SP.unwish {D : Ends} {f : Flow} {s' : Shared} (h : SP (X.wish E) pins D f s') : SP X pins D f s' := by
  cases f with
  | next => obtain ⟨σ', H', I, q⟩ := h; exact ⟨σ', H', I.unwish, q⟩
  | brk => obtain ⟨σ', H', I, q⟩ := h; exact ⟨σ', H', I.unwish, q⟩
  | cont => obtain ⟨σ', H', I, q⟩ := h; exact ⟨σ', H', I.unwish, q⟩
  | ret u => obtain ⟨v, σ', H', I, r, q⟩ := h; exact ⟨v, σ', H', I.unwish, r, q⟩
theorem PSs.nox {st : List Stmt} {t : TS} (h : PSs X.nox st t) : PSs X st t := fun pins s σ H D I hw =>
  wpAny_mono (h pins s σ H D (I.wish _) hw) (fun _ _ q => q.unwish) fun _ _ z => False.elim z
end
section
variable {X : Cx} {st : Stmt} {rest : List Stmt} {t u : TS} {e : Expr} {te : TE} {pos : Pos}
def tNext : TS := fun D σ H => D.nx σ H
def tSeq (t u : TS) : TS := fun D σ H => t { D with nx := u D } σ H
theorem pss_nil : PSs X [] tNext := fun _ _ σ H _ I h => wpAny_execs_nil ⟨σ, H, I, h⟩
theorem pss_cons (h1 : PS X st t) (h2 : PSs X rest u) : PSs X (st :: rest) (tSeq t u) := by
  intro pins s σ H D I h
  refine wpAny_execs_cons (thn (h1 pins s σ H { D with nx := u D } I h) fun f s1 q => ?_)
  cases f with
  | next =>
    obtain ⟨σ', H', I', q⟩ := q
    exact h2 pins s1 σ' H' D I' q
  | ret v => exact q
  | brk => exact q
  | cont => exact q
theorem pss_one (h1 : PS X st t) : PSs X [st] t := by
  intro pins s σ H D I h
  refine wpAny_execs_cons (thn (h1 pins s σ H D I h) fun f s1 q => ?_)
  cases f with
  | next => exact wpAny_execs_nil q
  | ret v => exact q
  | brk => exact q
  | cont => exact q
def tBreak : TS := fun D σ H => D.bk σ H
def tCont : TS := fun D σ H => D.ct σ H
theorem Inv.quiet {pins : List (Addr × Obj)} {σ : St} {H : Hp} {s : Shared} (I : Inv X pins σ H s) : interactive X.env = false := by simp [interactive, I.ok.kind]
def tDrop (te : TE) : TS := fun D σ H => te σ H fun _ H1 => D.nx σ H1
theorem ps_expr (he : PE X e te) (hs : swapsWith e none pos.line X.env = pure false := by rfl) : PS X (.Expr e pos) (tDrop te) := by
  intro pins s σ H D I h
  exact wpAny_Expr_any (thn (he pins s σ H _ I h) fun v s1 ⟨x, H1, I1, r1, q1⟩ => ⟨σ, H1, I1, q1⟩) I.quiet hs
def tRet (te : TE) : TS := fun D σ H => te σ H D.rt
theorem ps_ret (he : PE X e te) : PS X (.Return (some e) pos) (tRet te) := by
  intro pins s σ H D I h
  exact wpAny_Return_some (thn (he pins s σ H _ I h) fun v s1 ⟨x, H1, I1, r1, q1⟩ => ⟨x, σ, H1, I1, r1, q1⟩)
def tRetN : TS := fun D _ H => D.rt .non H
def tIfS (c : TT) (t u : TS) : TS := fun D σ H => c σ H fun b H1 => if b = true then t D σ H1 else u D σ H1
theorem ps_if {c : Expr} {a b : List Stmt} {tc : TT} (hc : PT X c tc) (ha : PSs X a t) (hb : PSs X b u) : PS X (.If c a b pos) (tIfS tc t u) := by
  intro pins s σ H D I h
  refine wpAny_If (thn (hc pins s σ H _ I h) fun d s1 ⟨H1, I1, q1⟩ => ?_)
  cases d with
  | true => exact ha pins s1 σ H1 D I1 q1
  | false => exact hb pins s1 σ H1 D I1 q1
def tNever : TS := fun _ _ _ => False
end
abbrev TG := V → St → Hp → (St → Hp → Prop) → Prop
abbrev TGs := List V → St → Hp → (St → Hp → Prop) → Prop
def PG (X : Cx) (target : Expr) (t : TG) : Prop :=
  ∀ (pins : List (Addr × Obj)) (s : Shared) (σ : St) (H : Hp) (v : V) (u : Value) (Q : St → Hp → Prop), Inv X pins σ H s → RelV v u → t v σ H Q →
    wpAny (model X.prog X.w) X.A (assign target X.env u) (fun _ s' => ∃ σ' H', Inv X pins σ' H' s' ∧ Q σ' H') X.xe s
def PGs (X : Cx) (ts : List Expr) (t : TGs) : Prop :=
  ∀ (pins : List (Addr × Obj)) (s : Shared) (σ : St) (H : Hp) (vs : List V) (us : List Value) (Q : St → Hp → Prop), Inv X pins σ H s → Vals vs us → t vs σ H Q →
    wpAny (model X.prog X.w) X.A (assignInOrder ((assignEach ts X.env).map (·.2)) us) (fun _ s' => ∃ σ' H', Inv X pins σ' H' s' ∧ Q σ' H') X.xe s
abbrev TSet := V → V → V → Hp → (Hp → Prop) → Prop
def PSet (X : Cx) (t : TSet) : Prop :=
  ∀ (pins : List (Addr × Obj)) (s : Shared) (σ : St) (H : Hp) (o i v : V) (ov iv u : Value) (Q : Hp → Prop), Inv X pins σ H s → RelV o ov → RelV i iv → RelV v u → t o i v H Q →
    wpAny (model X.prog X.w) X.A (setItem ov iv u) (fun _ s' => ∃ H', Inv X pins σ H' s' ∧ Q H') X.xe s
abbrev TIp := V → V → Hp → VK → Prop
def PIp (X : Cx) (op : Operator) (t : TIp) : Prop :=
  ∀ (pins : List (Addr × Obj)) (s : Shared) (σ : St) (H : Hp) (x y : V) (v u : Value) (Q : VK), Inv X pins σ H s → RelV x v → RelV y u → t x y H Q →
    wpAny (model X.prog X.w) X.A (inplaceOp op v u) (EP X pins σ Q) X.xe s
section
variable {X : Cx} {pos : Pos}
def gName (i : Nat) : TG := fun v σ H Q => Q (σ.set i (some v)) H
theorem pg_name {i : Nat} {x : Str} (hN : X.N.Nodup) (hi : X.N[i]? = some x) (hx : Loc X.env.scope x) (hf : X.fn x = true ∨ X.env.scope.names.lookup x = some .local := by first | exact .inl rfl | exact .inr rfl | assumption) : PG X (.Name x pos) (gName i) := by
  intro pins s σ H v u Q I r h
  exact wpAny_assign_Name (store_ok I hN hi hx r (fun s' I' => ⟨_, H, I', h⟩) hf)
def gNil : TGs := fun vs σ H Q => vs = [] ∧ Q σ H
def gCons (t : TG) (u : TGs) : TGs := fun vs σ H Q => ∃ v r, vs = v :: r ∧ t v σ H fun σ' H' => u r σ' H' Q
def gTup (K : PySem.W.Frag) (n : Nat) (t : TGs) : TG := fun v σ H Q => ∃ a xs, v = .ref a ∧ SqT K H a xs ∧ xs.length = n ∧ t xs σ H Q
def gSub (to ti : TE) (t : TSet) : TG := fun v σ H Q => to σ H fun o H1 => ti σ H1 fun i H2 => t o i v H2 fun H3 => Q σ H3
def tAsg (te : TE) (g : TG) : TS := fun D σ H => te σ H fun x H1 => g x σ H1 D.nx
theorem ps_set {i : Nat} {x : Str} {e : Expr} {te : TE} {pos' : Pos} (hN : X.N.Nodup) (hi : X.N[i]? = some x) (hx : Loc X.env.scope x) (he : PE X e te) (hs : swapsWith e (some (.Name x pos')) pos.line X.env = pure false := by rfl) (hf : X.fn x = true ∨ X.env.scope.names.lookup x = some .local := by first | exact .inl rfl | exact .inr rfl | assumption) :
    PS X (.Assign [.Name x pos'] e pos) (tAsg te (gName i)) := by
  intro pins s σ H D I h
  refine wpAny_Assign_Name (thn (he pins s σ H _ I h) fun v s1 ⟨y, H1, I1, r1, q1⟩ => ?_) hs
  exact store_ok I1 hN hi hx r1 (fun s2 I2 => ⟨_, H1, I2, q1⟩) hf
def tPar (i j : Nat) (ta : TA) : TS := fun D σ H => ta σ H fun vs H1 => ∃ v w, vs = [v, w] ∧ D.nx ((σ.set i (some v)).set j (some w)) H1
def tAug (i : Nat) (te : TE) (ti : TIp) : TS := fun D σ H => ∃ x, σ[i]? = some (some x) ∧ te σ H fun y H1 => ti x y H1 fun z H2 => D.nx (σ.set i (some z)) H2
def tAugS (to ti te : TE) (tget : V → V → Hp → VK → Prop) (tip : TIp) (tset : TSet) : TS := fun D σ H => to σ H fun o H1 => ti σ H1 fun i H2 => tget o i H2 fun x H3 => te σ H3 fun y H4 => tip x y H4 fun z H5 => tset o i z H5 fun H6 => D.nx σ H6
def PGet (X : Cx) (t : V → V → Hp → VK → Prop) : Prop :=
  ∀ (pins : List (Addr × Obj)) (s : Shared) (σ : St) (H : Hp) (o i : V) (ov iv : Value) (Q : VK), Inv X pins σ H s → RelV o ov → RelV i iv → t o i H Q →
    wpAny (model X.prog X.w) X.A (getItem ov iv) (EP X pins σ Q) X.xe s
def ipI (f : Int → Int → Int) : TIp := fun x y H Q => ∃ i j, x = .int i ∧ y = .int j ∧ Q (.int (f i j)) H
end
section
variable {X : Cx} {pos : Pos}
def tWhile (c : TT) (tb : TS) : TS := fun D σ H => ∃ W : Nat → St → Hp → Prop, (∃ m, W m σ H) ∧ ∀ m σ H, W m σ H →
  c σ H fun b H1 => if b = true then ∃ N : St → Hp → Prop, (∀ σ' H', N σ' H' → ∃ m', m' < m ∧ W m' σ' H') ∧ tb { D with nx := N, ct := N, bk := D.nx } σ H1 else D.nx σ H1
end
structure It where
  go : Nat → Hp → Prop
  yld : Nat → Hp → V → Hp → Prop
  stop : Nat → Hp → Prop
def FpOk (X : Cx) (pins : List (Addr × Obj)) (H : Hp) (b : Addr) : Prop :=
  H b = none ∧ b ≠ X.env.locals ∧ b ∉ X.fs ∧ (b ∈ X.ex ∨ X.s₀.heap.objs.size ≤ b) ∧ (∀ x c, X.env.cells.lookup x = some c → c ≠ b) ∧ ∀ p ∈ X.pn ++ pins, p.1 ≠ b
theorem Inv.fpOk {X : Cx} {pins : List (Addr × Obj)} {σ : St} {H H' : Hp} {s : Shared} {b : Addr} (I : Inv X pins σ H s) (hb : s.heap.objs.size ≤ b) (hn : H' b = none) : FpOk X pins H' b := by
  refine ⟨hn, Nat.ne_of_gt (Nat.lt_of_lt_of_le I.lt hb), I.nofs hb, .inr (Nat.le_trans I.sz hb), fun x c e z => ?_, fun p hp z => ?_⟩
  · obtain ⟨v, q⟩ := I.cell x c e
    exact absurd (Nat.lt_of_lt_of_le q.lt (by rw [z]; exact hb)) (Nat.lt_irrefl _)
  · exact absurd (Nat.lt_of_lt_of_le (Heap.lt_size (I.pin p hp).1) (by rw [z]; exact hb)) (Nat.lt_irrefl _)
structure Turn (P : Program) (w : World) (K : PySem.W.Frag) (tg : Expr) (J : It) (fp : List Addr) (it : Addr) (tn : Nat → Heap → Prop) : Prop where
  mem : it ∈ fp
  obj : ∀ i h, tn i h → ∀ b ∈ fp, ∃ o, h.get? b = some o ∧ ∀ v, o.data ≠ .cell v
  keep : ∀ i h h', tn i h → (∀ b ∈ fp, ∀ o, h.get? b = some o → h'.get? b = some o) → tn i h'
  item : ∀ (X : Cx), X.prog = P → X.w = w → X.K = K → X.calm = true → ∀ (i : Nat) (pins : List (Addr × Obj)) (s : Shared) (σ : St) (H : Hp) (E : Value → Shared → Prop), Inv X pins σ H s → (∀ b ∈ fp, FpOk X pins H b) → tn i s.heap → J.go i H →
    wpAny (model P w) X.A (pyNext (.ref it)) (fun r s1 => ∃ u, r = some u ∧
      wpAny (model P w) X.A (letOwnedTupleGo tg (.ref it) u) (fun _ s2 => ∃ x H', Inv X pins σ H' s2 ∧ RelV x u ∧ J.yld i H x H' ∧ tn (i + 1) s2.heap ∧ ∀ b ∈ fp, H' b = none) E s1) E s
  done : ∀ (X : Cx), X.prog = P → X.w = w → X.K = K → X.calm = true → ∀ (i : Nat) (pins : List (Addr × Obj)) (s : Shared) (σ : St) (H : Hp) (E : Value → Shared → Prop), Inv X pins σ H s → (∀ b ∈ fp, FpOk X pins H b) → tn i s.heap → J.stop i H →
    wpAny (model P w) X.A (pyNext (.ref it)) (fun r s1 => r = none ∧ Inv X pins σ H s1) E s
  self : ∀ (A : Around) (i : Nat) (s : Shared) (Q : Value → Shared → Prop) (E : Value → Shared → Prop), tn i s.heap → Q (.ref it) s → wpAny (model P w) A (pyIter (.ref it)) Q E s
abbrev TI := St → Hp → (It → Hp → Prop) → Prop
def PIE (X : Cx) (pins : List (Addr × Obj)) (σ : St) (tg : Expr) (R : It → Hp → Prop) (itv : Value) (s2 : Shared) : Prop :=
  ∃ (it : Addr) (fp : List Addr) (tn : Nat → Heap → Prop) (J : It) (H' : Hp), itv = .ref it ∧ Inv X pins σ H' s2 ∧ Turn X.prog X.w X.K tg J fp it tn ∧ tn 0 s2.heap ∧ (∀ b ∈ fp, FpOk X pins H' b) ∧ R J H'
def PI (X : Cx) (tg iter : Expr) (wi : TI) : Prop :=
  ∀ (pins : List (Addr × Obj)) (s : Shared) (σ : St) (H : Hp) (R : It → Hp → Prop), Inv X pins σ H s → wi σ H R →
    wpAny (model X.prog X.w) X.A (eval iter X.env) (fun v s1 => wpAny (model X.prog X.w) X.A (pyIter v) (PIE X pins σ tg R) X.xe s1) X.xe s
theorem go_of {M : Model} {A : Around} {E : Value → Shared → Prop} {s : Shared} {tg : Expr} {it : Addr} {u : Value} {o : Obj} {n : String} {vs : Array Value} {Q : Unit → Shared → Prop} (ho : s.heap.get? it = some o) (hc : o.cls = .type n) (hd : o.data = .fields vs)
    (hn : ["enumerate", "zip", "dict_itemiterator", "dict_reverseitemiterator", "odict_iterator", "itertools.zip_longest", "itertools.pairwise"].contains n = false) (hQ : Q () s) : wpAny M A (letOwnedTupleGo tg (.ref it) u) Q E s := by
  unfold letOwnedTupleGo
  cases tg <;> first
    | exact wpAny_pure hQ
    | (cases u <;> first
        | exact wpAny_pure hQ
        | (refine wpAny_bind (wpAny_load ho ?_)
           rw [hc, hd]
           show wpAny M A (if (["enumerate", "zip", "dict_itemiterator", "dict_reverseitemiterator", "odict_iterator", "itertools.zip_longest", "itertools.pairwise"].contains n && vs[0]? == some (rawInt _)) = true then _ else _) Q E s
           rw [if_neg (by intro h; rw [hn, Bool.false_and] at h; cases h)]
           exact wpAny_pure hQ))
def Itl (K : PySem.W.Frag) (a : Addr) : It :=
  ⟨fun i H => ∃ xs x, SqL K H a xs ∧ xs[i]? = some x, fun i H x H' => H' = H ∧ ∀ xs, SqL K H a xs → xs[i]? = some x, fun i H => ∃ xs, SqL K H a xs ∧ xs.length ≤ i⟩
def Itt (K : PySem.W.Frag) (a : Addr) : It :=
  ⟨fun i H => ∃ xs x, SqT K H a xs ∧ xs[i]? = some x, fun i H x H' => H' = H ∧ ∀ xs, SqT K H a xs → xs[i]? = some x, fun i H => ∃ xs, SqT K H a xs ∧ xs.length ≤ i⟩
def Itr (lo : Int) (n : Nat) : It := ⟨fun i _ => i < n, fun i H x H' => H' = H ∧ x = .int (lo + i), fun i _ => n ≤ i⟩
theorem turn_list {P : Program} {w : World} {K : PySem.W.Frag} {tg : Expr} (a it : Addr) : Turn P w K tg (Itl K a) [it] it (fun i h => h.IsListIter it a i) where
  mem := by simp
  obj := fun i h st b hb => by
    have e : b = it := by simpa using hb
    subst e
    obtain ⟨o, e, c, d⟩ := st
    exact ⟨o, e, fun v z => by rw [d] at z; cases z⟩
  keep := fun i h h' st k => st.at fun o e => k it (by simp) o e
  item := by
    intro X hP hw hK hc i pins s σ H E I hf st hg
    subst hP hw hK
    obtain ⟨xs, x, hq, hx⟩ := hg
    obtain ⟨its, rv, p, hz⟩ := I.list hq
    obtain ⟨u, hu, ru⟩ := rv.get hx
    obtain ⟨f0, f1, f2, f3, f4, f5⟩ := hf it (by simp)
    refine wpAny_pyNext_list_item st p.isList (x := u) (by simpa using hu) fun h' st' sb => ?_
    have I1 : Inv X pins σ H { s with heap := h' } := I.turned (t' := s.toks) (fun b o hb e => (sb.2 b hb).trans e) f0 f1 f3 f4 f5
    obtain ⟨o, e, c, d⟩ := id st'
    exact ⟨u, rfl, go_of (s := { s with heap := h' }) e c d (by decide) ⟨x, H, I1, ru, ⟨rfl, fun ys hy => by rw [I.list_inj hy hq]; exact hx⟩, st', fun b hb => (hf b hb).1⟩⟩
  done := by
    intro X hP hw hK hc i pins s σ H E I hf st hg
    subst hP hw hK
    obtain ⟨xs, hq, hx⟩ := hg
    obtain ⟨its, rv, p, hz⟩ := I.list hq
    obtain ⟨f0, f1, f2, f3, f4, f5⟩ := hf it (by simp)
    have hl := rv.length
    exact wpAny_pyNext_list_end (I.ok.hd hc) st p.isList (by simp; omega) fun h' eb => ⟨rfl, I.turned (t' := s.toks) (fun b o hb e => eb b o hb e) f0 f1 f3 f4 f5⟩
  self := fun _ _ _ _ _ st h => wpAny_pyIter_listiter st h
theorem turn_range {P : Program} {w : World} {K : PySem.W.Frag} {tg : Expr} (it : Addr) (lo : Int) (n : Nat) : Turn P w K tg (Itr lo n) [it] it (fun i h => IsRangeIter h it (lo + (i : Nat) * 1) ((n : Int) - (i : Nat)) 1) where
  mem := by simp
  obj := fun i h st b hb => by
    have e : b = it := by simpa using hb
    subst e
    exact ⟨_, st, fun v z => by
      have z' : Data.fields _ = Data.cell v := z
      cases z'⟩
  keep := fun i h h' st k => k it (by simp) _ st
  item := by
    intro X hP hw hK hc i pins s σ H E I hf st hg
    subst hP hw hK
    obtain ⟨f0, f1, f2, f3, f4, f5⟩ := hf it (by simp)
    have W := Walks.range (prog := X.prog) (w := X.w) (I.ok.hd hc) it lo 1 n
    refine W.item i s _ _ hg st fun v h' tk hv st' kk => ?_
    obtain ⟨t, rfl⟩ := hv
    have I1 : Inv X pins σ H { s with heap := h', toks := tk } := I.turned (fun b o hb e => kk b o (by simpa using hb) e) f0 f1 f3 f4 f5
    refine ⟨_, rfl, go_of (s := { s with heap := h', toks := tk }) (n := "range_iterator") st' rfl rfl (by decide) ⟨.int (lo + i), H, I1, ⟨t, ?_⟩, ⟨rfl, rfl⟩, st', fun b hb => (hf b hb).1⟩⟩
    rw [Int.mul_one]
  done := by
    intro X hP hw hK hc i pins s σ H E I hf st hg
    subst hP hw hK
    obtain ⟨f0, f1, f2, f3, f4, f5⟩ := hf it (by simp)
    exact wpAny_pyNext_range_end (I.ok.hd hc) st (by have : n ≤ i := hg; omega) fun h' eb => ⟨rfl, I.turned (t' := s.toks) (fun b o hb e => eb b o hb e) f0 f1 f3 f4 f5⟩
  self := fun _ _ _ _ _ st h => wpAny_pyIter_rangeiter st h
end L2
namespace L2
open PySem PySem.Spec PyProof.Rows
section
variable {X : Cx} {tg : Expr}
def iList (K : PySem.W.Frag) (tl : TE) : TI := fun σ H R => tl σ H fun x H1 => ∃ a, x = .ref a ∧ (∃ xs, SqL K H1 a xs) ∧ R (Itl K a) H1
def iTup (K : PySem.W.Frag) (tl : TE) : TI := fun σ H R => tl σ H fun x H1 => ∃ a, x = .ref a ∧ (∃ xs, SqT K H1 a xs) ∧ R (Itt K a) H1
theorem pi_list {l : Expr} {tl : TE} (hl : PE X l tl) : PI X tg l (iList X.K tl) := by
  intro pins s σ H R I h
  refine thn (hl pins s σ H _ I h) fun v s1 ⟨x, H1, I1, r1, q1⟩ => ?_
  obtain ⟨a, e, ⟨xs, hq⟩, q⟩ := q1
  subst e
  cases r1
  obtain ⟨its, rv, p, hz⟩ := I1.list hq
  refine wpAny_pyIter_list p.isList ?_
  refine ⟨s1.heap.objs.size, [s1.heap.objs.size], _, _, H1, rfl, I1.kept (t' := s1.toks) fun b o e => Heap.get?_push_of_some _ e, turn_list a _, ⟨_, Heap.get?_push_size _ rfl, rfl, rfl⟩, fun b hb => ?_, q⟩
  have e : b = s1.heap.objs.size := by simpa using hb
  subst e
  exact I1.fpOk (Nat.le_refl _) (I1.hok.fresh (Nat.le_refl _))
theorem range_it {pins : List (Addr × Obj)} {σ : St} {H : Hp} {s : Shared} {R : It → Hp → Prop} {E : Value → Shared → Prop} {lo hi : Int} {t u v : Tok} {tk : Nat} (I : Inv X pins σ H s) (h1 : -(2 ^ 62) ≤ lo) (h2 : lo < 2 ^ 62) (h3 : -(2 ^ 62) ≤ hi) (h4 : hi < 2 ^ 62)
    (q : R (Itr lo (hi - lo).toNat) H) : wpAny (model X.prog X.w) X.A (pyIter (.ref s.heap.objs.size)) (PIE X pins σ tg R) E { s with heap := s.heap.push { cls := .type "range", data := .fields #[.int lo t, .int hi u, .int 1 v] }, toks := tk } := by
  refine wpAny_pyIter_range (IsRange.new ..) (small_one h1 h2 h3 h4) ?_
  have I1 : Inv X pins σ H { s with heap := s.heap.push { cls := .type "range", data := .fields #[.int lo t, .int hi u, .int 1 v] }, toks := tk } := I.kept fun b o e => Heap.get?_push_of_some _ e
  refine ⟨(s.heap.push { cls := .type "range", data := .fields #[.int lo t, .int hi u, .int 1 v] }).objs.size, [(s.heap.push { cls := .type "range", data := .fields #[.int lo t, .int hi u, .int 1 v] }).objs.size], _, _, H, rfl,
    I1.kept (t' := tk) fun b o e => Heap.get?_push_of_some _ e, turn_range _ lo (hi - lo).toNat, ?_, fun b hb => ?_, q⟩
  · have e1 : lo + ((0 : Nat) : Int) * 1 = lo := by simp
    have e2 : (((hi - lo).toNat : Nat) : Int) - ((0 : Nat) : Int) = Builtin.Range.rangeSize lo hi 1 := by rw [rangeSize_one]; split <;> omega
    show IsRangeIter _ _ (lo + ((0 : Nat) : Int) * 1) ((((hi - lo).toNat : Nat) : Int) - ((0 : Nat) : Int)) 1
    rw [e1, e2]
    exact Heap.get?_push_size _ rfl
  · have e : b = (s.heap.push { cls := .type "range", data := .fields #[.int lo t, .int hi u, .int 1 v] }).objs.size := by simpa using hb
    subst e
    exact I1.fpOk (Nat.le_refl _) (I1.hok.fresh (Nat.le_refl _))
def iRng1 (ta : TA) : TI := fun σ H R => ta σ H fun vs H1 => ∃ j : Int, vs = [.int j] ∧ -(2 ^ 62) ≤ j ∧ j < 2 ^ 62 ∧ R (Itr 0 j.toNat) H1
def iRng2 (ta : TA) : TI := fun σ H R => ta σ H fun vs H1 => ∃ i j : Int, vs = [.int i, .int j] ∧ (-(2 ^ 62) ≤ i ∧ i < 2 ^ 62 ∧ -(2 ^ 62) ≤ j ∧ j < 2 ^ 62) ∧ R (Itr i (j - i).toNat) H1
theorem pi_range1 {a : Expr} {ta : TA} {p pos : Pos} (hg : Gl X "range") (hm : X.mg "range" = none) (ha : PA X [a] ta) (hs : starEach [a] X.env = [(false, eval a X.env)] := by rfl) : PI X tg (.Call (.Name "range" p) [a] [] pos) (iRng1 ta) := by
  intro pins s σ H R I h
  refine Call_ (ld_blt I hg hm boot_range (PyProof.Rows.callWith_type1 (thn (ha pos pins s σ H _ I h) fun us s1 ⟨vs, H1, I1, r1, q1⟩ => ?_) hs rfl))
  obtain ⟨j, e, q1, q2, q⟩ := q1
  subst e
  cases r1 with
  | cons r rr =>
    cases rr
    obtain ⟨t, rfl⟩ := r
    exact call_range_1 (range_it I1 (by omega) (by omega) q1 q2 (by simpa using q))
def tFor (wi : TI) (g : TG) (tb : TS) : TS := fun D σ H => wi σ H fun J H1 => ∃ W : Nat → Nat → St → Hp → Prop, (∃ m, W 0 m σ H1) ∧ ∀ i m σ H, W i m σ H →
  (J.stop i H ∧ D.nx σ H) ∨ (J.go i H ∧ ∃ N : St → Hp → Prop, (∀ σ' H', N σ' H' → ∃ m', m' < m ∧ W (i + 1) m' σ' H') ∧ ∀ x H', J.yld i H x H' → g x σ H' fun σ2 H2 => tb { D with nx := N, ct := N, bk := D.nx } σ2 H2)
def pinsAt (fp : List Addr) (h : Heap) : List (Addr × Obj) := fp.filterMap fun b => (h.get? b).map fun o => (b, o)
theorem mem_pinsAt {fp : List Addr} {h : Heap} {b : Addr} {o : Obj} (hb : b ∈ fp) (e : h.get? b = some o) : (b, o) ∈ pinsAt fp h := List.mem_filterMap.mpr ⟨b, hb, by rw [e]; rfl⟩
theorem of_pinsAt {fp : List Addr} {h : Heap} {p : Addr × Obj} (hp : p ∈ pinsAt fp h) : p.1 ∈ fp ∧ h.get? p.1 = some p.2 := by
  obtain ⟨b, hb, e⟩ := List.mem_filterMap.mp hp
  cases q : h.get? b with
  | none => rw [q] at e; cases e
  | some o =>
    rw [q] at e
    have e' : (b, o) = p := Option.some.inj e
    subst e'
    exact ⟨hb, q⟩
theorem Inv.pinned {pins : List (Addr × Obj)} {σ : St} {H : Hp} {s : Shared} {fp : List Addr} (I : Inv X pins σ H s) (hf : ∀ b ∈ fp, FpOk X pins H b) (ho : ∀ b ∈ fp, ∃ o, s.heap.get? b = some o ∧ ∀ v, o.data ≠ .cell v) : Inv X (pins ++ pinsAt fp s.heap) σ H s :=
  I.pins_of fun p hp => (List.mem_append.mp hp).elim (fun z => I.pin p (List.mem_append_right _ z)) fun z => by
    obtain ⟨hb, e⟩ := of_pinsAt z
    obtain ⟨f0, f1, f2, _⟩ := hf p.1 hb
    obtain ⟨o, e', d⟩ := ho p.1 hb
    rw [e] at e'; cases e'
    exact ⟨e, f0, f1, f2, d⟩
theorem Inv.unpinned {pins pl : List (Addr × Obj)} {σ : St} {H : Hp} {s : Shared} (I : Inv X (pins ++ pl) σ H s) : Inv X pins σ H s := I.pins_of fun p hp => I.pin p (List.mem_append_right _ (List.mem_append_left _ hp))
theorem ps_for {iter : Expr} {body : List Stmt} {wi : TI} {g : TG} {tb : TS} {pos : Pos} (hp : PassesOwn (model X.prog X.w) X.A X.env X.xe) (hc : X.calm = true) (hi : PI X tg iter wi) (hg : PG X tg g) (hb : PSs X body tb)
    (hs : ∀ x, foldedSetIterable iter X.env x = pure x := by intro _; rfl) : PS X (.For tg iter body [] pos) (tFor wi g tb) := by
  intro pins s σ H D I h
  refine wpAny_For (thn (hi pins s σ H _ I h) fun v s1 h1 => thn h1 fun itv s2 h2 => ?_) hs
  obtain ⟨it, fp, tn, J, H2, e, I2, T, st2, f2, W, ⟨m0, w0⟩, turn⟩ := h2
  subst e
  have stat : ∀ {H' : Hp}, (∀ b ∈ fp, H' b = none) → ∀ b ∈ fp, FpOk X pins H' b := fun hn b hb => ⟨hn b hb, (f2 b hb).2⟩
  refine codeAny_forLoop_any (fun n s' => ∃ i σ' H', Inv X pins σ' H' s' ∧ tn i s'.heap ∧ (∀ b ∈ fp, H' b = none) ∧ W i n σ' H') ?_ m0 ⟨0, σ, H2, I2, st2, fun b hb => (f2 b hb).1, w0⟩
  rintro n s3 ⟨i, σ3, H3, I3, st3, fr3, w3⟩
  rcases turn i n σ3 H3 w3 with ⟨stop, qn⟩ | ⟨go, N, hN, step⟩
  · refine wpAny_passesOwn hp (thn (T.done X rfl rfl rfl hc i pins s3 σ3 H3 X.xe I3 (stat fr3) st3 stop) fun r s4 ⟨hr, I4⟩ => ?_)
    subst hr
    exact wpAny_execs_nil ⟨σ3, H3, I4, qn⟩
  · refine wpAny_passesOwn hp (thn (T.item X rfl rfl rfl hc i pins s3 σ3 H3 X.xe I3 (stat fr3) st3 go) fun r s4 ⟨u, hr, h4⟩ => ?_)
    subst hr
    refine wpAny_passesOwn hp (thn h4 fun _ s5 ⟨x, H5, I5, r5, y5, st5, fr5⟩ => ?_)
    have I5' := I5.pinned (stat fr5) (T.obj _ _ st5)
    refine wpAny_passesOwn hp (thn (hg _ s5 σ3 H5 x u _ I5' r5 (step x H5 y5)) fun _ s6 ⟨σ6, H6, I6, q6⟩ => ?_)
    refine wpAny_passesOwn hp (thn (hb _ s6 σ6 H6 _ I6 q6) fun f s7 q7 => ?_)
    have again : ∀ {σ7 : St} {H7 : Hp}, Inv X (pins ++ pinsAt fp s5.heap) σ7 H7 s7 → N σ7 H7 → ∃ m, m < n ∧ ∃ i σ' H', Inv X pins σ' H' s7 ∧ tn i s7.heap ∧ (∀ b ∈ fp, H' b = none) ∧ W i m σ' H' := fun {σ7 H7} I7 n7 => by
      obtain ⟨m', hm, w7⟩ := hN σ7 H7 n7
      refine ⟨m', hm, i + 1, σ7, H7, I7.unpinned, T.keep _ _ _ st5 fun b hb o e => (I7.pin (b, o) (List.mem_append_right _ (List.mem_append_right _ (mem_pinsAt hb e)))).1, fun b hb => ?_, w7⟩
      obtain ⟨o, e, d⟩ := T.obj _ _ st5 b hb
      exact (I7.pin (b, o) (List.mem_append_right _ (List.mem_append_right _ (mem_pinsAt hb e)))).2.1
    cases f with
    | next => obtain ⟨σ7, H7, I7, n7⟩ := q7; exact again I7 n7
    | cont => obtain ⟨σ7, H7, I7, n7⟩ := q7; exact again I7 n7
    | brk => obtain ⟨σ7, H7, I7, q7⟩ := q7; exact ⟨σ7, H7, I7.unpinned, q7⟩
    | ret v => obtain ⟨x7, σ7, H7, I7, r7, q7⟩ := q7; exact ⟨x7, σ7, H7, I7.unpinned, r7, q7⟩
end
theorem for_range {lo : Int} {n : Nat} {g : TG} {tb : TS} {D : Ends} {σ : St} {H : Hp} (Pv : Nat → St → Hp → Prop) (h0 : Pv 0 σ H)
    (hs : ∀ i σ H, i < n → Pv i σ H → g (.int (lo + i)) σ H fun σ2 H2 => tb { D with nx := Pv (i + 1), ct := Pv (i + 1), bk := D.nx } σ2 H2) (hd : ∀ σ H, Pv n σ H → D.nx σ H) :
    ∃ W : Nat → Nat → St → Hp → Prop, (∃ m, W 0 m σ H) ∧ ∀ i m σ H, W i m σ H →
      ((Itr lo n).stop i H ∧ D.nx σ H) ∨ ((Itr lo n).go i H ∧ ∃ N : St → Hp → Prop, (∀ σ' H', N σ' H' → ∃ m', m' < m ∧ W (i + 1) m' σ' H') ∧ ∀ x H', (Itr lo n).yld i H x H' → g x σ H' fun σ2 H2 => tb { D with nx := N, ct := N, bk := D.nx } σ2 H2) := by
  refine ⟨fun i m σ H => m = n - i ∧ i ≤ n ∧ Pv i σ H, ⟨n, by simp, Nat.zero_le _, h0⟩, ?_⟩
  rintro i m σ H ⟨rfl, hi, p⟩
  by_cases hlt : i < n
  · refine .inr ⟨hlt, Pv (i + 1), fun σ' H' p' => ⟨n - (i + 1), by omega, rfl, hlt, p'⟩, fun x H' y => ?_⟩
    obtain ⟨e, y⟩ := y
    subst e y
    exact hs i σ _ hlt p
  · have e : i = n := by omega
    subst e
    exact .inl ⟨Nat.le_refl _, hd σ H p⟩
end L2
namespace L2
open PySem PySem.Spec PyProof.Rows
abbrev R2 := V → V → Hp → VK → Prop
def OpR (X : Cx) (f : Value → Value → Sem Value) (r : R2) : Prop :=
  ∀ (pins : List (Addr × Obj)) (s : Shared) (σ : St) (H : Hp) (x y : V) (v u : Value) (Q : VK), Inv X pins σ H s → RelV x v → RelV y u → r x y H Q →
    wpAny (model X.prog X.w) X.A (f v u) (EP X pins σ Q) X.xe s
def UnR (X : Cx) (f : Value → Sem Value) (r : V → Hp → VK → Prop) : Prop :=
  ∀ (pins : List (Addr × Obj)) (s : Shared) (σ : St) (H : Hp) (x : V) (v : Value) (Q : VK), Inv X pins σ H s → RelV x v → r x H Q →
    wpAny (model X.prog X.w) X.A (f v) (EP X pins σ Q) X.xe s
def CallR (X : Cx) (f : Value) (r : List V → Hp → VK → Prop) : Prop :=
  ∀ (pins : List (Addr × Obj)) (s : Shared) (σ : St) (H : Hp) (xs : List V) (us : List Value) (Q : VK), Inv X pins σ H s → Vals xs us → r xs H Q →
    wpAny (model X.prog X.w) X.A (call f us) (EP X pins σ Q) X.xe s
def TruR (X : Cx) (r : V → Hp → (Bool → Hp → Prop) → Prop) : Prop :=
  ∀ (pins : List (Addr × Obj)) (s : Shared) (σ : St) (H : Hp) (x : V) (v : Value) (Q : Bool → Hp → Prop), Inv X pins σ H s → RelV x v → r x H Q →
    wpAny (model X.prog X.w) X.A (truthy v) (TP X pins σ Q) X.xe s
def tOp (r : R2) (ta tb : TE) : TE := fun σ H Q => ta σ H fun x H1 => tb σ H1 fun y H2 => r x y H2 Q
def tUn (r : V → Hp → VK → Prop) (ta : TE) : TE := fun σ H Q => ta σ H fun x H1 => r x H1 Q
def rI (C : Int → Int → Prop) (g : Int → Int → V) : R2 := fun x y H Q => ∃ i j, x = .int i ∧ y = .int j ∧ C i j ∧ Q (g i j) H
def rI0 (g : Int → Int → V) : R2 := fun x y H Q => ∃ i j, x = .int i ∧ y = .int j ∧ Q (g i j) H
def rU (g : Int → V) : V → Hp → VK → Prop := fun x H Q => ∃ i, x = .int i ∧ Q (g i) H
section
variable {X : Cx} {a b c : Expr} {ta tb tc : TE} {pos : Pos}
theorem binT (ha : PE X a ta) (hb : PE X b tb) {pins : List (Addr × Obj)} {s : Shared} {σ : St} {H : Hp} {R : V → V → Hp → Prop} (I : Inv X pins σ H s)
    (h : ta σ H fun x H1 => tb σ H1 fun y H2 => R x y H2) {Q : Value → Shared → Prop} {f : Value → Value → Sem Value}
    (hf : ∀ v u s2 x y H2, Inv X pins σ H2 s2 → RelV x v → RelV y u → R x y H2 → wpAny (model X.prog X.w) X.A (f v u) Q X.xe s2) :
    wpAny (model X.prog X.w) X.A (eval a X.env) (fun v s₁ => wpAny (model X.prog X.w) X.A (eval b X.env) (fun u s₂ => wpAny (model X.prog X.w) X.A (f v u) Q X.xe s₂) X.xe s₁) X.xe s := by
  refine thn (ha pins s σ H _ I h) fun v s1 ⟨x, H1, I1, r1, q1⟩ => ?_
  refine thn (hb pins s1 σ H1 _ I1 q1) fun u s2 ⟨y, H2, I2, r2, q2⟩ => ?_
  exact hf v u s2 x y H2 I2 r1 r2 q2
theorem pe_op {op : Operator} {r : R2} (ho : OpR X (binaryOp op) r) (ha : PE X a ta) (hb : PE X b tb) : PE X (.BinOp a op b pos) (tOp r ta tb) := by
  intro pins s σ H Q I h
  exact wpAny_BinOp (binT ha hb I h fun v u s2 x y H2 I2 rx ry q => ho pins s2 σ H2 x y v u Q I2 rx ry q)
theorem pe_un {op : UnaryOp} {r : V → Hp → VK → Prop} (ho : UnR X (unaryOp op) r) (ha : PE X a ta) : PE X (.UnaryOp op a pos) (tUn r ta) := by
  intro pins s σ H Q I h
  exact UnaryOp_ (thn (ha pins s σ H _ I h) fun v s1 ⟨x, H1, I1, r1, q1⟩ => ho pins s1 σ H1 x v Q I1 r1 q1)
theorem opI {f : Value → Value → Sem Value} {C : Int → Int → Prop} {g : Int → Int → Int}
    (rule : ∀ (i j : Int) (t u : Tok) (s : Shared) (Q : Value → Shared → Prop) (E : Value → Shared → Prop), C i j → Q (.int (g i j) s.toks) { s with toks := s.toks + 1 } → wpAny (model X.prog X.w) X.A (f (.int i t) (.int j u)) Q E s) :
    OpR X f (rI C fun i j => .int (g i j)) := by
  intro pins s σ H x y v u Q I rx ry h
  obtain ⟨i, j, rfl, rfl, hc, q⟩ := h
  obtain ⟨t, rfl⟩ := rx
  obtain ⟨t', rfl⟩ := ry
  exact rule i j t t' s _ _ hc ⟨.int (g i j), H, I.tok _, ⟨_, rfl⟩, q⟩
theorem opI0 {f : Value → Value → Sem Value} {g : Int → Int → Int}
    (rule : ∀ (i j : Int) (t u : Tok) (s : Shared) (Q : Value → Shared → Prop) (E : Value → Shared → Prop), Q (.int (g i j) s.toks) { s with toks := s.toks + 1 } → wpAny (model X.prog X.w) X.A (f (.int i t) (.int j u)) Q E s) :
    OpR X f (rI0 fun i j => .int (g i j)) := by
  intro pins s σ H x y v u Q I rx ry h
  obtain ⟨i, j, rfl, rfl, q⟩ := h
  obtain ⟨t, rfl⟩ := rx
  obtain ⟨t', rfl⟩ := ry
  exact rule i j t t' s _ _ ⟨.int (g i j), H, I.tok _, ⟨_, rfl⟩, q⟩
theorem opB0 {f : Value → Value → Sem Value} {g : Int → Int → Bool}
    (rule : ∀ (i j : Int) (t u : Tok) (s : Shared) (Q : Value → Shared → Prop) (E : Value → Shared → Prop), Q (.bool (g i j)) s → wpAny (model X.prog X.w) X.A (f (.int i t) (.int j u)) Q E s) :
    OpR X f (rI0 fun i j => .bl (g i j)) := by
  intro pins s σ H x y v u Q I rx ry h
  obtain ⟨i, j, rfl, rfl, q⟩ := h
  obtain ⟨t, rfl⟩ := rx
  obtain ⟨t', rfl⟩ := ry
  exact rule i j t t' s _ _ ⟨.bl (g i j), H, I, rfl, q⟩
def CDiv (i j : Int) : Prop := 0 < j ∧ j < 1073741824
def CDivN (i j : Int) : Prop := j ≠ 0 ∧ j.natAbs < 1073741824
def CPow (i j : Int) : Prop := 0 ≤ j ∧ j ≤ 1000000 ∧ i.natAbs < 2 ^ 64
def CMul (i j : Int) : Prop := (-(2 ^ 64) < i ∧ i < 2 ^ 64) ∨ (-(2 ^ 64) < j ∧ j < 2 ^ 64)
theorem op_add : OpR X (binaryOp .Add) (rI0 fun i j => .int (i + j)) := opI0 fun _ _ _ _ _ _ _ q => add_int q
theorem op_sub : OpR X (binaryOp .Sub) (rI0 fun i j => .int (i - j)) := opI0 fun _ _ _ _ _ _ _ q => sub_int q
theorem op_mod : OpR X (binaryOp .Mod) (rI (fun _ j => 0 < j) fun i j => .int (i % j)) := opI fun i j _ _ _ _ _ hc q => by
  have h1 : (0 : Int) < j := hc
  exact mod_int' (by omega) (by rw [Int.fmod_eq_emod_of_nonneg i (by omega)]; exact q)
theorem op_pow : OpR X (binaryOp .Pow) (rI CPow fun i j => .int (i ^ j.toNat)) := opI fun _ _ _ _ _ _ _ hc q => pow_int_small hc.1 hc.2.1 hc.2.2 q
theorem unI {f : Value → Sem Value} {g : Int → Int}
    (rule : ∀ (i : Int) (t : Tok) (s : Shared) (Q : Value → Shared → Prop) (E : Value → Shared → Prop), Q (.int (g i) s.toks) { s with toks := s.toks + 1 } → wpAny (model X.prog X.w) X.A (f (.int i t)) Q E s) :
    UnR X f (rU fun i => .int (g i)) := by
  intro pins s σ H x v Q I rx h
  obtain ⟨i, rfl, q⟩ := h
  obtain ⟨t, rfl⟩ := rx
  exact rule i t s _ _ ⟨.int (g i), H, I.tok _, ⟨_, rfl⟩, q⟩
theorem un_neg : UnR X (unaryOp .USub) (rU fun i => .int (-i)) := unI fun _ _ _ _ _ q => neg_int q
end
def scal : V → V → Bool
  | .non, .non => true | .non, .int _ => true | .int _, .non => true | .non, .bl _ => true | .bl _, .non => true | .non, .str _ => true | .str _, .non => true
  | .int _, .int _ => true | .bl _, .bl _ => true | .str _, .str _ => true | .byt _, .byt _ => true
  | .int _, .str _ => true | .str _, .int _ => true | .bl _, .str _ => true | .str _, .bl _ => true
  | _, _ => false
def rEq : R2 := fun x y H Q => scal x y = true ∧ Q (.bl (decide (x = y))) H
def rNe : R2 := fun x y H Q => scal x y = true ∧ Q (.bl (!decide (x = y))) H
theorem dec_int {i j : Int} : decide (V.int i = V.int j) = (i == j) := by
  rw [Bool.eq_iff_iff]
  simp
theorem dec_bl {i j : Bool} : decide (V.bl i = V.bl j) = (i == j) := by
  rw [Bool.eq_iff_iff]
  simp
theorem dec_str {i j : Str} : decide (V.str i = V.str j) = (i == j) := by
  rw [Bool.eq_iff_iff]
  simp
theorem dec_byt {i j : Array UInt8} : decide (V.byt i = V.byt j) = (i.toList == j.toList) := by
  rw [Bool.eq_iff_iff]
  cases i
  cases j
  simp
section
variable {X : Cx} {a b c : Expr} {ta tb tc : TE} {pos : Pos}
theorem fin_bl {pins : List (Addr × Obj)} {σ : St} {H : Hp} {s : Shared} {Q : VK} {k k' : Bool} (I : Inv X pins σ H s) (q : Q (.bl k) H) (e : k = k') : EP X pins σ Q (.bool k') s := by
  subst e
  exact ⟨.bl k, H, I, rfl, q⟩
theorem op_eq : OpR X (compareOp .Eq) rEq := by
  intro pins s σ H x y v u Q I rx ry h
  obtain ⟨hs, q⟩ := h
  cases x with
  | non =>
    cases rx
    cases y with
    | non => cases ry; exact PySem.EqNone.eq_none_none (fin_bl I q (by simp))
    | bl j => cases ry; exact PySem.EqNone.eq_none_bool (fin_bl I q (by simp))
    | int j => obtain ⟨t', rfl⟩ := ry; exact PySem.EqNone.eq_none_int (fin_bl I q (by simp))
    | str j => obtain ⟨t', rfl⟩ := ry; exact PySem.EqNone.eq_none_str (fin_bl I q (by simp))
    | _ => exact absurd (show false = true from hs) Bool.false_ne_true
  | bl i =>
    cases rx
    cases y with
    | non => cases ry; exact PySem.EqNone.eq_bool_none (fin_bl I q (by simp))
    | bl j => cases ry; exact eq_bool (fin_bl I q dec_bl)
    | str j => obtain ⟨t', rfl⟩ := ry; exact PySem.EqMixed.eq_bool_str (fin_bl I q (by simp))
    | _ => exact absurd (show false = true from hs) Bool.false_ne_true
  | int i =>
    obtain ⟨t, rfl⟩ := rx
    cases y with
    | non => cases ry; exact PySem.EqNone.eq_int_none (fin_bl I q (by simp))
    | int j => obtain ⟨t', rfl⟩ := ry; exact eq_int (fin_bl I q dec_int)
    | str j => obtain ⟨t', rfl⟩ := ry; exact PySem.EqMixed.eq_int_str (fin_bl I q (by simp))
    | _ => exact absurd (show false = true from hs) Bool.false_ne_true
  | str i =>
    obtain ⟨t, rfl⟩ := rx
    cases y with
    | non => cases ry; exact PySem.EqNone.eq_str_none (fin_bl I q (by simp))
    | bl j => cases ry; exact PySem.EqMixed.eq_str_bool (fin_bl I q (by simp))
    | int j => obtain ⟨t', rfl⟩ := ry; exact PySem.EqMixed.eq_str_int (fin_bl I q (by simp))
    | str j => obtain ⟨t', rfl⟩ := ry; exact eq_str (fin_bl I q dec_str)
    | _ => exact absurd (show false = true from hs) Bool.false_ne_true
  | byt i =>
    obtain ⟨t, rfl⟩ := rx
    cases y with
    | byt j => obtain ⟨t', rfl⟩ := ry; exact PySem.W.eq_bytes (fin_bl I q dec_byt)
    | _ => exact absurd (show false = true from hs) Bool.false_ne_true
  | _ => cases y <;> exact absurd (show false = true from hs) Bool.false_ne_true
theorem op_ne : OpR X (compareOp .NotEq) rNe := by
  intro pins s σ H x y v u Q I rx ry h
  obtain ⟨hs, q⟩ := h
  cases x with
  | non =>
    cases rx
    cases y with
    | non => cases ry; exact PySem.EqNone.ne_none_none (fin_bl I q (by simp))
    | bl j => cases ry; exact PySem.EqNone.ne_none_bool (fin_bl I q (by simp))
    | int j => obtain ⟨t', rfl⟩ := ry; exact PySem.EqNone.ne_none_int (fin_bl I q (by simp))
    | str j => obtain ⟨t', rfl⟩ := ry; exact PySem.EqNone.ne_none_str (fin_bl I q (by simp))
    | _ => exact absurd (show false = true from hs) Bool.false_ne_true
  | bl i =>
    cases rx
    cases y with
    | non => cases ry; exact PySem.EqNone.ne_bool_none (fin_bl I q (by simp))
    | bl j => cases ry; exact ne_bool (fin_bl I q (congrArg not dec_bl))
    | str j => obtain ⟨t', rfl⟩ := ry; exact PySem.EqMixed.ne_bool_str (fin_bl I q (by simp))
    | _ => exact absurd (show false = true from hs) Bool.false_ne_true
  | int i =>
    obtain ⟨t, rfl⟩ := rx
    cases y with
    | non => cases ry; exact PySem.EqNone.ne_int_none (fin_bl I q (by simp))
    | int j => obtain ⟨t', rfl⟩ := ry; exact ne_int (fin_bl I q (congrArg not dec_int))
    | str j => obtain ⟨t', rfl⟩ := ry; exact PySem.EqMixed.ne_int_str (fin_bl I q (by simp))
    | _ => exact absurd (show false = true from hs) Bool.false_ne_true
  | str i =>
    obtain ⟨t, rfl⟩ := rx
    cases y with
    | non => cases ry; exact PySem.EqNone.ne_str_none (fin_bl I q (by simp))
    | bl j => cases ry; exact PySem.EqMixed.ne_str_bool (fin_bl I q (by simp))
    | int j => obtain ⟨t', rfl⟩ := ry; exact PySem.EqMixed.ne_str_int (fin_bl I q (by simp))
    | str j => obtain ⟨t', rfl⟩ := ry; exact ne_str (fin_bl I q (congrArg not dec_str))
    | _ => exact absurd (show false = true from hs) Bool.false_ne_true
  | byt i =>
    obtain ⟨t, rfl⟩ := rx
    cases y with
    | byt j => obtain ⟨t', rfl⟩ := ry; exact PySem.W.ne_bytes (fin_bl I q (congrArg not dec_byt))
    | _ => exact absurd (show false = true from hs) Bool.false_ne_true
  | _ => cases y <;> exact absurd (show false = true from hs) Bool.false_ne_true
theorem op_lt : OpR X (compareOp .Lt) (rI0 fun i j => .bl (decide (i < j))) := opB0 fun _ _ _ _ _ _ _ q => lt_int q
theorem op_gt : OpR X (compareOp .Gt) (rI0 fun i j => .bl (decide (j < i))) := opB0 fun _ _ _ _ _ _ _ q => gt_int q
theorem op_in_str : OpR X (compareOp .In) (fun x y H Q => ∃ i j, x = .str i ∧ y = .str j ∧ Q (.bl (!(Builtin.Str.occurrences j i 0 j.length 1).isEmpty)) H) := by
  intro pins s σ H x y v u Q I rx ry h
  obtain ⟨i, j, rfl, rfl, q⟩ := h
  obtain ⟨t, rfl⟩ := rx
  obtain ⟨t', rfl⟩ := ry
  exact in_str (fin_bl I q rfl)
theorem op_isN : OpR X (compareOp .Is) (fun x y H Q => y = .non ∧ Q (.bl (decide (x = .non))) H) := by
  intro pins s σ H x y v u Q I rx ry h
  obtain ⟨rfl, q⟩ := h
  cases ry
  refine is_none_gen (fin_bl I q ?_)
  cases x <;> first
    | (cases rx; rfl)
    | (obtain ⟨t, rfl⟩ := rx; rfl)
def isObj : HO → Bool
  | .lst _ => true
  | .ins _ _ _ => true
  | _ => false
theorem nomark (b : Expr) {op : CmpOp} (h : op ≠ .In := by decide) (h2 : op ≠ .NotIn := by decide) : behindInMarks op b = false := by
  have e1 : (op == CmpOp.In) = false := by cases op <;> first | rfl | exact absurd rfl h
  have e2 : (op == CmpOp.NotIn) = false := by cases op <;> first | rfl | exact absurd rfl h2
  cases b <;> simp [behindInMarks, e1, e2]
theorem pe_cmpR {op : CmpOp} {r : R2} (ho : OpR X (compareOp op) r) (ha : PE X a ta) (hb : PE X b tb) (hm : behindInMarks op b = false) : PE X (.Compare a [op] [b] pos) (tOp r ta tb) := by
  intro pins s σ H Q I h
  exact wpAny_Compare1 (binT ha hb I h fun v u s2 x y H2 I2 rx ry q => ho pins s2 σ H2 x y v u Q I2 rx ry q) hm
def tTest (t : TE) : TT := fun σ H Q => t σ H fun x H' => ∃ k, x = .bl k ∧ Q k H'
theorem pt_cmpR {op : CmpOp} {r : R2} (ho : OpR X (compareOp op) r) (ha : PE X a ta) (hb : PE X b tb) (hm : behindInMarks op b = false) : PT X (.Compare a [op] [b] pos) (tTest (tOp r ta tb)) := by
  intro pins s σ H Q I h
  refine wpAny_isTrue_Compare1 (thn (ha pins s σ H _ I h) fun v s1 ⟨x, H1, I1, r1, q1⟩ => thn (hb pins s1 σ H1 _ I1 q1) fun u s2 ⟨y, H2, I2, r2, q2⟩ =>
    thn (ho pins s2 σ H2 x y v u _ I2 r1 r2 q2) fun c s3 ⟨z, H3, I3, r3, k, e, q3⟩ => ?_) hm
  subst e
  cases r3
  exact wpAny_truthy_bool ⟨H3, I3, q3⟩
def tChain (r r' : R2) (ta tb tc : TE) : TE := fun σ H Q => ta σ H fun x H1 => tb σ H1 fun y H2 => r x y H2 fun z H3 => ∃ k, z = .bl k ∧
  (if k = true then tc σ H3 fun w' H4 => r' y w' H4 Q else Q (.bl false) H3)
def TruV (K : PySem.W.Frag) (x : V) (H : Hp) (k : Bool) : Prop :=
  match x with
  | .non => k = false
  | .bl b => k = b
  | .int i => k = (i != 0)
  | .str y => y.length ≤ sizeLine ∧ k = ((y.length : Int) != 0)
  | .byt y => y.size ≤ sizeLine ∧ k = ((y.size : Int) != 0)
  | .ref p => (∃ xs, SqL K H p xs ∧ k = !xs.isEmpty) ∨ (∃ xs, SqT K H p xs ∧ k = !xs.isEmpty) ∨ ∃ kvs, H p = some (.dK kvs) ∧ k = !kvs.isEmpty
  | _ => False
theorem line63 : (sizeLine : Nat) < 2 ^ 63 := by rw [sizeLine_eq]; decide
theorem op_add_str : OpR X (binaryOp .Add) (fun x y H Q => ∃ i j, x = .str i ∧ y = .str j ∧ i.length + j.length ≤ sizeLine ∧ Q (.str (i ++ j)) H) := by
  intro pins s σ H x y v u Q I rx ry h
  obtain ⟨i, j, rfl, rfl, hz, q⟩ := h
  obtain ⟨t, rfl⟩ := rx
  obtain ⟨t', rfl⟩ := ry
  exact add_str (fun t' tk => ⟨.str (i ++ j), H, I.tok _, ⟨_, rfl⟩, q⟩) hz
def PlainIxT (b : Expr) : Prop := ∀ o i, subscripted b false o i = operate [o, i] (getItem o i)
theorem vals1 {x : V} {us : List Value} (r : Vals [x] us) : ∃ u, us = [u] ∧ RelV x u := by
  cases r with
  | cons r1 r2 => cases r2; exact ⟨_, rfl, r1⟩
theorem vals2 {x y : V} {us : List Value} (r : Vals [x, y] us) : ∃ u w', us = [u, w'] ∧ RelV x u ∧ RelV y w' := by
  cases r with
  | cons r1 r2 =>
    cases r2 with
    | cons r3 r4 => cases r4; exact ⟨_, _, rfl, r1, r3⟩
theorem call_str_int : CallR X (.type "str") (fun xs H Q => ∃ i, xs = [.int i] ∧ i.natAbs.log2 < 1920 ∧ Q (.str (toString i)) H) := by
  intro pins s σ H xs us Q I r h
  obtain ⟨i, rfl, hz, q⟩ := h
  obtain ⟨u, rfl, t, rfl⟩ := vals1 r
  exact PySem.P.str_of_int hz ⟨.str _, H, I.tok _, ⟨_, rfl⟩, q⟩
def LenV (K : PySem.W.Frag) (x : V) (H : Hp) (n : Nat) : Prop :=
  match x with
  | .str y => y.length ≤ sizeLine ∧ n = y.length
  | .byt y => y.size ≤ sizeLine ∧ n = y.size
  | .ref p => (∃ xs, SqL K H p xs ∧ n = xs.length) ∨ ∃ xs, SqT K H p xs ∧ n = xs.length
  | _ => False
end
end L2
namespace L2
open PySem PySem.Spec PyProof.Rows
structure ObjM (h : Heap) (x dx C : Addr) (mA : Str → Option Value) : Prop where
  obj : h.get? x = some (PySem.W.instObj C dx)
  ns : h.Ns1 dx mA
  ne : dx ≠ x
theorem lookIn_ns {h : Heap} {dx : Addr} {mA : Str → Option Value} (n : h.Ns1 dx mA) : ∃ od, h.get? dx = some od ∧ ∀ name, PySem.W.lookIn name od = some (mA name) := by
  obtain ⟨o, es, ep, ho, hd, hk, _, hm⟩ := n
  refine ⟨o, ho, fun name => ?_⟩
  have e := hm name
  unfold nsFind findBy at e
  rw [← Array.find?_toList] at e
  unfold PySem.W.lookIn
  rw [hd]
  dsimp only
  split
  · rename_i y q
    rw [q] at e
    exact congrArg some e
  · rename_i q
    rw [q] at e
    have a : es.toList.any (·.refKey) = false := by
      rw [List.any_eq_false]
      intro y hy
      obtain ⟨z, t, hkey⟩ := hk y (Array.mem_toList_iff.mp hy)
      simp [DictEntry.refKey, hkey]
    have a' : ¬ es.toList.any (·.refKey) = true := by rw [a]; exact Bool.false_ne_true
    rw [if_neg a']
    exact congrArg some e
theorem ObjM.look {h : Heap} {x dx C : Addr} {mA : Str → Option Value} (I : ObjM h x dx C mA) : ∃ od, PySem.W.InstAt h x (PySem.W.instObj C dx) C (some od) ∧ ∀ name, PySem.W.lookIn name od = some (mA name) :=
  let ⟨od, ho, hl⟩ := lookIn_ns I.ns
  ⟨od, ⟨I.obj, rfl, rfl, ho⟩, hl⟩
section
variable {prog : Program} {w : World} {A : Around} {E : Value → Shared → Prop} {s : Shared} {K : PySem.W.Frag} {x dx C f : Addr} {mA : Str → Option Value} {name : Str} {v : Value}
end
def putF (f : Str) (v : V) : List (Str × V) → List (Str × V)
  | [] => [(f, v)]
  | (g, x) :: r => if g = f then (g, v) :: r else (g, x) :: putF f v r
section
variable {P : Program} {w : World} {H H' : Hp} {h h' : Heap} {a C dx : Addr} {fs fs' : List (Str × V)}
theorem ins_get (hok : HOk P w H h) (e : H a = some (.ins C dx fs)) : ∃ mA, ObjM h a dx C mA ∧ (∀ f, RelO (fs.lookup f) (mA f)) ∧ PySem.Within mA (fs.map (·.1)) ∧ fs.length ≤ 1000 ∧ H dx = some (.own a) := by
  obtain ⟨d, z, ne, ob, mA, n, r, q⟩ := (show ObjOk P w H h a (.ins C dx fs) from hok a _ e)
  exact ⟨mA, ⟨ob, n, ne⟩, r, q, z, d⟩
end
structure Cls (K : PySem.W.Frag) (C : Addr) : Prop where
  pg : PySem.W.plainGet K C Str.empty = true
  hd : PySem.W.hasDictIn K C = true
  po : PySem.W.plainOver K C = true
  sa : PySem.W.findIn K (.ref C) "__setattr__" = some (some (.builtin "object.__setattr__"))
theorem Cls.get {K : PySem.W.Frag} {C : Addr} (c : Cls K C) (f : Str) : PySem.W.plainGet K C f = true := c.pg
def NoAttr (K : PySem.W.Frag) (C : Addr) (f : Str) : Prop := PySem.W.findIn K (.ref C) f = some none
structure Con (K : PySem.W.Frag) (C : Addr) (f : Str) (v : V) (u : Value) : Prop where
  at_ : PySem.W.findIn K (.ref C) f = some (some u)
  rel : RelV v u
  get : PySem.W.specialIn K u "__get__" = some none
  cp : PySem.W.copiedNames.contains f = false
structure Meth (K : PySem.W.Frag) (C : Addr) (m : Str) (f : Addr) : Prop where
  at_ : PySem.W.findIn K (.ref C) m = some (some (.ref f))
  fn : PySem.W.isFn K (.ref f) = true
  kp : PySem.W.keepIn K (.ref f) = true
section
variable {X : Cx} {pins : List (Addr × Obj)} {σ : St} {H : Hp} {s : Shared} {a C dx : Addr} {fs : List (Str × V)} {f : Str} {v : V} {A : Around} {E : Value → Shared → Prop}
end
def tFld (K : PySem.W.Frag) (ta : TE) (f : Str) : TE := fun σ H Q => ta σ H fun x H1 => ∃ a C dx fs v, x = .ref a ∧ H1 a = some (.ins C dx fs) ∧ Cls K C ∧ NoAttr K C f ∧ fs.lookup f = some v ∧ Q v H1
def tCon (K : PySem.W.Frag) (ta : TE) (f : Str) : TE := fun σ H Q => ta σ H fun x H1 => ∃ a C dx fs v u, x = .ref a ∧ H1 a = some (.ins C dx fs) ∧ Cls K C ∧ Con K C f v u ∧ fs.lookup f = none ∧ Q v H1
def sFld (K : PySem.W.Frag) (ta tv : TE) (f : Str) : TS := fun D σ H => tv σ H fun y H1 => ta σ H1 fun x H2 => ∃ a C dx fs, x = .ref a ∧ H2 a = some (.ins C dx fs) ∧ Cls K C ∧ NoAttr K C f ∧ fs.length < 1000 ∧
  D.nx σ (upd H2 a (.ins C dx (putF f y fs)))
def InOp (X : Cx) (op : Operator) (rd : V → V → Hp → VK → Prop) : Prop :=
  ∀ (pins : List (Addr × Obj)) (s : Shared) (σ : St) (H : Hp) (x y : V) (u v : Value) (Q : VK), Inv X pins σ H s → RelV x u → RelV y v → rd x y H Q → wpAny (model X.prog X.w) X.A (inplaceOp op u v) (EP X pins σ Q) X.xe s
def sFldAug (K : PySem.W.Frag) (ta tv : TE) (rd : V → V → Hp → VK → Prop) (f : Str) : TS := fun D σ H => ta σ H fun x H1 => ∃ a C dx fs v, x = .ref a ∧ H1 a = some (.ins C dx fs) ∧ Cls K C ∧ NoAttr K C f ∧ fs.lookup f = some v ∧
  tv σ H1 fun y H2 => rd v y H2 fun z H3 => ∃ dx' fs', H3 a = some (.ins C dx' fs') ∧ fs'.length < 1000 ∧ D.nx σ (upd H3 a (.ins C dx' (putF f z fs')))
section
variable {X : Cx} {o e value : Expr} {f : Str} {pos pos' tpos : Pos} {ta tv : TE}
def rAdd : V → V → Hp → VK → Prop := fun x y H Q => ∃ i j, x = .int i ∧ y = .int j ∧ Q (.int (i + j)) H
def rSub : V → V → Hp → VK → Prop := fun x y H Q => ∃ i j, x = .int i ∧ y = .int j ∧ Q (.int (i - j)) H
end
section
variable {X : Cx} {pins : List (Addr × Obj)} {σ : St} {H : Hp} {s : Shared} {A : Around} {E : Value → Shared → Prop} {Q : Value → Shared → Prop} {c : Value} {b : Bool}
inductive TyOf (K : PySem.W.Frag) (H : Hp) : V → Value → Prop where
  | non : TyOf K H .non (.type "NoneType")
  | bl (x : Bool) : TyOf K H (.bl x) (.type "bool")
  | int (i : Int) : TyOf K H (.int i) (.type "int")
  | str (x : Str) : TyOf K H (.str x) (.type "str")
  | flt (x : UInt64) : TyOf K H (.flt x) (.type "float")
  | lst {a : Addr} {xs : List V} (e : H a = some (.lst xs)) : TyOf K H (.ref a) (.type "list")
  | frz {a : Addr} {o : Obj} {xs : List V} (e : H a = some (.frz o (.lst xs))) : TyOf K H (.ref a) (.type "list")
  | tup {a : Addr} {xs : List V} (e : H a = some (.tup xs)) : TyOf K H (.ref a) (.type "tuple")
  | dK {a : Addr} {kvs : List (Key × V)} (e : H a = some (.dK kvs)) : TyOf K H (.ref a) (.type "dict")
  | dT {a : Addr} {kvs : List (List Key × V)} (e : H a = some (.dT kvs)) : TyOf K H (.ref a) (.type "dict")
  | ins {a C dx : Addr} {fs : List (Str × V)} (e : H a = some (.ins C dx fs)) (cl : Cls K C) (ha : PySem.W.findIn K (.ref C) "__class__" = some (some (.builtin "object.__class__")))
      (hn : PySem.W.specialIn K (.builtin "object.__class__") "__get__" = some (some (.builtin "getset_descriptor.__get__"))) (htk : PySem.W.takesIn K (.builtin "object.__class__") = some true)
      (hm : PySem.W.mroIn K C (.type "object") = some true) : TyOf K H (.ref a) (.ref C)
theorem isinst_ok {x : V} {u t : Value} (I : Inv X pins σ H s) (rx : RelV x u) (ty : TyOf X.K H x t) (e : PySem.W.kitOne X.K t c = some b) (h : ∀ tk, Q (.bool b) { s with toks := tk }) :
    wpAny (model X.prog X.w) A (call (.builtin "isinstance") [u, c]) Q E s := by
  cases ty with
  | non => cases (show u = Value.none from rx); exact PySem.W.kia_one PySem.W.kitx_none I.kIn True.intro e (fun z => nomatch z) h
  | bl y => cases (show u = Value.bool y from rx); exact PySem.W.kia_one PySem.W.kitx_bool I.kIn True.intro e (fun z => nomatch z) h
  | int i => obtain ⟨t, q⟩ := (show ∃ t, u = Value.int i t from rx); cases q; exact PySem.W.kia_one PySem.W.kitx_int I.kIn True.intro e (fun z => nomatch z) h
  | str y => obtain ⟨t, q⟩ := (show ∃ t, u = Value.str y t from rx); cases q; exact PySem.W.kia_one PySem.W.kitx_str I.kIn True.intro e (fun z => nomatch z) h
  | flt y => obtain ⟨t, q⟩ := (show ∃ t, u = Value.float y t from rx); cases q; exact PySem.W.kia_one PySem.W.kitx_float I.kIn True.intro e (fun z => nomatch z) h
  | @lst a xs ea =>
    cases (show u = Value.ref a from rx)
    obtain ⟨_, _, n, _, h1⟩ := (show ObjOk X.prog X.w H s.heap a (.lst xs) from I.hok a _ ea)
    exact PySem.W.kia_one PySem.W.kitx_list I.kIn ⟨_, h1, rfl⟩ e (fun z => nomatch z) h
  | @frz a ob xs ea =>
    cases (show u = Value.ref a from rx)
    obtain ⟨_, _, _, n, _, h1⟩ := (show ObjOk X.prog X.w H s.heap a (.frz ob (.lst xs)) from I.hok a _ ea)
    exact PySem.W.kia_one PySem.W.kitx_list I.kIn ⟨_, h1, rfl⟩ e (fun z => nomatch z) h
  | @tup a xs ea =>
    cases (show u = Value.ref a from rx)
    obtain ⟨_, _, _, p⟩ := (show ObjOk X.prog X.w H s.heap a (.tup xs) from I.hok a _ ea)
    obtain ⟨o, h1, h2, _⟩ := p
    exact PySem.W.kia_one PySem.W.kitx_tuple I.kIn ⟨o, h1, h2⟩ e (fun z => nomatch z) h
  | @dK a kvs ea =>
    cases (show u = Value.ref a from rx)
    obtain ⟨_, _, vs, _, p⟩ := (show ObjOk X.prog X.w H s.heap a (.dK kvs) from I.hok a _ ea)
    obtain ⟨o, es, ep, h1, h2, _⟩ := p
    exact PySem.W.kia_one PySem.W.kitx_dict I.kIn ⟨o, h1, h2.1⟩ e (fun z => nomatch z) h
  | @dT a kvs ea =>
    cases (show u = Value.ref a from rx)
    obtain ⟨_, _, xs, _, o, es, ep, h1, h2, _⟩ := (show ObjOk X.prog X.w H s.heap a (.dT kvs) from I.hok a _ ea)
    exact PySem.W.kia_one PySem.W.kitx_dict I.kIn ⟨o, h1, h2.1⟩ e (fun z => nomatch z) h
  | @ins a C dx fs ea cl ha hn htk hm =>
    cases (show u = Value.ref a from rx)
    obtain ⟨mA, O, _⟩ := ins_get I.hok ea
    obtain ⟨od, J, _⟩ := O.look
    exact PySem.W.kia_one (PySem.W.kitx_own (cl.get _) cl.hd ha hn htk hm) I.kIn J e (fun z => nomatch z) h
end
end L2
namespace L2
open PySem PySem.Spec PyProof.Rows
structure Room (k : Nat) (A : Around) : Prop where
  hd : A.handled = none
  dp : A.depth + 3 * k + 5 < recursionLimit
  un : A.units + 16 * k + 200 < cLine
theorem Room.mono {j k : Nat} {A : Around} (r : Room k A) (h : j ≤ k) : Room j A := ⟨r.hd, by have := r.dp; omega, by have := r.un; omega⟩
theorem Room.deeper {k : Nat} {A : Around} (r : Room (k + 1) A) (env : Env) : Room k (A.deeper env) :=
  ⟨r.hd, by have := r.dp; show A.depth + 1 + 3 * k + 5 < _; omega, by have := r.un; show A.units + 3 + 16 * k + 200 < _; omega⟩
theorem Room.depth {k : Nat} {A : Around} (r : Room k A) : A.depth < recursionLimit := by have := r.dp; omega
theorem Room.units {k : Nat} {A : Around} (r : Room k A) : A.units + 64 < cLine := by have := r.un; omega
def tNil : TA := fun _ H Q => Q [] H
def tCons (ta : TE) (tr : TA) : TA := fun σ H Q => ta σ H fun x H1 => tr σ H1 fun xs H2 => Q (x :: xs) H2
section
variable {X : Cx} {e : Expr} {es : List Expr} {te : TE} {t : TA} {pos : Pos}
theorem pa_nil : PA X [] tNil := fun _ _ _ _ H Q I h => Calls.spliced_nil ⟨[], H, I, .nil, h⟩
theorem pa_cons (ha : PE X e te) (hr : PA X es t) (hs : starEach (e :: es) X.env = (false, eval e X.env) :: starEach es X.env := by rfl) : PA X (e :: es) (tCons te t) := by
  intro pos pins s σ H Q I h
  rw [hs]
  show wpAny _ _ (spliced ((false, eval e X.env) :: backTo pos (starEach es X.env))) _ _ s
  refine Calls.spliced_cons (thn (ha pins s σ H _ I h) fun u s1 ⟨x, H1, I1, r1, q1⟩ => ?_)
  exact thn (hr pos pins s1 σ H1 _ I1 q1) fun us s2 ⟨xs, H2, I2, r2, q2⟩ => ⟨x :: xs, H2, I2, .cons r1 r2, q2⟩
def tTup (t : TA) : TE := fun σ H Q => t σ H fun xs H1 => xs.length ≤ sizeLine ∧ ∀ p, H1 p = none → Q (.ref p) (upd H1 p (.tup xs))
def tLst (t : TA) : TE := fun σ H Q => t σ H fun xs H1 => xs.length ≤ sizeLine ∧ ∀ p, H1 p = none → Q (.ref p) (upd H1 p (.lst xs))
theorem pe_tup {x1} (h : PA X es t) : PE X (.Tuple es x1 pos) (tTup t) := by
  intro pins s σ H Q I hq
  refine wpAny_Tuple_spliced (thn (h pos pins s σ H _ I hq) fun us s1 ⟨xs, H1, I1, r, z, q⟩ => ⟨by rw [← r.length]; exact z, ?_⟩)
  have hf : H1 s1.heap.objs.size = none := I1.hok.fresh (Nat.le_refl _)
  refine ⟨.ref s1.heap.objs.size, upd H1 s1.heap.objs.size (.tup xs), I1.laid (t' := s1.toks) (fun b u e => Heap.get?_push_of_some _ e) (Nat.le_refl _) ?_, rfl, q _ hf⟩
  exact ⟨z, us, r, ⟨_, Heap.get?_push_size _ rfl, rfl, _, rfl⟩⟩
theorem pe_lst (h : PA X es t) : PE X (.List es pos) (tLst t) := by
  intro pins s σ H Q I hq
  refine wpAny_List_spliced (thn (h pos pins s σ H _ I hq) fun us s1 ⟨xs, H1, I1, r, z, q⟩ => ⟨by rw [← r.length]; exact z, ?_⟩)
  have hf : H1 s1.heap.objs.size = none := I1.hok.fresh (Nat.le_refl _)
  refine ⟨.ref s1.heap.objs.size, upd H1 s1.heap.objs.size (.lst xs), I1.laid (t' := s1.toks) (fun b u e => Heap.get?_push_of_some _ e) (Nat.le_refl _) ?_, rfl, q _ hf⟩
  exact ⟨z, us, 0, r, Heap.get?_push_size _ rfl⟩
end
abbrev Sp := List V → Hp → VK → XK → Prop
abbrev CXT := List Env → Hp → Shared → XK → Value → Shared → Prop
structure Env0 (P : Program) (w : World) (K : PySem.W.Frag) (mg : Str → Option Value) (base : Heap) (A : Around) (outer : List Env) (s : Shared) (H : Hp) : Prop where
  frames : A.frames = some outer
  mod : Mod K mg base
  bs : ∀ b o, base.get? b = some o → s.heap.get? b = some o ∧ H b = none
  bsz : base.objs.size ≤ s.heap.objs.size
  funs : s.heap.FunFrames base outer
  frf : ∀ b ∈ frs outer, H b = none
  hok : HOk P w H s.heap
  bare : AllBare s.gens
def CE (outer : List Env) (P : Program) (w : World) (H : Hp) (s : Shared) (Q : VK) (u : Value) (s' : Shared) : Prop :=
  ∃ v H', s'.os = s.os ∧ AllBare s'.gens ∧ Un (frs outer) [] H H' s.heap s'.heap ∧ HOk P w H' s'.heap ∧ RelV v u ∧ Q v H'
def CR (CX : CXT) (outer : List Env) (P : Program) (w : World) (H : Hp) (s : Shared) (Q : VK) (E : XK) (r : Result) (s' : Shared) : Prop :=
  match r with
  | .ok (.ret u) => CE outer P w H s Q u s'
  | .ok _ => False
  | .error e => CX outer H s E e s'
structure FnOk (P : Program) (w : World) (K : PySem.W.Frag) (mg : Str → Option Value) (base : Heap) (CX : CXT) (k : Nat) (f : Addr) (fd : FuncData) (ps : List Str) (sp : Sp) : Prop where
  len : ∀ vs H Q E, sp vs H Q E → vs.length = ps.length
  run : ∀ (A : Around) (outer : List Env) (s : Shared) (H : Hp) (args : Args) (us : List Value) (vs : List V) (Q : VK) (E : XK), Room k A → Env0 P w K mg base A outer s H → BindsTo s fd args (ps.zip us) → Vals vs us → sp vs H Q E →
    codeAny (model P w) A (.call (.ref f) args) (CR CX outer P w H s Q E) s
section
variable {X : Cx} {pins : List (Addr × Obj)} {σ : St} {H : Hp} {s s' : Shared}
theorem Inv.env0 (I : Inv X pins σ H s) : Env0 X.prog X.w X.K X.mg X.base X.A X.stack s H :=
  ⟨I.ok.frames, I.ok.mod, I.bs, Nat.le_trans I.ok.bsz I.sz, I.stack, I.stkFree, I.hok, I.bare⟩
theorem Inv.after {Q : VK} {u : Value} (I : Inv X pins σ H s) (h : CE X.stack X.prog X.w H s Q u s') : EP X pins σ Q u s' := by
  obtain ⟨v, H', os, bare, un, hok, r, q⟩ := h
  obtain ⟨hh, g, d, t, os'⟩ := s'
  obtain rfl : os' = s.os := os
  exact ⟨v, H', I.call (h' := hh) (g' := g) (d' := d) (t' := t) (ch := []) un hok bare (fun b z => absurd z (by simp)), r, q⟩
end
def tCall (sp : Sp) (dvs : List V) (E : XK) (t : TA) : TE := fun σ H Q => t σ H fun vs H1 => sp (vs ++ dvs) H1 Q E
def tMeth (C : Addr) (m : Str) (sp : Sp) (dvs : List V) (E : XK) (ta : TE) (t : TA) : TE := fun σ H Q => ta σ H fun x H1 => ∃ a dx fs, x = .ref a ∧ H1 a = some (.ins C dx fs) ∧ fs.lookup m = none ∧
  t σ H1 fun vs H2 => sp (x :: (vs ++ dvs)) H2 Q E
def tMake (C : Addr) (sp : Sp) (dvs : List V) (E : XK) (t : TA) : TE := fun σ H Q => t σ H fun vs H1 => ∀ x dx, H1 x = none → H1 dx = none → dx ≠ x →
  sp (.ref x :: (vs ++ dvs)) (upd (upd H1 dx (.own x)) x (.ins C dx [])) (fun v H2 => v = .non ∧ Q (.ref x) H2) E
def Binds (K : PySem.W.Frag) (fd : FuncData) (ps : List Str) (ds : List Value) : Prop :=
  ∀ (s : Shared) (us : List Value), K.In s.heap → (us ++ ds).length = ps.length → BindsTo s fd ⟨us, []⟩ (ps.zip (us ++ ds))
theorem Binds.all {K : PySem.W.Frag} {fd : FuncData} {ps : List Str} (h : ∀ us : List Value, us.length = ps.length → bindArgs fd ⟨us, []⟩ = pure (ps.zip us)) : Binds K fd ps [] := fun s us _ hl => by
  rw [List.append_nil] at hl ⊢
  exact .of_eq (h us hl)
def Passes (CX : CXT) (X : Cx) (E : XK) : Prop := ∀ (pins : List (Addr × Obj)) (σ : St) (H : Hp) (s : Shared) (e : Value) (s' : Shared), Inv X pins σ H s → CX X.stack H s E e s' → X.xe e s'
section
variable {X : Cx} {CX : CXT} {k : Nat} {f C : Addr} {fd : FuncData} {ps : List Str} {sp : Sp} {dvs : List V} {ds : List Value} {E : XK} {x m : Str} {p pos apos : Pos} {e o : Expr} {es : List Expr} {ta : TE} {t : TA}
theorem run_fn {pins : List (Addr × Obj)} {σ : St} {H : Hp} {s : Shared} {Q : VK} {us : List Value} {vs : List V} (F : FnOk X.prog X.w X.K X.mg X.base CX k f fd ps sp) (hr : Room k X.A) (hb : Binds X.K fd ps ds) (hd : Vals dvs ds) (hx : Passes CX X E)
    (I : Inv X pins σ H s) (r : Vals vs us) (h : sp (vs ++ dvs) H Q E) : wpAny (model X.prog X.w) X.A (call (.ref f) us) (EP X pins σ Q) X.xe s := by
  have r2 : Vals (vs ++ dvs) (us ++ ds) := r.append hd
  have hl : (us ++ ds).length = ps.length := by rw [← r2.length]; exact F.len _ _ _ _ h
  refine wpAny_call (codeAny_mono (F.run X.A X.stack s H ⟨us, []⟩ (us ++ ds) (vs ++ dvs) Q E hr I.env0 (hb s us I.kIn hl) r2 h) fun r s' hq => ?_)
  cases r with
  | error e => exact hx pins σ H s e s' I hq
  | ok fl =>
    cases fl with
    | ret u => exact I.after hq
    | next => exact False.elim hq
    | brk => exact False.elim hq
    | cont => exact False.elim hq
theorem pe_call (F : FnOk X.prog X.w X.K X.mg X.base CX k f fd ps sp) (hr : Room k X.A) (hg : Gl X x) (hm : X.mg x = some (.ref f)) (hk : PySem.W.keepIn X.K (.ref f) = true) (hb : Binds X.K fd ps ds) (hd : Vals dvs ds) (hx : Passes CX X E)
    (ha : PA X (e :: es) t) (hdb : (x == ("__debug__" : Str)) = false := by decide) (he : starEach (e :: es) X.env = (false, eval e X.env) :: starEach es X.env := by rfl) (hpl : (backTo pos (starEach es X.env)).any (·.1) = false := by rfl) :
    PE X (.Call (.Name x p) (e :: es) [] pos) (tCall sp dvs E t) := by
  intro pins s σ H Q I h
  refine wpAny_Call_Name_kw (ld_glob I hg hm ?_ hdb)
  refine PySem.W.callWith_K (h₀ := X.base) I.ok.mod.kin hk (thn (ha pos pins s σ H _ I h) fun us s1 ⟨vs, H1, I1, r, q⟩ => ⟨I1.kIn, ?_⟩) he hpl
  exact run_fn F hr hb hd hx I1 r q
structure Mk (K : PySem.W.Frag) (C f : Addr) : Prop where
  makes : PySem.W.makesIn K C = true
  init : PySem.W.findIn K (.ref C) "__init__" = some (some (.ref f))
  fn : PySem.W.isFn K (.ref f) = true
  kp : PySem.W.keepIn K (.ref C) = true
end
def PK (X : Cx) (kws : List Keyword) (t : TA) : Prop :=
  ∀ (pos : Pos) (pins : List (Addr × Obj)) (s : Shared) (σ : St) (H : Hp) (Q : List V → Hp → Prop), Inv X pins σ H s → t σ H Q → wpAny (model X.prog X.w) X.A (evalAll ((backToKw pos (keywordEach kws X.env)).map (·.2))) (AP X pins σ Q) X.xe s
section
variable {X : Cx} {CX : CXT} {k : Nat} {f C : Addr} {fd : FuncData} {ps ks : List Str} {sp : Sp} {E : XK} {x m : Str} {p pos apos kpos : Pos} {e o : Expr} {es : List Expr} {kws : List Keyword} {te ta : TE} {t tk : TA} {nm : Option Str}
structure KBinds (K : PySem.W.Frag) (fd : FuncData) (ps ks : List Str) (g : List Value → List Value → List Value) (gV : List V → List V → List V) : Prop where
  to : ∀ (s : Shared) (us ws : List Value), K.In s.heap → (g us ws).length = ps.length → BindsTo s fd ⟨us, ks.zip ws⟩ (ps.zip (g us ws))
  rel : ∀ {vs : List V} {us : List Value} {zs : List V} {ws : List Value}, Vals vs us → Vals zs ws → Vals (gV vs zs) (g us ws)
def tCallK (sp : Sp) (gV : List V → List V → List V) (E : XK) (t tk : TA) : TE := fun σ H Q => t σ H fun vs H1 => tk σ H1 fun zs H2 => sp (gV vs zs) H2 Q E
variable {g : List Value → List Value → List Value} {gV : List V → List V → List V}
end
structure FnScope (N P : List Str) (sc : Scope) : Prop where
  kind : sc.kind = .function
  co : sc.isCoroutine = false
  gen : sc.isGenerator = false
  nd : N.Nodup
  pre : N.take P.length = P
  par : ∀ x ∈ P, sc.names.lookup x = some .local ∨ sc.names.lookup x = some .cell
  nofree : ∀ y ∈ sc.names, y.2 ≠ .free
theorem bindL_out {kindOf : Str → Option NameKind} {x : Str} : ∀ {binds : List (Str × Value)} {m : Str → Option Value}, (∀ v, (x, v) ∉ binds) → bindL kindOf binds m x = m x
  | [], _, _ => rfl
  | (n, v) :: r, m, h => by
    unfold bindL
    rw [bindL_out fun w hw => h w (List.mem_cons_of_mem _ hw)]
    split
    · have : x ≠ n := by rintro rfl; exact h v List.mem_cons_self
      simp [this]
    · rfl
theorem bindC_out {kindOf : Str → Option NameKind} {x : Str} : ∀ {binds : List (Str × Value)} {m : Str → Option Value}, (∀ v, (x, v) ∉ binds) → bindC kindOf binds m x = m x
  | [], _, _ => rfl
  | (n, v) :: r, m, h => by
    unfold bindC
    rw [bindC_out fun w hw => h w (List.mem_cons_of_mem _ hw)]
    split
    · rfl
    · have : x ≠ n := by rintro rfl; exact h v List.mem_cons_self
      simp [this]
theorem bindL_get {kindOf : Str → Option NameKind} {x : Str} {v : Value} : ∀ {P : List Str} {vs : List Value} {i : Nat} {m : Str → Option Value}, P.Nodup → P[i]? = some x → vs[i]? = some v → kindOf x = some .local →
    bindL kindOf (P.zip vs) m x = some v
  | [], _, _, _, _, h, _, _ => by simp at h
  | _ :: _, [], _, _, _, _, h, _ => by simp at h
  | p :: P, w :: vs, 0, m, nd, h1, h2, hk => by
    simp at h1 h2; subst h1; subst h2
    show bindL kindOf ((p, w) :: P.zip vs) m p = _
    unfold bindL
    rw [bindL_out fun v hv => (List.nodup_cons.mp nd).1 (List.of_mem_zip hv).1, if_pos hk]
    simp
  | p :: P, w :: vs, i + 1, m, nd, h1, h2, hk => by
    show bindL kindOf ((p, w) :: P.zip vs) m x = _
    unfold bindL
    exact bindL_get (i := i) (List.nodup_cons.mp nd).2 (by simpa using h1) (by simpa using h2) hk
theorem bindC_get {kindOf : Str → Option NameKind} {x : Str} {v : Value} : ∀ {P : List Str} {vs : List Value} {i : Nat} {m : Str → Option Value}, P.Nodup → P[i]? = some x → vs[i]? = some v → kindOf x ≠ some .local →
    bindC kindOf (P.zip vs) m x = some v
  | [], _, _, _, _, h, _, _ => by simp at h
  | _ :: _, [], _, _, _, _, h, _ => by simp at h
  | p :: P, w :: vs, 0, m, nd, h1, h2, hk => by
    simp at h1 h2; subst h1; subst h2
    show bindC kindOf ((p, w) :: P.zip vs) m p = _
    unfold bindC
    rw [bindC_out fun v hv => (List.nodup_cons.mp nd).1 (List.of_mem_zip hv).1, if_neg hk]
    simp
  | p :: P, w :: vs, i + 1, m, nd, h1, h2, hk => by
    show bindC kindOf ((p, w) :: P.zip vs) m x = _
    unfold bindC
    exact bindC_get (i := i) (List.nodup_cons.mp nd).2 (by simpa using h1) (by simpa using h2) hk
def start (N : List Str) (vs : List V) : St := vs.map some ++ List.replicate (N.length - vs.length) none
def cxOf (CX : CXT) (P : Program) (w : World) (K : PySem.W.Frag) (mg : Str → Option Value) (base : Heap) (N : List Str) (qual : Str) (scope : Scope) (f : Addr) (cd : Value) (A : Around) (outer : List Env) (s : Shared) (H : Hp) (E : XK) : Cx where
  prog := P
  w := w
  K := K
  mg := mg
  base := base
  A := A.deeper (envOfC qual scope s.heap.objs.size f cd)
  N := N
  s₀ := s
  H₀ := H
  env := envOfC qual scope s.heap.objs.size f cd
  outer := outer
  stack := envOfC qual scope s.heap.objs.size f cd :: outer
  ex := []
  calm := true
  fn := fun _ => true
  pn := []
  xe := fun e s' => wpAny (model P w) (A.deeper (envOfC qual scope s.heap.objs.size f cd)) (leaving (envOfC qual scope s.heap.objs.size f cd) e) (fun _ s'' => CX outer H s E e s'') (fun e' s'' => CX outer H s E e' s'') s'
theorem cell_has {sc : Scope} {n : Nat} {x : Str} (h : sc.names.lookup x = some .cell) : ∃ c, (cellsFrom n sc.names []).lookup x = some c := by
  have q := PySem.W.cellsFrom_some sc.names n [] (.inl h)
  exact Option.isSome_iff_exists.mp q
theorem inv_start {CX : CXT} {P : Program} {w : World} {K : PySem.W.Frag} {mg : Str → Option Value} {base : Heap} {N ps : List Str} {qual : Str} {scope : Scope} {f : Addr} {cd : Value} {A : Around} {outer : List Env} {s s1 : Shared} {H : Hp} {E : XK} {us : List Value} {vs : List V}
    (S : FnScope N ps scope) (hd : A.handled = none) (e0 : Env0 P w K mg base A outer s H) (hl : vs.length = ps.length) (r : Vals vs us)
    (x : InCallC s s.heap.objs.size (bindL (envOfC qual scope s.heap.objs.size f cd).kindOf (ps.zip us) fun _ => none) (cellsFrom (s.heap.objs.size + 1) scope.names []) (bindC (envOfC qual scope s.heap.objs.size f cd).kindOf (ps.zip us) fun _ => none) s1) :
    Inv (cxOf CX P w K mg base N qual scope f cd A outer s H E) [] (start N vs) H s1 := by
  have hpl : ps.length ≤ N.length := by have := congrArg List.length S.pre; rw [List.length_take] at this; omega
  obtain ⟨h1, tk, rfl, hk⟩ := x.done
  have noA : ∀ b : Addr, b ∉ (cxOf CX P w K mg base N qual scope f cd A outer s H E).ex := fun b z => absurd (show b ∈ ([] : List Addr) from z) (by simp)
  refine ⟨⟨e0.mod, S.kind, rfl, rfl, Nat.le_refl _, fun y z c h1 h2 => ?_, fun y hy => ?_, fun y c _ h => ?_, fun _ => hd, Around.frames_deeper e0.frames, .inr ⟨rfl, rfl⟩, fun b z => absurd z (noA b), e0.bs, e0.bsz, fun b _ _ => noA b, fun b z => absurd z (noA b), e0.funs, e0.frf⟩,
    rfl, e0.bare, Un.kept hk, ⟨_, x.toInCall.ns, fun i y v h1 h2 h3 => ?_⟩, fun y c h => ⟨_, x.cell y c h⟩, e0.hok.fresh (Nat.le_refl _), fun y c h => ?_, fun p hp => absurd (show p ∈ ([] : List (Addr × Obj)) from hp) (by simp), e0.hok.kept hk, ?_⟩
  · exact name_of_addr x.apart (PySem.mem_of_lookup h1) (PySem.mem_of_lookup h2)
  · have hy : scope.names.lookup y = some .cell ∨ scope.names.lookup y = some .free := hy
    rcases hy with hy | hy
    · exact cell_has hy
    · exact absurd rfl (S.nofree _ (PySem.mem_of_lookup hy))
  · exact Nat.le_of_lt (x.above y c (PySem.mem_of_lookup h))
  · have hi : i < vs.length := by
      unfold start at h2
      by_cases hi : i < vs.length
      · exact hi
      · rw [List.getElem?_append_right (by simpa using hi)] at h2
        rw [List.getElem?_replicate] at h2
        split at h2 <;> cases h2
    have ha : vs[i]? = some v := by
      unfold start at h2
      rw [List.getElem?_append_left (by simpa using hi), List.getElem?_map] at h2
      cases e : vs[i]? with
      | none => rw [e] at h2; cases h2
      | some a => rw [e] at h2; cases h2; rfl
    obtain ⟨u, hu, rv⟩ := r.get ha
    have hp : ps[i]? = some y := by
      rw [← S.pre, List.getElem?_take_of_lt (by omega)]; exact h1
    have ndP : ps.Nodup := by rw [← S.pre]; exact S.nd.sublist (List.take_sublist _ _)
    refine ⟨u, rv, ?_⟩
    rcases S.par y (List.mem_of_getElem? hp) with k | k
    · exact .inl ⟨k, bindL_get ndP hp hu k⟩
    · obtain ⟨c, e⟩ := cell_has (n := s.heap.objs.size + 1) k
      refine .inr ⟨.inl k, c, e, ?_⟩
      have q := x.cell y c e
      rw [bindC_get ndP hp hu (by show scope.names.lookup y ≠ _; rw [k]; decide)] at q
      exact q
  · exact e0.hok.fresh (Nat.le_of_lt (x.above y c (PySem.mem_of_lookup h)))
  · unfold start
    show _ = N.length
    rw [List.length_append, List.length_map, List.length_replicate]
    omega
theorem fn_of {CX : CXT} {P : Program} {w : World} {K : PySem.W.Frag} {mg : Str → Option Value} {base : Heap} {k : Nat} {f : Addr} {name qual : Str} {params : Arguments} {body : List Stmt} {scope : Scope} {dV kV doc pm cdv ct oc : Value} {an od : Option Addr}
    {osl : Array (Option Value)} {N ps : List Str} {sp : Sp} (lk : K.lookup f = some ⟨oc, od, .func (PySem.W.fnOf name qual params body scope dV kV doc pm an cdv ct), osl⟩) (hcd : PySem.W.codeIn K cdv qual = true) (S : FnScope N ps scope)
    (len : ∀ vs H Q E, sp vs H Q E → vs.length = ps.length)
    (hbody : ∀ (A : Around) (outer : List Env) (s : Shared) (H : Hp) (vs : List V) (Q : VK) (E : XK), Room k (A.deeper (envOfC qual scope s.heap.objs.size f cdv)) → sp vs H Q E →
      ∃ t, PSs (cxOf CX P w K mg base N qual scope f cdv A outer s H E) body t ∧ t { nx := fun _ H' => Q .non H', rt := Q } (start N vs) H) :
    FnOk P w K mg base CX (k + 1) f (PySem.W.fnOf name qual params body scope dV kV doc pm an cdv ct) ps sp := by
  refine ⟨len, fun A outer s H args us vs Q E hr e0 hb r hsp => ?_⟩
  have hl := len _ _ _ _ hsp
  have KX : K.In s.heap := e0.mod.kin.keeps fun b o e => (e0.bs b o e).1
  have lim : s.heap.NoLimit := e0.mod.nolimit.keeps fun b o e => (e0.bs b o e).1
  have hkind : ∀ y ∈ ps.zip us, scope.names.lookup y.1 = some .local ∨ (scope.names.lookup y.1 = some .cell ∧ ((cellsFrom (s.heap.objs.size + 1) scope.names []).lookup y.1).isSome = true) := fun ⟨n, v⟩ hy => by
    rcases S.par n (List.of_mem_zip hy).1 with q | q
    · exact .inl q
    · exact .inr ⟨q, PySem.W.cellsFrom_some _ _ _ (.inl q)⟩
  refine codeAny_call_function hr.depth (KX _ _ lk) rfl S.co S.gen rfl (PySem.W.codeRec_of KX hcd) (hb _ _ _ _ ?_)
  refine wpAny_newFunctionEnv_cells S.kind hkind fun env he s1 x => ?_
  subst he
  refine ⟨lim.keeps x.toInCall.keep, codeAny_func ?_⟩
  obtain ⟨t, ht, hq⟩ := hbody A outer s H vs Q E (hr.deeper _) hsp
  have I : Inv (cxOf CX P w K mg base N qual scope f cdv A outer s H E) [] (start N vs) H s1 := inv_start S hr.hd e0 hl r x
  refine wpAny_mono (ht [] s1 (start N vs) H _ I hq) (fun fl s' hs => ?_) fun e s' hs => hs
  have fin : ∀ {σ' : St} {H' : Hp} {v : V} {u : Value}, Inv (cxOf CX P w K mg base N qual scope f cdv A outer s H E) [] σ' H' s' → RelV v u → Q v H' → CE outer P w H s Q u s' :=
    fun {σ' H' v u} J rv q => ⟨v, H', J.os, J.bare, J.base, J.hok, rv, q⟩
  cases fl with
  | ret u =>
    obtain ⟨v, σ', H', J, rv, q⟩ := hs
    exact fin J rv q
  | next =>
    obtain ⟨σ', H', J, q⟩ := hs
    exact fin (v := V.non) (u := Value.none) J rfl q
  | brk =>
    obtain ⟨_, _, _, q⟩ := hs
    exact False.elim q
  | cont =>
    obtain ⟨_, _, _, q⟩ := hs
    exact False.elim q
end L2
namespace L2
open PySem PySem.Spec PyProof.Rows
section
variable {X : Cx} {x : Str} {p pos : Pos} {e : Expr} {es : List Expr} {t : TA} {id T : String} {r : List V → Hp → VK → Prop}
def tCB (r : List V → Hp → VK → Prop) (t : TA) : TE := fun σ H Q => t σ H fun vs H1 => r vs H1 Q
theorem pe_callB (hc : CallR X (.builtin id) r) (hg : Gl X x) (hm : X.mg x = none) (hv : bootBuiltins x = some (.builtin id)) (ha : PA X (e :: es) t) (hn : x ≠ "__name__" := by decide) (hdb : (x == ("__debug__" : Str)) = false := by decide)
    (he : starEach (e :: es) X.env = (false, eval e X.env) :: starEach es X.env := by rfl) (hpl : (backTo pos (starEach es X.env)).any (·.1) = false := by rfl) : PE X (.Call (.Name x p) (e :: es) [] pos) (tCB r t) := by
  intro pins s σ H Q I h
  refine wpAny_Call_Name_kw (ld_blt I hg hm hv ?_ hn hdb)
  exact PyProof.Rows.callWith_builtin1 (thn (ha pos pins s σ H _ I h) fun us s1 ⟨vs, H1, I1, r1, q1⟩ => hc pins s1 σ H1 vs us Q I1 r1 q1) he hpl
theorem pe_callTy (hc : CallR X (.type T) r) (hg : Gl X x) (hm : X.mg x = none) (hv : bootBuiltins x = some (.type T)) (ha : PA X (e :: es) t) (hn : x ≠ "__name__" := by decide) (hdb : (x == ("__debug__" : Str)) = false := by decide)
    (he : starEach (e :: es) X.env = (false, eval e X.env) :: starEach es X.env := by rfl) (hpl : (backTo pos (starEach es X.env)).any (·.1) = false := by rfl) : PE X (.Call (.Name x p) (e :: es) [] pos) (tCB r t) := by
  intro pins s σ H Q I h
  refine wpAny_Call_Name_kw (ld_blt I hg hm hv ?_ hn hdb)
  exact PyProof.Rows.callWith_type1 (thn (ha pos pins s σ H _ I h) fun us s1 ⟨vs, H1, I1, r1, q1⟩ => hc pins s1 σ H1 vs us Q I1 r1 q1) he hpl
end
end L2
namespace L2
open PySem PySem.Spec PyProof.Rows
section
variable {κ : Type} [DecidableEq κ]
def valV (kvs : List (κ × V)) (k : κ) : Option V := (kvs.find? fun kv => decide (kv.1 = k)).map (·.2)
def putK (kvs : List (κ × V)) (k : κ) (v : V) : List (κ × V) :=
  if (kvs.any fun kv => decide (kv.1 = k)) = true then kvs.map (fun kv => if kv.1 = k then (kv.1, v) else kv) else kvs ++ [(k, v)]
def dropK (kvs : List (κ × V)) (k : κ) : List (κ × V) := kvs.filter fun kv => decide (kv.1 ≠ k)
end
abbrev KT (H : Hp) : List (List Key × V) → List (List Key × Addr × Value) → Prop := Paired fun p q => p.1 = q.1 ∧ H q.2.1 = some (.tup (p.1.map kV)) ∧ RelV p.2 q.2.2
section
variable {P : Program} {w : World} {H : Hp} {h : Heap} {a : Addr}
end
def DGet (H : Hp) (a : Addr) (y : V) (r : Option V) : Prop :=
  (∃ kvs k, Rd H a (.dK kvs) ∧ y = kV k ∧ r = valV kvs k) ∨ ∃ kvs k b, Rd H a (.dT kvs) ∧ y = .ref b ∧ H b = some (.tup (k.map kV)) ∧ r = valV kvs k
def DPut (H : Hp) (a : Addr) (y v : V) (H' : Hp) : Prop :=
  (∃ kvs k, H a = some (.dK kvs) ∧ y = kV k ∧ kvs.length < sizeLine ∧ H' = upd H a (.dK (putK kvs k v))) ∨
  ∃ kvs k b, H a = some (.dT kvs) ∧ y = .ref b ∧ H b = some (.tup (k.map kV)) ∧ kvs.length < sizeLine ∧ H' = upd H a (.dT (putK kvs k v))
section
variable {X : Cx} {pins : List (Addr × Obj)} {σ : St} {H : Hp} {s : Shared} {a : Addr} {y v : V} {u r : Value} {o : Option V} {A : Around} {E : Value → Shared → Prop}
theorem Inv.big (I : Inv X pins σ H s) : sysModules < s.heap.objs.size := by
  have h : mainGlobals < s.heap.objs.size := (I.mod.glob.keeps I.bk).lt
  exact Nat.lt_trans (by decide) h
end
section
variable {X : Cx} {pins : List (Addr × Obj)} {σ : St} {H : Hp} {s : Shared} {a : Addr} {kvs : List (Key × V)} {k : Key} {u : Value} {A : Around} {E : Value → Shared → Prop}
end
def NoSl (i : Expr) : Prop := ∀ ov iv, subscripted i false ov iv = operate [ov, iv] (getItem ov iv)
def tDGet (td ty : TE) : TE := fun σ H Q => td σ H fun x H1 => ty σ H1 fun y H2 => ∃ a v, x = .ref a ∧ DGet H2 a y (some v) ∧ Q v H2
def tDIn (ty td : TE) : TE := fun σ H Q => ty σ H fun y H1 => td σ H1 fun x H2 => ∃ a o, x = .ref a ∧ DGet H2 a y o ∧ Q (.bl o.isSome) H2
def tDNotIn (ty td : TE) : TE := fun σ H Q => ty σ H fun y H1 => td σ H1 fun x H2 => ∃ a o, x = .ref a ∧ DGet H2 a y o ∧ Q (.bl (!o.isSome)) H2
def sDPut (td ty tv : TE) : TS := fun D σ H => tv σ H fun v H1 => td σ H1 fun x H2 => ty σ H2 fun y H3 => ∃ a H4, x = .ref a ∧ DPut H3 a y v H4 ∧ D.nx σ H4
def sDAug (td ty tv : TE) (rd : V → V → Hp → VK → Prop) : TS := fun D σ H => td σ H fun x H1 => ty σ H1 fun y H2 => ∃ a v, x = .ref a ∧ DGet H2 a y (some v) ∧
  tv σ H2 fun y2 H3 => rd v y2 H3 fun z H4 => ∃ H5, DPut H4 a y z H5 ∧ D.nx σ H5
def sDDel (td ty : TE) : TS := fun D σ H => td σ H fun x H1 => ty σ H1 fun y H2 => ∃ a kvs k, x = .ref a ∧ H2 a = some (.dK kvs) ∧ y = kV k ∧ (valV kvs k).isSome = true ∧ D.nx σ (upd H2 a (.dK (dropK kvs k)))
section
variable {X : Cx} {o i e value : Expr} {pos pos' tpos : Pos} {td ty tv : TE}
end
theorem dk_empty {P : Program} {w : World} {H : Hp} (h : Heap) (hb : sysModules < h.objs.size) : ObjOk P w H (h.push { cls := .type "dict", data := .dict #[] }) h.objs.size (.dK []) :=
  ⟨Nat.zero_le _, beq_eq_false_iff_ne.mpr (Ne.symm (Nat.ne_of_lt hb)), [], .nil, Heap.DictOf.new h⟩
def tDNewK : TE := fun _ H Q => ∀ p, H p = none → Q (.ref p) (upd H p (.dK []))
def tDNewT : TE := fun _ H Q => ∀ p, H p = none → Q (.ref p) (upd H p (.dT []))
section
variable {X : Cx} {pos : Pos}
theorem pe_dnewK : PE X (.Dict [] [] pos) tDNewK := fun pins s σ H Q I h =>
  wpAny_Dict_empty ⟨.ref s.heap.objs.size, _, I.laid (a := s.heap.objs.size) (o := .dK []) (t' := s.toks) (fun _ _ q => Heap.get?_push_of_some _ q) (Nat.le_refl _) (dk_empty s.heap I.big), rfl, h _ (I.hok.fresh (Nat.le_refl _))⟩
end
def tPairs : List (TE × TE) → St → Hp → (List (V × V) → Hp → Prop) → Prop
  | [], _, H, Q => Q [] H
  | (tk, tv) :: r, σ, H, Q => tk σ H fun x H1 => tv σ H1 fun y H2 => tPairs r σ H2 fun ps H3 => Q ((x, y) :: ps) H3
abbrev VV : List (V × V) → List (Value × Value) → Prop := Paired fun p q => RelV p.1 q.1 ∧ RelV p.2 q.2
def PPs (X : Cx) (pos : Pos) (keys : List (Option Expr)) (values : List Expr) (trs : List (TE × TE)) : Prop :=
  ∀ (pins : List (Addr × Obj)) (s : Shared) (σ : St) (H : Hp) (Q : List (V × V) → Hp → Prop), Inv X pins σ H s → tPairs trs σ H Q →
    wpAny (model X.prog X.w) X.A (evalPairs (pairTrees keys values X.env pos)) (fun vs s' => ∃ ps H', Inv X pins σ H' s' ∧ VV ps vs ∧ Q ps H') X.xe s
def mergeK (kvs more : List (Key × V)) : List (Key × V) := more.foldl (fun acc kv => putK acc kv.1 kv.2) kvs
def tDisp (trs : List (TE × TE)) : TE := fun σ H Q => ∀ p, H p = none → tPairs trs σ (upd H p (.dK [])) fun ps H2 => H2 p = some (.dK []) ∧ ∃ kvs : List (Key × V), ps = kvs.map (fun kv => (kV kv.1, kv.2)) ∧ kvs.length ≤ 15 ∧ Q (.ref p) (upd H2 p (.dK (mergeK [] kvs)))
structure M1 (X : Cx) (o : Expr) (m : Str) (apos : Pos) (e : Expr) (cpos : Pos) : Prop where
  base : attributeBase o m X.env (eval o X.env) = eval o X.env
  few : ((backTo cpos (starEach [e] X.env)).all (fun x => !x.1) && (backToKw cpos (keywordEach [] X.env)).all (fun x => x.1.isSome)
    && decide (([e] : List Expr).length + ([] : List Keyword).length + (if ([] : List Keyword).isEmpty then 0 else 1) < 30)) = true
  line : (apos.endLine == cpos.line) = true
  trees : backTo cpos (starEach [e] X.env) = [(false, eval e X.env)]
structure M2 (X : Cx) (o : Expr) (m : Str) (apos : Pos) (e f : Expr) (cpos : Pos) : Prop where
  base : attributeBase o m X.env (eval o X.env) = eval o X.env
  few : ((backTo cpos (starEach [e, f] X.env)).all (fun x => !x.1) && (backToKw cpos (keywordEach [] X.env)).all (fun x => x.1.isSome)
    && decide (([e, f] : List Expr).length + ([] : List Keyword).length + (if ([] : List Keyword).isEmpty then 0 else 1) < 30)) = true
  line : (apos.endLine == cpos.line) = true
  trees : backTo cpos (starEach [e, f] X.env) = [(false, eval e X.env), (false, eval f X.env)]
def IsD (H : Hp) (a : Addr) : Prop := (∃ kvs, Rd H a (.dK kvs)) ∨ ∃ kvs, Rd H a (.dT kvs)
section
variable {X : Cx} {pins : List (Addr × Obj)} {σ : St} {H : Hp} {s : Shared} {a : Addr} {y d : V} {u r : Value} {o : Option V} {A : Around} {E : Value → Shared → Prop}
end
def tDGet1 (td ty : TE) : TE := fun σ H Q => td σ H fun x H1 => ∃ a, x = .ref a ∧ IsD H1 a ∧ ty σ H1 fun y H2 => ∃ o, DGet H2 a y o ∧ Q (o.getD .non) H2
def tDGet2 (td ty tx : TE) : TE := fun σ H Q => td σ H fun x H1 => ∃ a, x = .ref a ∧ IsD H1 a ∧ ty σ H1 fun y H2 => tx σ H2 fun z H3 => ∃ o, DGet H3 a y o ∧ Q (o.getD z) H3
def tDPop1 (td ty : TE) : TE := fun σ H Q => td σ H fun x H1 => ∃ a, x = .ref a ∧ IsD H1 a ∧ ty σ H1 fun y H2 => ∃ kvs k v, H2 a = some (.dK kvs) ∧ y = kV k ∧ valV kvs k = some v ∧ Q v (upd H2 a (.dK (dropK kvs k)))
def tDPop2 (td ty tx : TE) : TE := fun σ H Q => td σ H fun x H1 => ∃ a, x = .ref a ∧ IsD H1 a ∧ ty σ H1 fun y H2 => tx σ H2 fun z H3 => ∃ kvs k, H3 a = some (.dK kvs) ∧ y = kV k ∧
  (∀ v, valV kvs k = some v → Q v (upd H3 a (.dK (dropK kvs k)))) ∧ (valV kvs k = none → Q z H3)
section
variable {X : Cx} {o e f : Expr} {apos cpos : Pos} {td ty tx : TE}
end
section
variable {X : Cx} {pins : List (Addr × Obj)} {σ : St} {H : Hp} {s : Shared} {a : Addr} {kvs : List (Key × V)} {A : Around} {E : Value → Shared → Prop}
end
section
variable {X : Cx} {pins : List (Addr × Obj)} {σ : St} {H : Hp} {s : Shared} {a : Addr} {y : V} {u : Value} {A : Around} {E : Value → Shared → Prop}
end
end L2
namespace HT
open PySem PyProof.Rows
def lexLt : List Int → List Int → Bool
  | [], [] => false
  | [], _ :: _ => true
  | _ :: _, [] => false
  | x :: xs, y :: ys => if x = y then lexLt xs ys else decide (x < y)
section
open PySem.SeqAt
open PySem.AutoSeq1 (wpAny_loadPart')
open PySem.MeetsSeq PySem.MeetsSeq2 PySem.MeetsSeq3
end
section
variable {prog : Program} {w : World} {A : Around} {E : Value → Shared → Prop} {s : Shared}
def sIx (n d : Nat) : Option Int → Nat
  | none => d
  | some v => if v < 0 then (v + (n : Int)).toNat else min v.toNat n
theorem sIx_none (n d : Nat) : sIx n d none = d := rfl
theorem sIx_nat (n d k : Nat) : sIx n d (some (k : Int)) = min k n := by
  show (if (k : Int) < 0 then ((k : Int) + (n : Int)).toNat else min (k : Int).toNat n) = min k n
  rw [if_neg (by omega), Int.toNat_natCast]
end
end HT
namespace L2
open PySem PySem.Spec PyProof.Rows
abbrev TO := St → Hp → (Option Int → Hp → Prop) → Prop
def PO (X : Cx) (e : Option Expr) (t : TO) : Prop :=
  ∀ (pins : List (Addr × Obj)) (s : Shared) (σ : St) (H : Hp) (Q : Option Int → Hp → Prop), Inv X pins σ H s → t σ H Q →
    wpAny (model X.prog X.w) X.A (evalPart e X.env) (fun u s' => ∃ o H', Inv X pins σ H' s' ∧ IsPart u o ∧ Q o H') X.xe s
def tNoPart : TO := fun _ H Q => Q none H
def tPart (t : TE) : TO := fun σ H Q => t σ H fun x H1 => ∃ i, x = .int i ∧ Q (some i) H1
section
variable {X : Cx} {e : Expr} {te : TE} {lo hi : Option Expr} {tl th : TO} {pos p2 : Pos}
theorem po_none : PO X none tNoPart := by
  intro pins s σ H Q I h
  rw [evalPart_none]
  exact wpAny_pure ⟨none, H, I, .none, h⟩
theorem po_some (h : PE X e te) : PO X (some e) (tPart te) := by
  intro pins s σ H Q I hw
  rw [evalPart_some]
  refine thn (h pins s σ H _ I hw) fun u s1 ⟨x, H1, I1, r1, q1⟩ => ?_
  obtain ⟨i, rfl, q⟩ := q1
  obtain ⟨t, rfl⟩ := r1
  exact ⟨some i, H1, I1, .int i t, q⟩
def SlR (X : Cx) (r : V → Option Int → Option Int → Hp → VK → Prop) : Prop :=
  ∀ (pins : List (Addr × Obj)) (s : Shared) (σ : St) (H : Hp) (x : V) (v vl vu : Value) (lo hi : Option Int) (sl : Addr) (Q : VK), Inv X pins σ H s → RelV x v → s.heap.IsSliceOf sl vl vu .none → IsPart vl lo → IsPart vu hi → r x lo hi H Q →
    ∃ T id, typeLookup (.type T) "__getitem__" = pure (some (.builtin id)) ∧ s.TypeIs v T ∧ wpAny (model X.prog X.w) X.A (getItem v (.ref sl)) (EP X pins σ Q) X.xe s
def tSl (r : V → Option Int → Option Int → Hp → VK → Prop) (te : TE) (tl th : TO) : TE := fun σ H Q => te σ H fun x H1 => tl σ H1 fun l H2 => th σ H2 fun u H3 => r x l u H3 Q
theorem pe_slice {r : V → Option Int → Option Int → Hp → VK → Prop} (hr : SlR X r) (he : PE X e te) (hl : PO X lo tl) (hu : PO X hi th) : PE X (.Subscript e (.Slice lo hi none p2) pos) (tSl r te tl th) := by
  intro pins s σ H Q I h
  refine Subscript_ (thn (he pins s σ H _ I h) fun v s1 ⟨x, H1, I1, r1, q1⟩ => ?_)
  refine wpAny_Slice (thn (hl pins s1 σ H1 _ I1 q1) fun vl s2 ⟨l, H2, I2, pl, q2⟩ => thn (hu pins s2 σ H2 _ I2 q2) fun vu s3 ⟨u, H3, I3, pu, q3⟩ => ?_)
  rw [evalPart_none]
  refine wpAny_pure ?_
  have I4 : Inv X pins σ H3 { s3 with heap := s3.heap.push { cls := .type "slice", data := .fields #[vl, vu, .none] } } := I3.kept (t' := s3.toks) fun b ob q => Heap.get?_push_of_some _ q
  obtain ⟨T, id, hT, ht, hg⟩ := hr pins { s3 with heap := s3.heap.push { cls := .type "slice", data := .fields #[vl, vu, .none] } } σ H3 x v vl vu l u s3.heap.objs.size Q I4 r1 (Heap.IsSliceOf.new ..) pl pu q3
  show wpAny (model X.prog X.w) X.A (subscriptTail e (.Slice lo hi none p2) v (.ref s3.heap.objs.size)) (EP X pins σ Q) X.xe { s3 with heap := s3.heap.push { cls := .type "slice", data := .fields #[vl, vu, .none] } }
  exact tail_any (ops := [.ref s3.heap.objs.size, v]) ht hT hg (by with_unfolding_all rfl)
def cutV (xs : List V) (lo hi : Option Int) : List V := (xs.drop (HT.sIx xs.length 0 lo)).take (HT.sIx xs.length xs.length hi - HT.sIx xs.length 0 lo)
theorem cutV_length (xs : List V) (lo hi : Option Int) : (cutV xs lo hi).length ≤ xs.length := by
  unfold cutV
  rw [List.length_take, List.length_drop]
  omega
def rSlT (K : PySem.W.Frag) : V → Option Int → Option Int → Hp → VK → Prop := fun x lo hi H Q => ∃ a xs, x = .ref a ∧ SqT K H a xs ∧
  ¬ (HT.sIx xs.length 0 lo = 0 ∧ HT.sIx xs.length xs.length hi = xs.length) ∧ ∀ p, H p = none → Q (.ref p) (upd H p (.tup (cutV xs lo hi)))
def rLtT (K : PySem.W.Frag) : R2 := fun x y H Q => ∃ a b ns ms, x = .ref a ∧ y = .ref b ∧ SqT K H a (ns.map V.int) ∧ SqT K H b (ms.map V.int) ∧ Q (.bl (HT.lexLt ns ms)) H
def rCatT (K : PySem.W.Frag) : R2 := fun x y H Q => ∃ a b xs ys, x = .ref a ∧ y = .ref b ∧ SqT K H a xs ∧ SqT K H b ys ∧ xs ≠ [] ∧ xs.length + ys.length ≤ sizeLine ∧
  (ys = [] → Q (.ref a) H) ∧ (ys ≠ [] → ∀ p, H p = none → Q (.ref p) (upd H p (.tup (xs ++ ys))))
end
end L2
namespace L2
open PySem PySem.Spec PyProof.Rows
def ixN (n : Nat) (i : Int) : Option Nat := if 0 ≤ i then (if i < n then some i.toNat else none) else if -(n : Int) ≤ i then some (i + n).toNat else none
def atI {α : Type} (xs : List α) (i : Int) : Option α := (ixN xs.length i).bind fun j => xs[j]?
theorem ixN_seq {n : Nat} {i : Int} {j : Nat} (h : ixN n i = some j) : seqIndex? i n = some j ∧ j < n ∧ -(n : Int) ≤ i ∧ i < n := by
  unfold ixN at h
  by_cases h0 : 0 ≤ i
  · rw [if_pos h0] at h
    by_cases h1 : i < n
    · rw [if_pos h1] at h
      have e : i.toNat = j := Option.some.inj h
      exact ⟨by rw [seqIndex_of h0 h1, e], by omega, by omega, h1⟩
    · rw [if_neg h1] at h; cases h
  · rw [if_neg h0] at h
    by_cases h1 : -(n : Int) ≤ i
    · rw [if_pos h1] at h
      have e : (i + n).toNat = j := Option.some.inj h
      exact ⟨by rw [seqIndex_neg (by omega) h1, e], by omega, h1, by omega⟩
    · rw [if_neg h1] at h; cases h
theorem atI_get {α : Type} {xs : List α} {i : Int} {v : α} (h : atI xs i = some v) : ∃ j, seqIndex? i xs.length = some j ∧ xs[j]? = some v ∧ j < xs.length ∧ -(xs.length : Int) ≤ i ∧ i < xs.length := by
  unfold atI at h
  cases e : ixN xs.length i with
  | none => rw [e] at h; cases h
  | some j =>
    rw [e] at h
    obtain ⟨h1, h2, h3, h4⟩ := ixN_seq e
    exact ⟨j, h1, h, h2, h3, h4⟩
theorem atI_nat {α : Type} {xs : List α} {j : Nat} {v : α} (h : xs[j]? = some v) : atI xs (j : Int) = some v := by
  have hj : j < xs.length := (List.getElem?_eq_some_iff.mp h).1
  have e : ixN xs.length (j : Int) = some j := by
    unfold ixN
    rw [if_pos (by omega), if_pos (by omega)]; simp
  unfold atI; rw [e]; exact h
theorem atI_last {α : Type} (xs : List α) (v : α) : atI (xs ++ [v]) (-1) = some v := by
  have hl : (xs ++ [v]).length = xs.length + 1 := by simp
  have e : ixN (xs ++ [v]).length (-1) = some xs.length := by
    unfold ixN
    rw [hl, if_neg (by decide), if_pos (by omega)]
    congr 1
    omega
  unfold atI
  rw [e]
  show (xs ++ [v])[xs.length]? = some v
  simp
def PlainIx (b : Expr) : Prop := ∀ o i, subscripted b false o i = operate [o, i] (getItem o i)
def IxR (X : Cx) (r : R2) : Prop :=
  ∀ (value slice : Expr) (pins : List (Addr × Obj)) (s : Shared) (σ : St) (H : Hp) (x y : V) (v u : Value) (Q : VK), Inv X pins σ H s → RelV x v → RelV y u → r x y H Q →
    subscripted slice false v u = operate [v, u] (getItem v u) → wpAny (model X.prog X.w) X.A (subscriptTail value slice v u) (EP X pins σ Q) X.xe s
def MtR (X : Cx) (id : String) (r : V → List V → Hp → VK → Prop) : Prop :=
  ∀ (pins : List (Addr × Obj)) (s : Shared) (σ : St) (H : Hp) (x : V) (xs : List V) (v : Value) (us : List Value) (Q : VK), Inv X pins σ H s → RelV x v → Vals xs us → r x xs H Q →
    wpAny (model X.prog X.w) X.A (call (.builtin id) (v :: us)) (EP X pins σ Q) X.xe s
section
variable {X : Cx} {a b : Expr} {ta tb : TE} {pos : Pos}
theorem pe_ix {r : R2} (hr : IxR X r) (ha : PE X a ta) (hb : PE X b tb) (hs : PlainIx b) : PE X (.Subscript a b pos) (tOp r ta tb) := by
  intro pins s σ H Q I h
  exact Subscript_ (binT ha hb I h fun v u s2 x y H2 I2 rx ry q => hr a b pins s2 σ H2 x y v u Q I2 rx ry q (hs _ _))
def rIxL (K : PySem.W.Frag) : R2 := fun x y H Q => ∃ p xs i v, x = .ref p ∧ y = .int i ∧ SqL K H p xs ∧ atI xs i = some v ∧ Q v H
def rIxT (K : PySem.W.Frag) : R2 := fun x y H Q => ∃ p xs i v, x = .ref p ∧ y = .int i ∧ SqT K H p xs ∧ atI xs i = some v ∧ Q v H
def rIxS : R2 := fun x y H Q => ∃ z i c, x = .str z ∧ y = .int i ∧ z.length ≤ sizeLine ∧ atI z.cps.toList i = some c ∧ Q (.str ⟨#[c]⟩) H
theorem ix_list : IxR X (rIxL X.K) := by
  intro value slice pins s σ H x y v u Q I rx ry h hs
  obtain ⟨p, xs, i, z, rfl, rfl, hq, he, q⟩ := h
  cases rx
  obtain ⟨t, rfl⟩ := ry
  obtain ⟨its, r, pl, hz⟩ := I.list hq
  obtain ⟨j, h1, h2, h3, h4, h5⟩ := atI_get he
  obtain ⟨w, ew, rw'⟩ := r.get h2
  have hl := r.length
  have hn := line63
  have fin : EP X pins σ Q w s := ⟨z, H, I, rw', q⟩
  by_cases h0 : 0 ≤ i
  · have hj : i.toNat = j := by
      rw [seqIndex_of h0 h5] at h1
      exact Option.some.inj h1
    exact item_listR pl.isList h0 (by omega) (by rw [hj]; simpa using ew) fin hs
  · have hj : (i + (its.toArray.size : Int)).toNat = j := by
      rw [seqIndex_neg (by omega) h4] at h1
      rw [List.size_toArray, ← hl]
      exact Option.some.inj h1
    exact subscriptTail_builtinR (x := w) pl.isList.typeIs slot_list_getitem.lookup
      (wpAny_getItem_list_neg (Q := fun r s' => r = w ∧ EP X pins σ Q r s') pl.isList (by omega) (by rw [List.size_toArray] <;> omega) (by omega) (by rw [hj]; simpa using ew) ⟨rfl, fin⟩) hs
theorem ix_str : IxR X rIxS := by
  intro value slice pins s σ H x y v u Q I rx ry h hs
  obtain ⟨z, i, c, rfl, rfl, hz, he, q⟩ := h
  obtain ⟨t, rfl⟩ := rx
  obtain ⟨t', rfl⟩ := ry
  obtain ⟨j, h1, h2, h3, h4, h5⟩ := atI_get he
  have hl : z.cps.toList.length = z.length := by simp [Str.length]
  rw [hl] at h1 h4 h5
  have hn := line63
  exact tail_any (typeIs_str s z t) slot_str_getitem.lookup (getItem_str (c := c) (by
    have e1 : decide (i < -(2 ^ 63 : Int)) = false := decide_eq_false (by omega)
    have e2 : decide (i ≥ 2 ^ 63) = false := decide_eq_false (by omega)
    rw [e1, e2, Bool.or_false]) (by rw [h1]; simpa using h2) ⟨.str ⟨#[c]⟩, H, I.tok _, ⟨_, rfl⟩, q⟩) hs
def rIx (K : PySem.W.Frag) : R2 := fun x y H Q => rIxL K x y H Q ∨ rIxT K x y H Q ∨ rIxS x y H Q
def rSetL : V → V → V → Hp → (Hp → Prop) → Prop := fun o i v H Q => ∃ p xs k j, o = .ref p ∧ i = .int k ∧ H p = some (.lst xs) ∧ ixN xs.length k = some j ∧ Q (upd H p (.lst (xs.set j v)))
theorem slice_bounds (lo hi : Option Int) (n : Nat) : (sliceBounds lo hi none n).1 = ((HT.sIx n 0 lo : Nat) : Int) ∧ (sliceBounds lo hi none n).2.1 = ((HT.sIx n n hi : Nat) : Int) ∧ (sliceBounds lo hi none n).2.2 = 1 := by
  refine ⟨?_, ?_, rfl⟩
  · cases lo with
    | none => simp [sliceBounds, HT.sIx]
    | some i =>
      simp only [sliceBounds, HT.sIx, Option.getD_none, show (1 : Int) > 0 by decide, if_true]
      by_cases h : i < 0
      · simp only [h, if_true] <;> omega
      · simp only [h, if_false] <;> omega
  · cases hi with
    | none => simp [sliceBounds, HT.sIx]
    | some i =>
      simp only [sliceBounds, HT.sIx, Option.getD_none, show (1 : Int) > 0 by decide, if_true]
      by_cases h : i < 0
      · simp only [h, if_true] <;> omega
      · simp only [h, if_false] <;> omega
theorem slicePick_cut (its : List Value) (lo hi : Option Int) : slicePick its.toArray lo hi none = ((its.drop (HT.sIx its.length 0 lo)).take (HT.sIx its.length its.length hi - HT.sIx its.length 0 lo)).toArray := by
  obtain ⟨h1, h2, h3⟩ := slice_bounds lo hi its.toArray.size
  unfold slicePick
  rw [h1, h2, h3]
  simp only [sliceRange_one, pick_run, List.size_toArray] <;> rfl
def rSlL (K : PySem.W.Frag) : V → Option Int → Option Int → Hp → VK → Prop := fun x lo hi H Q => ∃ a xs, x = .ref a ∧ SqL K H a xs ∧ ∀ p, H p = none → Q (.ref p) (upd H p (.lst (cutV xs lo hi)))
theorem sl_list : SlR X (rSlL X.K) := by
  intro pins s σ H x v vl vu lo hi sl Q I rx hs pl pu h
  obtain ⟨a, xs, rfl, hx, q⟩ := h
  cases rx
  obtain ⟨its, r, ht, hz⟩ := I.list hx
  have hlen := r.length
  refine ⟨"list", _, slot_list_getitem.lookup, ht.isList.typeIs, ?_⟩
  refine wpAny_getItem_list_slice ht.isList hs pl pu .none (by simp) ?_ (by rw [List.size_toArray] <;> omega)
  rw [slicePick_cut, ← hlen]
  refine ⟨.ref s.heap.objs.size, _, I.laid (t' := s.toks) (o := .lst (cutV xs lo hi)) (fun b ob q => Heap.get?_push_of_some _ q) (Nat.le_refl _) ?_, rfl, q _ (I.hok.fresh (Nat.le_refl _))⟩
  exact ⟨Nat.le_trans (cutV_length xs lo hi) hz, _, 0, (r.drop (HT.sIx xs.length 0 lo)).take (HT.sIx xs.length xs.length hi - HT.sIx xs.length 0 lo), Heap.get?_push_size _ rfl⟩
def flatV : V → Bool
  | .non => true
  | .bl _ => true
  | .int _ => true
  | .str _ => true
  | _ => false
def eqV : V → V → Bool
  | .non, .non => true
  | .bl a, .bl b => a == b
  | .bl a, .int b => (if a then 1 else 0) == b
  | .int a, .bl b => a == (if b then 1 else 0)
  | .int a, .int b => a == b
  | .str a, .str b => a == b
  | _, _ => false
theorem eqAt_V {A : Around} {s : Shared} {y x : V} {u v : Value} (ry : RelV y u) (rx : RelV x v) (fy : flatV y = true) (fx : flatV x = true) : SeqAt.EqAt A s u v (eqV y x) := by
  cases y with
  | non =>
    cases ry
    cases x with
    | non => cases rx; exact SeqAt.EqAt.same _
    | bl b => cases rx; exact SeqAt.EqAt.none_bool b
    | int b => obtain ⟨t, rfl⟩ := rx; exact SeqAt.EqAt.none_int b t
    | str b => obtain ⟨t, rfl⟩ := rx; exact SeqAt.EqAt.none_str b t
    | _ => exact absurd (show false = true from fx) Bool.false_ne_true
  | bl a =>
    cases ry
    cases x with
    | non => cases rx; exact SeqAt.EqAt.bool_none a
    | bl b => cases rx; exact SeqAt.EqAt.bool_bool a b
    | int b => obtain ⟨t, rfl⟩ := rx; exact SeqAt.EqAt.bool_int a b t
    | str b => obtain ⟨t, rfl⟩ := rx; exact SeqAt.EqAt.bool_str a b t
    | _ => exact absurd (show false = true from fx) Bool.false_ne_true
  | int a =>
    obtain ⟨t', rfl⟩ := ry
    cases x with
    | non => cases rx; exact SeqAt.EqAt.int_none a t'
    | bl b => cases rx; exact SeqAt.EqAt.int_bool a t' b
    | int b => obtain ⟨t, rfl⟩ := rx; exact SeqAt.EqAt.int_int a t' b t
    | str b => obtain ⟨t, rfl⟩ := rx; exact SeqAt.EqAt.int_str a t' b t
    | _ => exact absurd (show false = true from fx) Bool.false_ne_true
  | str a =>
    obtain ⟨t', rfl⟩ := ry
    cases x with
    | non => cases rx; exact SeqAt.EqAt.str_none a t'
    | bl b => cases rx; exact SeqAt.EqAt.str_bool a t' b
    | int b => obtain ⟨t, rfl⟩ := rx; exact SeqAt.EqAt.str_int a t' b t
    | str b => obtain ⟨t, rfl⟩ := rx; exact SeqAt.EqAt.str_str a t' b t
    | _ => exact absurd (show false = true from fx) Bool.false_ne_true
  | _ => exact absurd (show false = true from fy) Bool.false_ne_true
def eqU (x : V) (u : Value) : Bool := match u with
  | .none => eqV .non x
  | .bool b => eqV (.bl b) x
  | .int i _ => eqV (.int i) x
  | .str z _ => eqV (.str z) x
  | _ => false
theorem eqU_of {x y : V} {u : Value} (r : RelV y u) (f : flatV y = true) : eqU x u = eqV y x := by
  cases y with
  | non => cases r; rfl
  | bl b => cases r; rfl
  | int i => obtain ⟨t, rfl⟩ := r; rfl
  | str z => obtain ⟨t, rfl⟩ := r; rfl
  | _ => exact absurd (show false = true from f) Bool.false_ne_true
theorem any_eqU {x : V} : ∀ {xs : List V} {us : List Value}, Vals xs us → xs.all flatV = true → us.any (eqU x) = xs.any fun y => eqV y x
  | _, _, .nil, _ => rfl
  | y :: xs, u :: us, .cons r t, f => by
    rw [List.all_cons, Bool.and_eq_true] at f
    rw [List.any_cons, List.any_cons, eqU_of r f.1, any_eqU t f.2]
theorem mem_eqAt {A : Around} {s : Shared} {x : V} {v : Value} (rx : RelV x v) (fx : flatV x = true) : ∀ {xs : List V} {us : List Value}, Vals xs us → xs.all flatV = true → ∀ u ∈ us, SeqAt.EqAt A s u v (eqU x u)
  | _, _, .nil, _ => fun u hu => by cases hu
  | y :: xs, u :: us, .cons r t, f => fun u' hu => by
    rw [List.all_cons, Bool.and_eq_true] at f
    rcases List.mem_cons.mp hu with rfl | hu
    · rw [eqU_of r f.1]; exact eqAt_V r rx f.1 fx
    · exact mem_eqAt rx fx t f.2 u' hu
def inV (x : V) (xs : List V) : Bool := xs.any fun y => eqV y x
def rIn (K : PySem.W.Frag) (neg : Bool) : R2 := fun x y H Q => ∃ p xs, y = .ref p ∧ (SqL K H p xs ∨ SqT K H p xs) ∧ flatV x = true ∧ xs.all flatV = true ∧ Q (.bl (if neg then !inV x xs else inV x xs)) H
theorem op_in_seq : OpR X (compareOp .In) (rIn X.K false) := by
  intro pins s σ H x y v u Q I rx ry h
  obtain ⟨p, xs, rfl, hq, fx, fs, q⟩ := h
  cases ry
  rcases hq with hq | hq
  · obtain ⟨its, r, pl, hz⟩ := I.list hq
    refine SeqAt.in_listAt (eqU x) pl.isList (fun w hw => mem_eqAt rx fx r fs w (by simpa using hw)) ⟨.bl _, H, I, rfl, ?_⟩
    rw [show its.toArray.any (eqU x) = its.any (eqU x) by simp, any_eqU r fs]
    exact q
  · obtain ⟨its, r, pl, hz⟩ := I.tuple hq
    refine SeqAt.in_tupleAt (eqU x) pl (fun w hw => mem_eqAt rx fx r fs w (by simpa using hw)) ⟨.bl _, H, I, rfl, ?_⟩
    rw [show its.toArray.any (eqU x) = its.any (eqU x) by simp, any_eqU r fs]
    exact q
theorem call_len_seq : CallR X (.builtin "len") (fun xs H Q => ∃ p ys, xs = [.ref p] ∧ (SqL X.K H p ys ∨ SqT X.K H p ys) ∧ Q (.int ys.length) H) := by
  intro pins s σ H xs us Q I r h
  obtain ⟨p, ys, rfl, hq, q⟩ := h
  obtain ⟨u, rfl, rx⟩ := vals1 r
  cases rx
  have hn := line63
  rcases hq with hq | hq
  · obtain ⟨its, r', pl, hz⟩ := I.list hq
    have hlen := r'.length
    exact Calls.call_len_list pl.isList (by simp only [List.size_toArray] <;> omega) ⟨.int ys.length, H, I.tok _, ⟨s.toks + 1, by rw [List.size_toArray, hlen]⟩, q⟩
  · obtain ⟨its, r', pl, hz⟩ := I.tuple hq
    have hlen := r'.length
    exact len_tuple pl (by simp only [List.size_toArray] <;> omega) ⟨.int ys.length, H, I.tok _, ⟨s.toks + 1, by rw [List.size_toArray, hlen]⟩, q⟩
theorem call_len_str : CallR X (.builtin "len") (fun xs H Q => ∃ z, xs = [.str z] ∧ z.length ≤ sizeLine ∧ Q (.int z.length) H) := by
  intro pins s σ H xs us Q I r h
  obtain ⟨z, rfl, hz, q⟩ := h
  obtain ⟨u, rfl, t, rfl⟩ := vals1 r
  have hn := line63
  exact len_str (by omega) ⟨.int z.length, H, I.tok _, ⟨_, rfl⟩, q⟩
theorem call_list_of : CallR X (.type "list") (fun xs H Q => ∃ p ys, xs = [.ref p] ∧ (SqL X.K H p ys ∨ SqT X.K H p ys) ∧ ∀ l, H l = none → Q (.ref l) (upd H l (.lst ys))) := by
  intro pins s σ H xs us Q I r h
  obtain ⟨p, ys, rfl, hq, q⟩ := h
  obtain ⟨u, rfl, rx⟩ := vals1 r
  cases rx
  have fin : ∀ (its : List Value), Vals ys its → ys.length ≤ sizeLine → ∀ (h' : Heap) (c' : Nat), (∀ b o', s.heap.get? b = some o' → h'.get? b = some o') →
      h'.get? s.heap.objs.size = some { cls := .type "list", dict := none, data := .seq its.toArray c', slots := #[] } → EP X pins σ Q (.ref s.heap.objs.size) { s with heap := h' } := fun its r' hz h' c' kp e =>
    ⟨.ref s.heap.objs.size, _, I.laid (t' := s.toks) kp (Nat.le_refl _) (show ObjOk X.prog X.w _ h' _ (.lst ys) from ⟨hz, its, c', r', e⟩), rfl, q _ (I.hok.fresh (Nat.le_refl _))⟩
  rcases hq with hq | hq
  · obtain ⟨its, r', pl, hz⟩ := I.list hq
    have hlen := r'.length
    obtain ⟨o, ho, hc, n, hd⟩ := pl.isList
    exact call_list_seq p (.inl rfl) ho hc hd (fun h' c' kp e => fin its r' hz h' c' kp e) (by simp only [List.size_toArray] <;> omega)
  · obtain ⟨its, r', pl, hz⟩ := I.tuple hq
    have hlen := r'.length
    obtain ⟨o, ho, hc, n, hd⟩ := pl
    exact call_list_seq p (.inr rfl) ho hc hd (fun h' c' kp e => fin its r' hz h' c' kp e) (by simp only [List.size_toArray] <;> omega)
def tyV (K : PySem.W.Frag) (T : String) (x : V) (H : Hp) : Prop := match x with
  | .str _ => T = "str"
  | .int _ => T = "int"
  | .ref p => (T = "list" ∧ ∃ xs, SqL K H p xs) ∨ (T = "tuple" ∧ ∃ o, K.lookup p = some o ∧ o.cls = .type "tuple" ∧ o.dict = none) ∨
      (T = "dict" ∧ ((∃ kvs, H p = some (.dK kvs)) ∨ ∃ kvs, H p = some (.dT kvs))) ∨ (T = "set" ∧ ∃ S n, H p = some (.set S n))
  | _ => False
theorem tyV_is {pins : List (Addr × Obj)} {σ : St} {H : Hp} {s : Shared} {T : String} {x : V} {v : Value} (I : Inv X pins σ H s) (r : RelV x v) (ty : tyV X.K T x H) :
    s.TypeIs v T ∧ ∀ a, v = .ref a → ∃ ob, s.heap.get? a = some ob ∧ ob.dict = none := by
  cases x with
  | str z =>
    obtain ⟨t, rfl⟩ := r
    cases (show T = "str" from ty)
    exact ⟨typeIs_str s z t, fun _ e => nomatch e⟩
  | int i =>
    obtain ⟨t, rfl⟩ := r
    cases (show T = "int" from ty)
    exact ⟨typeIs_int s i t, fun _ e => nomatch e⟩
  | ref p =>
    cases r
    rcases ty with ⟨rfl, xs, hq⟩ | ⟨rfl, o, hk, hc, hd⟩ | ⟨rfl, hk⟩ | ⟨rfl, S, n, hk⟩
    · obtain ⟨its, _, pl, _⟩ := I.list hq
      refine ⟨pl.isList.typeIs, fun a e => ?_⟩
      cases e
      obtain ⟨o, n, e, c, hd, _⟩ := pl
      exact ⟨o, e, hd⟩
    · refine ⟨⟨o, I.kIn p o hk, hc⟩, fun a e => ?_⟩
      cases e
      exact ⟨o, I.kIn _ o hk, hd⟩
    · have z : ∃ o, s.heap.get? p = some o ∧ o.ExactDict := by
        rcases hk with ⟨kvs, hk⟩ | ⟨kvs, hk⟩
        · obtain ⟨_, _, _, _, o, _, _, e, ex, _⟩ := I.hok p _ hk
          exact ⟨o, e, ex⟩
        · obtain ⟨_, _, _, _, o, _, _, e, ex, _⟩ := I.hok p _ hk
          exact ⟨o, e, ex⟩
      obtain ⟨o, e, ex⟩ := z
      refine ⟨⟨o, e, ex.1⟩, fun a e2 => ?_⟩
      cases e2
      exact ⟨o, e, ex.2.1⟩
    · obtain ⟨o, _, _, _, e, ex, _⟩ := I.hok p _ hk
      refine ⟨⟨o, e, ex.1⟩, fun a e2 => ?_⟩
      cases e2
      exact ⟨o, e, ex.2.1⟩
  | _ => exact False.elim ty
def tBM0 (K : PySem.W.Frag) (T : String) (r : V → List V → Hp → VK → Prop) (to : TE) : TE := fun σ H Q => to σ H fun x H1 => tyV K T x H1 ∧ r x [] H1 Q
def tBM (K : PySem.W.Frag) (T : String) (r : V → List V → Hp → VK → Prop) (to : TE) (t : TA) : TE := fun σ H Q => to σ H fun x H1 => tyV K T x H1 ∧ t σ H1 fun xs H2 => r x xs H2 Q
variable {o e : Expr} {es : List Expr} {to : TE} {t : TA} {name : Str} {apos cpos : Pos} {T id : String} {r : V → List V → Hp → VK → Prop}
theorem pe_bm (pa : PlainAttrs T) (slot : Slot T name id) (hty : typeOf (.builtin id) = pure (.type "method_descriptor")) (hm : MtR X id r) (ho : PE X o to) (ha : PA X (e :: es) t)
    (hbase : attributeBase o name X.env (eval o X.env) = eval o X.env := by rfl)
    (hfew : ((backTo cpos (starEach (e :: es) X.env)).all (fun x => !x.1) && (backToKw cpos (keywordEach [] X.env)).all (fun x => x.1.isSome)
      && decide ((e :: es).length + ([] : List Keyword).length + (if ([] : List Keyword).isEmpty then 0 else 1) < 30)) = true := by rfl)
    (hline : (apos.endLine == cpos.line) = true := by rfl) (hs : starEach (e :: es) X.env = (false, eval e X.env) :: starEach es X.env := by rfl) (hplain : (backTo cpos (starEach es X.env)).any (·.1) = false := by rfl) :
    PE X (.Call (.Attribute o name apos) (e :: es) [] cpos) (tBM X.K T r to t) := by
  intro pins s σ H Q I h
  refine wpAny_Call_method_late hbase hfew hline rfl (thn (ho pins s σ H _ I h) fun v s1 ⟨x, H1, I1, r1, ty, q1⟩ => ?_)
  obtain ⟨h1, h2⟩ := tyV_is I1 r1 ty
  refine ⟨T, id, pa, slot, hty, h1, h2, ?_⟩
  have hA := ha cpos pins s1 σ H1 _ I1 q1
  rw [hs] at hA ⊢
  refine Calls.callWith_builtin (by show (false || (backTo cpos (starEach es X.env)).any (·.1)) = false; rw [hplain] <;> rfl) (Calls.evalArgs_plain ?_)
  exact thn hA fun us s2 ⟨vs, H2, I2, r2, q2⟩ => hm pins s2 σ H2 x vs v us Q I2 r1 r2 q2
/- xs.append(e), list.index on a module's tuple .. are MtR facts of 06m -/
end
end L2
namespace L2
open PySem PySem.Spec PyProof.Rows
def MtM (X : Cx) (id : String) (r : V → List V → Hp → VK → Prop) : Prop :=
  ∀ (pins : List (Addr × Obj)) (s : Shared) (σ : St) (H : Hp) (x : V) (xs : List V) (v : Value) (us : List Value) (Q : VK), Inv X pins σ H s → RelV x v → Vals xs us → r x xs H Q →
    wpAny (model X.prog X.w) X.A (call (.builtin id) (v :: us)) (EP X pins σ Q) X.xe s
theorem Vals.one : ∀ {x : V} {us : List Value}, Vals [x] us → ∃ u, us = [u] ∧ RelV x u
  | _, _, .cons r .nil => ⟨_, rfl, r⟩
section
variable {X : Cx} {pins : List (Addr × Obj)} {σ : St} {H : Hp} {s : Shared} {l b : Addr} {xs ys zs : List V}
theorem Inv.lset {its its' : List Value} {n : Nat} {f : Array Value → Array Value} {t' : Nat} (I : Inv X pins σ H s) (hH : H l = some (.lst xs))
    (e : s.heap.get? l = some { cls := .type "list", data := .seq its.toArray n }) (hf : f its.toArray = its'.toArray) (hv : Vals ys its') (hz : ys.length ≤ sizeLine) :
    Inv X pins σ (upd H l (.lst ys)) { s with heap := s.heap.update l (Obj.mapSeq f), toks := t' } := by
  have q := PySem.IsL.update e f
  rw [hf] at q
  refine I.write (x := l) (e := l) (by rw [hH]; exact trivial) (.inl rfl) (fun b' u hb hu => (Heap.get?_update_other s.heap (Obj.mapSeq f) (Ne.symm hb)).trans hu) ⟨_, q⟩ ?_
  exact ⟨hz, its', _, hv, q⟩
theorem Inv.lnew {its : List Value} {t' : Nat} (I : Inv X pins σ H s) (hv : Vals ys its) (hz : ys.length ≤ sizeLine) :
    Inv X pins σ (upd H s.heap.objs.size (.lst ys)) { s with heap := s.heap.push { cls := .type "list", data := .seq its.toArray }, toks := t' } :=
  I.laid (fun _ _ q => Heap.get?_push_of_some _ q) (Nat.le_refl _) ⟨hz, its, 0, hv, Heap.get?_push_size _ rfl⟩
theorem Inv.fresh (I : Inv X pins σ H s) : H s.heap.objs.size = none := I.hok.fresh (Nat.le_refl _)
theorem Inv.lstM (I : Inv X pins σ H s) (hH : H l = some (.lst xs)) : xs.length ≤ sizeLine ∧ ∃ (its : List Value) (n : Nat), Vals xs its ∧ xs.length = its.length ∧ s.heap.get? l = some { cls := .type "list", data := .seq its.toArray n } := by
  obtain ⟨z, its, n, r, e⟩ := I.hok l _ hH
  exact ⟨z, its, n, r, r.length, e⟩
end
section
variable {X : Cx}
def rAppend : V → List V → Hp → VK → Prop := fun x vs H Q => ∃ l xs y, x = .ref l ∧ vs = [y] ∧ H l = some (.lst xs) ∧ xs.length < sizeLine ∧ Q .non (upd H l (.lst (xs ++ [y])))
theorem mt_append : MtM X "list.append" rAppend := by
  intro pins s σ H x vs v us Q I rx rv h
  obtain ⟨l, xs, y, rfl, rfl, hH, hz, q⟩ := h
  cases rx
  obtain ⟨u, rfl, ru⟩ := rv.one
  obtain ⟨z, its, n, r, hl, e⟩ := I.lstM hH
  refine call_meets F.slot_list_append ⟨_, e, rfl⟩ F.entry_list_append (F.args_list_append_2 _ _) (PySem.list_append l its.toArray n u (by rw [List.size_toArray]; omega)) ⟨e, ?_⟩
  refine ⟨.non, _, I.lset (its' := its ++ [u]) hH e (by simp) (r.append (.cons ru .nil)) ?_, rfl, q⟩
  rw [List.length_append, List.length_singleton]
  omega
def rExtend : V → List V → Hp → VK → Prop := fun x vs H Q => ∃ l b xs zs, x = .ref l ∧ vs = [.ref b] ∧ H l = some (.lst xs) ∧ H b = some (.lst zs) ∧ xs.length + zs.length ≤ sizeLine ∧ Q .non (upd H l (.lst (xs ++ zs)))
def rPop : V → List V → Hp → VK → Prop := fun x vs H Q => ∃ l xs y, x = .ref l ∧ vs = [] ∧ H l = some (.lst xs) ∧ xs[xs.length - 1]? = some y ∧ Q y (upd H l (.lst xs.dropLast))
def rPopAt : V → List V → Hp → VK → Prop := fun x vs H Q => ∃ l xs i k y, x = .ref l ∧ vs = [.int i] ∧ H l = some (.lst xs) ∧ -(2 ^ 63) ≤ i ∧ i < 2 ^ 63 ∧ seqIndex? i xs.length = some k ∧ xs[k]? = some y ∧ Q y (upd H l (.lst (xs.eraseIdx k)))
def rReverse : V → List V → Hp → VK → Prop := fun x vs H Q => ∃ l xs, x = .ref l ∧ vs = [] ∧ H l = some (.lst xs) ∧ Q .non (upd H l (.lst xs.reverse))
def rClear : V → List V → Hp → VK → Prop := fun x vs H Q => ∃ l xs, x = .ref l ∧ vs = [] ∧ H l = some (.lst xs) ∧ Q .non (upd H l (.lst []))
def rCat : R2 := fun x y H Q => ∃ l b xs zs, x = .ref l ∧ y = .ref b ∧ H l = some (.lst xs) ∧ H b = some (.lst zs) ∧ xs.length + zs.length ≤ sizeLine ∧ ∀ p, H p = none → Q (.ref p) (upd H p (.lst (xs ++ zs)))
theorem op_cat : OpR X (binaryOp .Add) rCat := by
  intro pins s σ H x y v u Q I rx ry h
  obtain ⟨l, b, xs, zs, rfl, rfl, hH, hB, hz, q⟩ := h
  cases rx
  cases ry
  obtain ⟨z, its, n, r, hl, e⟩ := I.lstM hH
  obtain ⟨z2, its2, n2, r2, hl2, e2⟩ := I.lstM hB
  refine PySem.P.add_list e e2 ?_ (by rw [List.size_toArray, List.size_toArray]; omega)
  have ea : its.toArray ++ its2.toArray = (its ++ its2).toArray := by simp
  rw [ea]
  exact ⟨.ref _, _, I.lnew (t' := s.toks) (r.append r2) (by rw [List.length_append]; omega), rfl, q _ I.fresh⟩
def rRep : R2 := fun x y H Q => ∃ l k xs, x = .ref l ∧ y = .int k ∧ H l = some (.lst xs) ∧ -(2 ^ 63) ≤ k ∧ k < 2 ^ 63 ∧ xs.length * k.toNat ≤ sizeLine ∧
  ∀ p, H p = none → Q (.ref p) (upd H p (.lst (List.replicate k.toNat xs).flatten))
end
section
variable {prog : Program} {w : World} {A : Around} {E : Value → Shared → Prop} {s : Shared}
set_option maxRecDepth 100000 in
end
section
variable {X : Cx}
end
end L2
namespace Att
open PySem PySem.W PySem.Calls PyProof.Rows
theorem ints_of_wellAll {P : Params} {h : Heap} : ∀ (ns : List Int) (vs : List Value), WellAll P h vs (ns.map WData.int) → IntsAre vs ns := by
  intro ns
  induction ns with
  | nil =>
    intro vs w
    rw [List.map_nil] at w
    cases w
    exact .nil
  | cons n ns ih =>
    intro vs w
    rw [List.map_cons] at w
    cases w with
    | cons a b =>
      cases a
      exact .cons _ _ (ih _ b)
theorem script_of {l : OpenLaw} {n : Nat} (hn : l.most = some n) {P : Params} {h : Heap} {args : List WData} {vals : List Value}
    (hpre : l.row.toRowW.claim.pre args = true) (hwl : WellAll P h vals args) :
    ∃ a vs ns, vals = [Value.ref a] ∧ args = [WData.list (ns.map WData.int)] ∧ h.get? a = some { cls := .type "list", data := .seq vs.toArray } ∧ IntsAre vs ns ∧ ns.length ≤ n := by
  have hsh : WShape.hasAll [] args [.list .int] = true := (pre_splitW hpre).1
  have hc : l.pre.holds [] { args := args } = true := (pre_splitW hpre).2
  obtain ⟨d, r, rfl, h1, h2⟩ := hasAllW_cons hsh
  obtain rfl := hasAllW_nil h2
  obtain ⟨xs, rfl, h3⟩ := hasW_list h1
  obtain ⟨ns, rfl⟩ := items_int h3
  have hlen : ns.length ≤ n := by
    unfold OpenLaw.pre at hc
    have h4 : (WTm.not (.lt (.lit (.int (n : Int))) (.len (.arg 0)))).holds [] { args := [.list (ns.map .int)] } = true := by
      have h4 := (holds_andW hc).1
      rw [hn] at h4
      exact h4
    have h5 := condW_of h4 (w_not (w_lt w_lit (w_len_list (w_arg rfl))))
    rw [List.length_map] at h5
    refine Nat.le_of_not_lt fun q => ?_
    have q' : (n : Int) < ((ns.length : Nat) : Int) := by omega
    first
      | (rw [decide_eq_true q'] at h5; exact absurd h5 (by decide))
      | (simp at h5; omega)
  cases hwl with
  | cons w1 w2 =>
    cases w2
    cases w1 with
    | list ho hall => exact ⟨_, _, ns, rfl, rfl, ho, ints_of_wellAll ns _ hall, hlen⟩
theorem post_true (l : OpenLaw) (args : List WData) : l.row.toRowW.claim.post args (.bool true) args = true :=
  postW_of (r := l.row.toRowW) (X := (true == true))
    (show WShape.has [] (.bool true) .bool = true by first | rfl | decide | simp [WShape.has, WShape.arms, WShape.armsAll])
    (show (WTm.eq .res (.lit (.bool true))).value [] { args := args, res := some (.bool true), after := args } = some (.bool (true == true)) from w_eq_bool (w_res rfl) w_lit) rfl
theorem attach_call {l : OpenLaw} {n : Nat} {q : Program} {loose : List Str} {XP : (Str → Option Value) → Heap → Prop} {YP : World → Heap → Prop} {d : DefRec}
    (hn : l.most = some n) (hdf : d.params.defaults = [])
    (call : ∀ (w : World) (s₀ s₁ : Shared) (mg mb : Str → Option Value) (fa : Addr) (o : Obj) (pm cd doc : Value) (a : Addr) (vs : List Value) (ns : List Int),
      Ground q loose [] XP w s₀ mg mb s₁.heap → YP w s₁.heap →
      s₁.heap.get? fa = some o → o.data = .func (docDef d.name d.params d.body d.scope pm cd doc) → s₁.heap.CodeRec cd d.name → mg d.name = some (.ref fa) →
      s₁.heap.get? a = some { cls := .type "list", data := .seq vs.toArray } → IntsAre vs ns → ns.length ≤ n → s₁.gens = #[] →
      codeAny (model l.prog w) callerA (.call (.ref fa) ⟨[.ref a], []⟩) (fun r s' => r = .ok (.ret (.bool true)) ∧ OldK s₁.heap s'.heap ∧ s'.os = s₁.os ∧ AllBare s'.gens) s₁) :
    WalkO q loose XP YP l.row.toRowW d [] (fun f vs => PySem.call f vs) := by
  intro w s₀ s₁ mg mb G Y fa o pm cd doc dV kV ho hd hcd hD hmg hg args vals as hpre hlay hrd hwl hlo
  obtain rfl : dV = .none := Dflts.none hD hdf
  obtain rfl : kV = .none := Dflts.noKw hD
  obtain ⟨a, vs, ns, rfl, rfl, hobj, hints, hlen⟩ := script_of hn hpre hwl
  refine enter_call (codeAny_mono (call w s₀ s₁ mg mb fa o pm cd doc a vs ns G Y ho (fd_plain hd) hcd hmg hobj hints hlen hg) fun r s' hq => ?_)
  obtain ⟨rfl, h2, h3, h4⟩ := hq
  exact ⟨.inl ⟨.bool true, .bool true, [], rfl, fun _ => rfl, .bool true, post_true l _, fun _ => ⟨List.Pairwise.nil, fun _ hm => (nomatch hm)⟩⟩, h2, h3, h4⟩
section
variable {prog : Program} {w : World} {A : Around} {E : Value → Shared → Prop} {s : Shared} {K : Frag}
def noObjs (h : Heap) : Heap := { h with objs := #[] }
def ledger (h : Heap) (L d : Addr) : List (Addr × Obj) := (List.range h.objs.size).filterMap fun a => if a = L ∨ a = d then none else (h.get? a).map fun o => (a, o)
end
end Att
namespace L2
open PySem PySem.Spec PyProof.Rows
theorem vals_ints : ∀ {vs : List Value} {ns : List Int}, IntsAre vs ns → Vals (ns.map V.int) vs
  | _, _, .nil => .nil
  | _, _, .cons n t h => .cons ⟨t, rfl⟩ (vals_ints h)
def Only (H : Hp) : Prop := ∀ b, H b = none ∨ ∃ o xs, H b = some (.frz o (.lst xs))
theorem law_call {P : Program} {w : World} {K : PySem.W.Frag} {mg mb : Str → Option Value} {CX : CXT} {k : Nat} {fa a : Addr} {fd : FuncData} {x : Str} {sp : Sp} {s₁ : Shared} {vs : List Value} {ns : List Int}
    (KX : K.In s₁.heap) (hns : s₁.heap.Ns mainGlobals mg) (hb : s₁.heap.Ns builtinsNs mb) (hbb : ∀ x : Str, x ≠ "__name__" → mb x = bootBuiltins x) (hlim : s₁.heap.NoLimit) (hg : s₁.gens = #[])
    (ha : s₁.heap.get? a = some { cls := .type "list", data := .seq vs.toArray }) (hi : IntsAre vs ns) (hl : ns.length ≤ sizeLine) (hr : Room k callerA)
    (F : ∀ base : Heap, K.In base → base.Ns mainGlobals mg → FnOk P w K mg base CX k fa fd [x] sp) (hbind : ∀ (s : Shared) (u : Value), BindsTo s fd ⟨[u], []⟩ [(x, u)])
    (hsp : ∀ H : Hp, Only H → SqL K H a (ns.map V.int) → sp [.ref a] H (fun v _ => v = .bl true) fun _ _ _ => False)
    (hCX : ∀ H e s', CX [] H s₁ (fun _ _ _ => False) e s' → False) :
    codeAny (model P w) callerA (.call (.ref fa) ⟨[.ref a], []⟩) (fun r s' => r = .ok (.ret (.bool true)) ∧ OldK s₁.heap s'.heap ∧ s'.os = s₁.os ∧ AllBare s'.gens) s₁ := by
  have rv := vals_ints hi
  have lenV := hi.length
  have core : ∀ H : Hp, Only H → SqL K H a (ns.map V.int) → HOk P w H s₁.heap → (∀ b, H b ≠ none → b = a) → (H a ≠ none → K.lookup a = none) →
      codeAny (model P w) callerA (.call (.ref fa) ⟨[.ref a], []⟩) (fun r s' => r = .ok (.ret (.bool true)) ∧ OldK s₁.heap s'.heap ∧ s'.os = s₁.os ∧ AllBare s'.gens) s₁ := by
    intro H hO hS hok hA hK
    have base_of : ∀ {b : Addr} {o : Obj}, s₁.heap.get? b = some o → H b = none → (hidT s₁.heap H).get? b = some o := fun e n => hidT_get e n
    have noA : ∀ {b : Addr} {o : Obj} {es : Array DictEntry} {ep : Nat}, s₁.heap.get? b = some o → o.data = .dict es ep → H b = none := fun {b o es ep} e d => by
      cases q : H b with
      | none => rfl
      | some u =>
        have e' : b = a := hA b (by rw [q]; simp)
        subst e'
        rw [ha] at e; cases e
        have d' : Data.seq vs.toArray _ = Data.dict es ep := d
        cases d'
    have nsK : ∀ {b : Addr} {m : Str → Option Value}, s₁.heap.Ns b m → (hidT s₁.heap H).Ns b m := fun {b m} ⟨o, es, ep, e, d, r⟩ => ⟨o, es, ep, base_of e (noA e d), d, r⟩
    have hKb : K.In (hidT s₁.heap H) := fun b o e => base_of (KX b o e) (by
      cases q : H b with
      | none => rfl
      | some u =>
        have e' : b = a := hA b (by rw [q]; simp)
        subst e'
        rw [hK (by rw [q]; simp)] at e; cases e)
    have hM : Mod K mg (hidT s₁.heap H) := ⟨hKb, nsK hns, ⟨mb, nsK hb, hbb⟩, let ⟨mc, h1, h2⟩ := hlim; ⟨mc, nsK h1, h2⟩⟩
    have e0 : Env0 P w K mg (hidT s₁.heap H) callerA [] s₁ H := ⟨rfl, hM, fun b o e => of_hidT e, Nat.le_of_eq (hidT_size _ _), trivial, fun b hb => absurd (show b ∈ ([] : List Addr) from hb) (by simp), hok, .of_eq hg⟩
    refine codeAny_mono ((F _ hKb (nsK hns)).run callerA [] s₁ H ⟨[.ref a], []⟩ [.ref a] [.ref a] _ _ hr e0 (hbind s₁ (.ref a)) (.cons rfl .nil) (hsp H hO hS)) fun r s' h => ?_
    cases r with
    | error e => exact (hCX H e s' h).elim
    | ok fl =>
      cases fl with
      | next => exact False.elim h
      | brk => exact False.elim h
      | cont => exact False.elim h
      | ret u =>
        obtain ⟨v, H', os, bare, un, hok', r', q⟩ := h
        have q' : v = .bl true := q
        subst q'
        obtain rfl : u = Value.bool true := r'
        refine ⟨rfl, OldK.of_keep fun b o e => ?_, os, bare⟩
        cases q : H b with
        | none => exact un.keep b o e q (by intro z; exact absurd (show b ∈ ([] : List Addr) from z) (by simp)) (by simp)
        | some u =>
          rcases hO b with z | ⟨ob, xs, z⟩
          · rw [q] at z; cases z
          · have z2 := un.frzs b ob _ z
            obtain ⟨e1, _⟩ := hok b _ z
            obtain ⟨e2, _⟩ := hok' b _ z2
            rw [e] at e1; cases e1
            exact e2
  cases hk : K.lookup a with
  | some o =>
    have e := KX a o hk
    rw [ha] at e
    cases e
    refine core (fun _ => none) (fun _ => .inl rfl) (.inr ⟨_, vs.toArray, _, hk, rfl, rfl, rfl, by rw [List.size_toArray, lenV]; exact hl, by simpa using rv⟩) (fun b u z => by have z' : (none : Option HO) = some u := z; cases z') (fun b z => absurd rfl z) fun z => absurd rfl z
  | none =>
    refine core (fun b => if b = a then some (.frz { cls := .type "list", data := .seq vs.toArray } (.lst (ns.map V.int))) else none) (fun b => ?_) (.inl (.inr ⟨{ cls := .type "list", data := .seq vs.toArray }, if_pos rfl⟩)) (fun b u z => ?_) (fun b z => ?_) fun _ => hk
    · by_cases hb : b = a
      · exact .inr ⟨_, _, if_pos hb⟩
      · exact .inl (if_neg hb)
    · by_cases hb : b = a
      · have z' := (if_pos hb).symm.trans z
        cases z'
        subst hb
        exact ⟨ha, by rw [List.length_map]; exact hl, vs, _, rv, ha⟩
      · have z' := (if_neg hb).symm.trans z
        cases z'
    · by_cases hb : b = a
      · exact hb
      · exact absurd (if_neg hb) z
end L2
namespace L2
open PySem PySem.Spec PyProof.Rows
abbrev KOf {K : PySem.W.Frag} {h : Heap} (_ : K.In h) : PySem.W.Frag := K
theorem walk_of {l : PySem.W.OpenLaw} {n k : Nat} {q : Program} {loose : List Str} {XP : (Str → Option Value) → Heap → Prop} {YP : World → Heap → Prop} {d : DefRec} {K : Params → PySem.W.Frag} {CX : World → CXT} {sp : World → Sp} {x : Str}
    (hn : l.most = some n) (hn2 : n ≤ sizeLine) (hdf : d.params.defaults = []) (hr : Room k callerA)
    (hY : ∀ (w : World) (h : Heap), YP w h → (K w.params).In h)
    (F : ∀ (w : World) (mg : Str → Option Value) (fa : Addr) (h : Heap), (K w.params).In h → h.Ns mainGlobals mg → mg d.name = some (.ref fa) →
      ∃ fd : FuncData, (∀ (s : Shared) (u : Value), BindsTo s fd ⟨[u], []⟩ [(x, u)]) ∧
        ∀ base : Heap, (K w.params).In base → base.Ns mainGlobals mg → FnOk l.prog w (K w.params) mg base (CX w) k fa fd [x] (sp w))
    (hsp : ∀ (w : World) (H : Hp) (a : Addr) (ns : List Int), ns.length ≤ n → Only H → SqL (K w.params) H a (ns.map V.int) → sp w [.ref a] H (fun v _ => v = .bl true) fun _ _ _ => False)
    (hCX : ∀ (w : World) (H : Hp) (s : Shared) (e : Value) (s' : Shared), CX w [] H s (fun _ _ _ => False) e s' → False) :
    PySem.W.WalkO q loose XP YP l.row.toRowW d [] (fun f vs => PySem.call f vs) := by
  refine Att.attach_call hn hdf fun w s₀ s₁ mg mb fa o pm cd doc a vs ns G Y ho hd hcd hmg hobj hints hlen hg => ?_
  have KX := hY w _ Y
  obtain ⟨fd, hb, hF⟩ := F w mg fa _ KX G.T.g hmg
  exact law_call KX G.T.g G.T.b G.T.builtins G.T.nolimit hg hobj hints (Nat.le_trans hlen hn2) hr hF hb (fun H hO hS => hsp w H a ns hlen hO hS) fun H e s' => hCX w H s₁ e s'
end L2
/- THE LAST THEOREM (shape; LID, My.* are yours):
   My.Adr: a structure of the addresses that your layer names (classes, functions); My.Txt K t: a structure (Prop) of the equations over K;
   My.txt_mk : {K} {implicit addresses ..} (e1 : nsIn K mainGlobals "law" = some (some (.ref f))) (e2 : K.lookup f = some ⟨oc, od, .func (fnOf "law" "law" params body scope dV kV doc pm an cdv ct), sl⟩) (e3 : codeIn K cdv "law" = true) .. : ∃ t, My.Txt K t
set_option maxRecDepth 100000 in
set_option maxHeartbeats 0 in
theorem PySem.Challenge.cw_LID_holds : PySem.Challenge.rw_LID.Holds := by
  w_on; o_law; k_head; (case hw => w_witness2)
  k_fill
  refine L2.walk_of (l := PySem.Challenge.rw_LID) (n := 63) (k := 40) (x := "script") (CX := fun w => ..) (sp := fun _ => My.sp_law) rfl (by decide) rfl ⟨rfl, by decide, by decide⟩ (fun w h Y => PySem.W.kIn_of Y) ?F ?S ?C
  case F =>
    intro w mg fa h KX G hmg
    have T : ∃ t, My.Txt (L2.KOf KX) t := by
      dsimp only [L2.KOf]                          -- K must stand as «<heap const> w.params» for k_is
      refine' My.txt_mk ?e1 ?e2 ?e3 ..
      (case e1 => PySem.W.k_is)                    -- in the order: a name -> its address -> its object -> its parts
      (case e2 => PySem.W.k_is)
      ..
    obtain ⟨t, T⟩ := T
    have e0 := hmg.symm.trans (PySem.W.mg_of KX G T.law)
    cases e0                                       -- fa is the law's own address
    exact ⟨_, fun s u => .of_eq rfl, fun base kb nb => My.law_fn T kb nb⟩     -- if «.of_eq rfl» comes too early: refine' ⟨_, ?b, fun base kb nb => My.law_fn T kb nb⟩; exact fun s u => .of_eq rfl
  case S => exact fun w H a ns hl hO hS => ..
  case C => exact ..
(the tactic k_is has no namespace: write k_is) -/
namespace L2
open PySem PySem.Spec PyProof.Rows
def inClass (s : Stmt) (j : Nat) : Stmt := match s with
  | .ClassDef _ _ _ body _ _ _ _ _ _ _ => body.getD j (.Pass ⟨0, 0, 0, 0⟩)
  | _ => .Pass ⟨0, 0, 0, 0⟩
def defArgs (s : Stmt) : Arguments := match s with
  | .FunctionDef _ a _ _ _ _ _ _ _ _ => a
  | _ => { posonlyargs := [], args := [], vararg := none, kwonlyargs := [], kw_defaults := [], kwarg := none, defaults := [] }
def defBody (s : Stmt) : List Stmt := match s with
  | .FunctionDef _ _ b _ _ _ _ _ _ _ => b
  | _ => []
def defScope (s : Stmt) : Scope := match s with
  | .FunctionDef _ _ _ _ _ _ sc _ _ _ => sc
  | _ => { kind := .function, names := [], isGenerator := false, isCoroutine := false }
abbrev CX0 : CXT := fun _ _ _ _ _ _ => False
abbrev E0 : XK := fun _ _ _ => False
theorem pass0 {X : Cx} : Passes CX0 X E0 := fun _ _ _ _ _ _ _ h => h.elim
structure Fun (K : PySem.W.Frag) (x qual : Str) (st : Stmt) (f : Addr) (fd : FuncData) : Prop where
  ex : ∃ (oc : Value) (od : Option Addr) (kV doc pm : Value) (an : Option Addr) (cdv ct : Value) (osl : Array (Option Value)),
    fd = PySem.W.fnOf x qual (defArgs st) (defBody st) (defScope st) .none kV doc pm an cdv ct ∧ K.lookup f = some ⟨oc, od, .func fd, osl⟩ ∧ PySem.W.codeIn K cdv qual = true
  kp : PySem.W.keepIn K (.ref f) = true
section
variable {P : Program} {w : World} {K : PySem.W.Frag} {mg : Str → Option Value} {base : Heap}
theorem Fun.ok {x qual : Str} {st : Stmt} {f : Addr} {fd : FuncData} {N ps : List Str} {k : Nat} {sp : Sp} (F : Fun K x qual st f fd) (S : FnScope N ps (defScope st)) (len : ∀ vs H Q E, sp vs H Q E → vs.length = ps.length)
    (hbody : ∀ (cdv : Value) (A : Around) (outer : List Env) (s : Shared) (H : Hp) (vs : List V) (Q : VK) (E : XK), Room k (A.deeper (envOfC qual (defScope st) s.heap.objs.size f cdv)) → sp vs H Q E →
      ∃ t, PSs (cxOf CX0 P w K mg base N qual (defScope st) f cdv A outer s H E).nox (defBody st) t ∧ t { nx := fun _ H' => Q .non H', rt := Q } (start N vs) H) : FnOk P w K mg base CX0 (k + 1) f fd ps sp := by
  obtain ⟨oc, od, kV, doc, pm, an, cdv, ct, osl, rfl, lk, hcd⟩ := F.ex
  refine fn_of lk hcd S len fun A outer s H vs Q E hr hsp => ?_
  obtain ⟨t, h, q⟩ := hbody cdv A outer s H vs Q E hr hsp
  exact ⟨t, h.nox, q⟩
theorem Fun.binds {x qual : Str} {st : Stmt} {f : Addr} {fd : FuncData} {ps : List Str} (F : Fun K x qual st f fd)
    (h : ∀ (kV doc pm : Value) (an : Option Addr) (cdv ct : Value) (us : List Value), us.length = ps.length → bindArgs (PySem.W.fnOf x qual (defArgs st) (defBody st) (defScope st) .none kV doc pm an cdv ct) ⟨us, []⟩ = pure (ps.zip us)) : Binds K fd ps [] := by
  obtain ⟨oc, od, kV, doc, pm, an, cdv, ct, osl, rfl, lk, hcd⟩ := F.ex
  exact .all (h kV doc pm an cdv ct)
theorem fun_mk {x qual : Str} {st : Stmt} {f : Addr} {oc : Value} {od an : Option Addr} {osl : Array (Option Value)} {kV doc pm cdv ct : Value} (l : K.lookup f = some ⟨oc, od, .func (PySem.W.fnOf x qual (defArgs st) (defBody st) (defScope st) .none kV doc pm an cdv ct), osl⟩)
    (c : PySem.W.codeIn K cdv qual = true) (k : PySem.W.keepIn K (.ref f) = true) : Fun K x qual st f (PySem.W.fnOf x qual (defArgs st) (defBody st) (defScope st) .none kV doc pm an cdv ct) := ⟨⟨oc, od, kV, doc, pm, an, cdv, ct, osl, rfl, l, c⟩, k⟩
end
section
variable {X : Cx}
theorem pv (i : Nat) {x : Str} {pos : Pos} (hN : X.N[i]? = some x := by rfl) (hv : Vis X.env.scope x := by first | exact Or.inl rfl | exact Or.inr (Or.inl rfl) | exact Or.inr (Or.inr rfl)) (hd : (x == ("__debug__" : Str)) = false := by decide)
    (hcd : (x == ("__classdict__" : Str)) = false := by decide) : PE X (.Name x pos) (tVar i) := pe_var hN hv hd hcd
end
theorem ite2 {c A B : Prop} [Decidable c] (h1 : c → A) (h2 : ¬ c → B) : if c then A else B := by
  by_cases h : c
  · rw [if_pos h]
    exact h1 h
  · rw [if_neg h]
    exact h2 h
def Same (H H' : Hp) : Prop := ∀ b o, H b = some o → H' b = some o
theorem Same.refl (H : Hp) : Same H H := fun _ _ h => h
theorem Same.trans {H H1 H2 : Hp} (a : Same H H1) (b : Same H1 H2) : Same H H2 := fun c o h => b c o (a c o h)
end L2
namespace L2
open PySem PySem.Spec PyProof.Rows
section
variable {κ : Type} [DecidableEq κ]
end
end L2
set_option autoImplicit false
namespace Dr
theorem pow_pos {p : Int} (h : 2 ≤ p) : ∀ n : Nat, 0 < p ^ n
  | 0 => by simp
  | n + 1 => by
    rw [Int.pow_succ]
    exact Int.mul_pos (pow_pos h n) (by omega)
structure Fac (p x : Int) (d : Nat) (u : Int) : Prop where
  eq : x = u * p ^ d
  un : u % p ≠ 0
def primes : List Int := [2, 3, 5, 7, 11, 13, 17, 19, 23, 29, 31, 37, 41, 43, 47, 53, 59, 61, 67, 71, 73, 79, 83, 89, 97]
def invs (p : Nat) : Bool := (List.range p).all fun r => r == 0 || (List.range p).any fun y => r * y % p == 1
end Dr
namespace L2
open PySem PySem.Spec PyProof.Rows
section
variable {X : Cx}
theorem op_mulW : OpR X (binaryOp .Mult) (rI IntMulOk fun i j => .int (i * j)) := opI fun _ _ _ _ _ _ _ hc q => mul_int q hc
def CDivW (_ j : Int) : Prop := 0 < j ∧ j.natAbs.log2 < 9000
theorem op_fdivW : OpR X (binaryOp .FloorDiv) (rI CDivW fun i j => .int (i / j)) := opI fun i j _ _ _ _ _ hc q => by
  have h1 : (0 : Int) < j := hc.1
  exact floordiv_int (by omega) (by rw [Int.fdiv_eq_ediv_of_nonneg i (by omega)]; exact q) (.inl (PyProof.noPylong_of_log2 hc.2))
end
def Itc (a c : Int) (n : Nat) : It := ⟨fun i _ => i < n, fun i H x H' => H' = H ∧ x = .int (a + i * c), fun i _ => n ≤ i⟩
section
variable {X : Cx} {tg : Expr}
def turns (a b c : Int) : Nat := if a < b then ((b - a - 1) / c + 1).toNat else 0
def iRng3 (ta : TA) : TI := fun σ H R => ta σ H fun vs H1 => ∃ i j c : Int, vs = [.int i, .int j, .int c] ∧ (-(2 ^ 60) ≤ i ∧ i < 2 ^ 60 ∧ -(2 ^ 60) ≤ j ∧ j < 2 ^ 60 ∧ 0 < c ∧ c < 1000) ∧ R (Itc i c (turns i j c)) H1
end
def clsV : V → Value
  | .ty n => .type n
  | .ref a => .ref a
  | _ => .none
def isCls : V → Bool
  | .ty _ => true
  | .ref _ => true
  | _ => false
section
variable {X : Cx}
theorem call_isinst : CallR X (.builtin "isinstance") (fun xs H Q => ∃ x y t b, xs = [x, y] ∧ isCls y = true ∧ TyOf X.K H x t ∧ PySem.W.kitOne X.K t (clsV y) = some b ∧ Q (.bl b) H) := by
  intro pins s σ H xs us Q I r h
  obtain ⟨x, y, t, b, rfl, hy, ty, e, q⟩ := h
  obtain ⟨u, w', rfl, rx, ry⟩ := vals2 r
  have ec : w' = clsV y := by
    cases y <;> first
      | (simp [isCls] at hy; done)
      | exact ry
  subst ec
  exact isinst_ok I rx ty e fun tk => ⟨.bl b, H, I.tok tk, rfl, q⟩
mutual
inductive DatV (K : PySem.W.Frag) (H : Hp) : V → PyData → Prop
  | non : DatV K H .non .none
  | bl (b : Bool) : DatV K H (.bl b) (.bool b)
  | int (i : Int) : DatV K H (.int i) (.int i)
  | str (x : Str) : DatV K H (.str x) (.str x)
  | lst {a : Addr} {xs : List V} {ds : List PyData} : SqL K H a xs → DatVs K H xs ds → DatV K H (.ref a) (.list ds)
  | tup {a : Addr} {xs : List V} {ds : List PyData} : SqT K H a xs → DatVs K H xs ds → DatV K H (.ref a) (.tuple ds)
inductive DatVs (K : PySem.W.Frag) (H : Hp) : List V → List PyData → Prop
  | nil : DatVs K H [] []
  | cons {x : V} {d : PyData} {xs : List V} {ds : List PyData} : DatV K H x d → DatVs K H xs ds → DatVs K H (x :: xs) (d :: ds)
end
theorem DatVs.ints {K : PySem.W.Frag} {H : Hp} : ∀ ns : List Int, DatVs K H (ns.map V.int) (ns.map PyData.int)
  | [] => .nil
  | n :: r => .cons (.int n) (DatVs.ints r)
variable {pins : List (Addr × Obj)} {σ : St} {H : Hp} {s : Shared}
mutual
theorem reads_of (I : Inv X pins σ H s) : ∀ {x : V} {d : PyData} {u : Value}, DatV X.K H x d → RelV x u → ∃ as, Reads s.heap u d as
  | _, _, _, .non, r => by cases r; exact ⟨_, .none⟩
  | _, _, _, .bl b, r => by cases r; exact ⟨_, .bool b⟩
  | _, _, _, .int i, r => by obtain ⟨t, rfl⟩ := r; exact ⟨_, .int i t⟩
  | _, _, _, .str x, r => by obtain ⟨t, rfl⟩ := r; exact ⟨_, .str x t⟩
  | _, _, _, .lst h q, r => by
    cases r
    obtain ⟨its, rv, pl, _⟩ := I.list h
    obtain ⟨o, ho, hc, n, hd⟩ := pl.isList
    obtain ⟨as, ra⟩ := readsAll_of I q rv
    exact ⟨_, .list ho hc hd (by simpa using ra)⟩
  | _, _, _, .tup h q, r => by
    cases r
    obtain ⟨its, rv, pl, _⟩ := I.tuple h
    obtain ⟨o, ho, hc, n, hd⟩ := pl
    obtain ⟨as, ra⟩ := readsAll_of I q rv
    exact ⟨_, .tuple ho hc hd (by simpa using ra)⟩
theorem readsAll_of (I : Inv X pins σ H s) : ∀ {xs : List V} {ds : List PyData} {us : List Value}, DatVs X.K H xs ds → Vals xs us → ∃ as, ReadsAll s.heap us ds as
  | _, _, _, .nil, r => by cases r; exact ⟨_, .nil⟩
  | _, _, _, .cons h q, r => by
    cases r with
    | cons r rr =>
      obtain ⟨as, ra⟩ := reads_of I h r
      obtain ⟨bs, rb⟩ := readsAll_of I q rr
      exact ⟨_, .cons ra rb⟩
end
def rEqD (K : PySem.W.Frag) (neg : Bool) : R2 := fun x y H Q => ∃ d e, DatV K H x d ∧ DatV K H y e ∧ SeqAt.shaped d = true ∧ SeqAt.shaped e = true ∧ Q (.bl (if neg then !PyData.eqv d e else PyData.eqv d e)) H
theorem op_eqD (hu : X.A.units + 64 < cLine) : OpR X (compareOp .Eq) (rEqD X.K false) := by
  intro pins s σ H x y v u Q I rx ry h
  obtain ⟨d, e, hd, he, sd, se, q⟩ := h
  obtain ⟨as, ra⟩ := reads_of I hd rx
  obtain ⟨bs, rb⟩ := reads_of I he ry
  exact eq_dataH ra rb sd se hu (fin_bl I q rfl)
theorem op_neD (hu : X.A.units + 64 < cLine) : OpR X (compareOp .NotEq) (rEqD X.K true) := by
  intro pins s σ H x y v u Q I rx ry h
  obtain ⟨d, e, hd, he, sd, se, q⟩ := h
  obtain ⟨as, ra⟩ := reads_of I hd rx
  obtain ⟨bs, rb⟩ := reads_of I he ry
  exact ne_dataH ra rb sd se hu (fin_bl I q rfl)
theorem eqvAll_ints : ∀ ns ms : List Int, PyData.eqvAll (ns.map PyData.int) (ms.map PyData.int) = decide (ns = ms)
  | [], [] => by simp [PyData.eqvAll]
  | [], _ :: _ => by simp [PyData.eqvAll]
  | _ :: _, [] => by simp [PyData.eqvAll]
  | a :: r, b :: t => by
    simp only [List.map_cons, PyData.eqvAll, PyData.eqv, eqvAll_ints r t]
    by_cases h : a = b <;> by_cases h' : r = t <;> simp [h, h']
end
end L2
namespace Att
open PySem PySem.W PySem.Calls PyProof.Rows
theorem bits_of_lay {ns : List Int} (h : WData.layableAll [WData.list (ns.map WData.int)] = true) : ∀ n, n ∈ ns → Builtin.Int.intBits n ≤ 2 ^ 20 := fun n hn => by
  have h1 := layableW_arg h _ (List.mem_singleton.mpr rfl)
  have h2 := layableW_item h1 (.int n) (List.mem_map.mpr ⟨n, hn, rfl⟩)
  have h3 := (layableW_iff.mp h2).2.2
  simpa only [WData.weight, Builtin.Int.intBits] using h3
theorem attach_callB {l : OpenLaw} {n : Nat} {q : Program} {loose : List Str} {XP : (Str → Option Value) → Heap → Prop} {YP : World → Heap → Prop} {d : DefRec}
    (hn : l.most = some n) (hdf : d.params.defaults = [])
    (call : ∀ (w : World) (s₀ s₁ : Shared) (mg mb : Str → Option Value) (fa : Addr) (o : Obj) (pm cd doc : Value) (a : Addr) (vs : List Value) (ns : List Int),
      Ground q loose [] XP w s₀ mg mb s₁.heap → YP w s₁.heap →
      s₁.heap.get? fa = some o → o.data = .func (docDef d.name d.params d.body d.scope pm cd doc) → s₁.heap.CodeRec cd d.name → mg d.name = some (.ref fa) →
      s₁.heap.get? a = some { cls := .type "list", data := .seq vs.toArray } → IntsAre vs ns → ns.length ≤ n → (∀ n, n ∈ ns → Builtin.Int.intBits n ≤ 2 ^ 20) → s₁.gens = #[] →
      codeAny (model l.prog w) callerA (.call (.ref fa) ⟨[.ref a], []⟩) (fun r s' => r = .ok (.ret (.bool true)) ∧ OldK s₁.heap s'.heap ∧ s'.os = s₁.os ∧ AllBare s'.gens) s₁) :
    WalkO q loose XP YP l.row.toRowW d [] (fun f vs => PySem.call f vs) := by
  intro w s₀ s₁ mg mb G Y fa o pm cd doc dV kV ho hd hcd hD hmg hg args vals as hpre hlay hrd hwl hlo
  obtain rfl : dV = .none := Dflts.none hD hdf
  obtain rfl : kV = .none := Dflts.noKw hD
  obtain ⟨a, vs, ns, rfl, rfl, hobj, hints, hlen⟩ := script_of hn hpre hwl
  refine enter_call (codeAny_mono (call w s₀ s₁ mg mb fa o pm cd doc a vs ns G Y ho (fd_plain hd) hcd hmg hobj hints hlen (bits_of_lay hlay) hg) fun r s' hq => ?_)
  obtain ⟨rfl, h2, h3, h4⟩ := hq
  exact ⟨.inl ⟨.bool true, .bool true, [], rfl, fun _ => rfl, .bool true, post_true l _, fun _ => ⟨List.Pairwise.nil, fun _ hm => (nomatch hm)⟩⟩, h2, h3, h4⟩
end Att
namespace L2
open PySem PySem.Spec PyProof.Rows
def spLaw (K : PySem.W.Frag) : Sp := fun vs H Q _ => ∃ (a : Addr) (ns : List Int), vs = [.ref a] ∧ SqL K H a (ns.map V.int) ∧ ns.length ≤ 63 ∧ (∀ n, n ∈ ns → Builtin.Int.intBits n ≤ 2 ^ 20) ∧ ∀ H', Q (.bl true) H'
theorem walk_law {l : PySem.W.OpenLaw} {k : Nat} {q : Program} {loose : List Str} {XP : (Str → Option Value) → Heap → Prop} {YP : World → Heap → Prop} {d : DefRec} {K : Params → PySem.W.Frag} {CX : World → CXT}
    (hn : l.most = some 63) (hdf : d.params.defaults = []) (hr : Room k callerA)
    (hY : ∀ (w : World) (h : Heap), YP w h → (K w.params).In h)
    (hCX : ∀ (w : World) (H : Hp) (s : Shared) (e : Value) (s' : Shared), CX w [] H s (fun _ _ _ => False) e s' → False)
    (F : ∀ (w : World) (mg : Str → Option Value) (fa : Addr) (h : Heap), (K w.params).In h → h.Ns mainGlobals mg → mg d.name = some (.ref fa) →
      ∃ fd : FuncData, (∀ (s : Shared) (u : Value), BindsTo s fd ⟨[u], []⟩ [("script", u)]) ∧
        ∀ base : Heap, (K w.params).In base → base.Ns mainGlobals mg → FnOk l.prog w (K w.params) mg base (CX w) k fa fd ["script"] (spLaw (K w.params))) :
    PySem.W.WalkO q loose XP YP l.row.toRowW d [] (fun f vs => PySem.call f vs) := by
  refine Att.attach_callB hn hdf fun w s₀ s₁ mg mb fa o pm cd doc a vs ns G Y ho hd hcd hmg hobj hints hlen hbits hg => ?_
  have KX := hY w _ Y
  obtain ⟨fd, hb, hF⟩ := F w mg fa _ KX G.T.g hmg
  exact law_call KX G.T.g G.T.b G.T.builtins G.T.nolimit hg hobj hints (Nat.le_trans hlen (by decide)) hr hF hb (fun H hO hS => ⟨a, ns, rfl, hS, hlen, hbits, fun _ => rfl⟩) fun H e s' => hCX w H s₁ e s'
end L2
namespace L2
open PySem PySem.Spec PyProof.Rows
theorem adr {a b : Addr} (h : @Ne Nat a b) : a ≠ b := h
theorem ltN {h : Heap} {b : Addr} {o : Obj} (e : h.get? b = some o) : @LT.lt Nat instLTNat b h.objs.size := Heap.lt_size e
def ClOk (cells : List (Str × Addr)) : List (Str × Addr) → Prop
  | [] => True
  | y :: r => cells.lookup y.1 = some y.2 ∧ ClOk cells r
theorem ClOk.get {cells : List (Str × Addr)} : ∀ {cl : List (Str × Addr)}, ClOk cells cl → ∀ {x : Str} {c : Addr}, cl.lookup x = some c → cells.lookup x = some c
  | (y, d) :: r, ⟨h, hr⟩, x, c, e => by
    by_cases q : x = y
    · subst q
      simp only [List.lookup_cons, beq_self_eq_true] at e
      cases e
      exact h
    · have q' : (x == y) = false := by simpa using q
      simp only [List.lookup_cons, q'] at e
      exact ClOk.get hr e
def CapsOk (X : Cx) (sc : Scope) (cl : List (Str × Addr)) : List Nat → List Str → Prop
  | [], [] => True
  | j :: js, x :: xs => X.N[j]? = some x ∧ X.env.scope.names.lookup x = some .cell ∧ sc.names.lookup x = some .cell ∧ (cl.lookup x).isSome = true ∧ CapsOk X sc cl js xs
  | _, _ => False
def capV (caps : List Nat) (σ : St) : St := caps.map fun j => (σ[j]?).getD none
def compCx (X : Cx) (N : List Str) (scope : Scope) (cl : List (Str × Addr)) (C : Addr) (s : Shared) (H : Hp) (fp : List Addr) : Cx where
  prog := X.prog
  w := X.w
  K := X.K
  mg := X.mg
  base := X.base
  A := X.A
  N := N
  s₀ := s
  H₀ := H
  env := compEnvC scope cl C X.env
  outer := X.stack
  stack := X.stack
  ex := fp
  fn := fun _ => false
  calm := X.calm
  pn := []
  xe := fun _ _ => False
theorem mem_of_lookup {α : Type} {x : Str} {k : α} : ∀ {l : List (Str × α)}, l.lookup x = some k → (x, k) ∈ l
  | (y, j) :: r, e => by
    by_cases q : x = y
    · subst q
      simp only [List.lookup_cons, beq_self_eq_true] at e
      cases e
      exact .head _
    · have q' : (x == y) = false := by simpa using q
      simp only [List.lookup_cons, q'] at e
      exact .tail _ (mem_of_lookup e)
section
variable {X : Cx} {pins : List (Addr × Obj)} {σ : St} {H : Hp} {s : Shared} {N : List Str} {scope : Scope} {cl : List (Str × Addr)} {C : Addr} {fp : List Addr} {caps : List Nat} {xs : List Str}
theorem comp_ok (I : Inv X pins σ H s) (hcl : ClOk X.env.cells cl) (hk : scope.kind = .function) (hfp : ∀ b ∈ fp, FpOk X pins H b) (hlt : ∀ b ∈ fp, b < s.heap.objs.size)
    (hhas : ((relabel scope X.env).names.all fun y => !(y.2 == .cell || y.2 == .free) || (cl.lookup y.1).isSome) = true) (hC : s.heap.objs.size ≤ C) : (compCx X N scope cl C s H fp).Ok where
  mod := I.ok.mod
  kind := hk
  glob := I.ok.glob
  blt := I.ok.blt
  above := hC
  inj := fun x y c h1 h2 => I.ok.inj x y c (hcl.get h1) (hcl.get h2)
  has := fun x h => by
    have key : ∀ k : NameKind, (k = .cell ∨ k = .free) → (relabel scope X.env).names.lookup x = some k → ∃ c, cl.lookup x = some c := fun k hk e => by
      have h1 := List.all_eq_true.mp hhas _ (mem_of_lookup e)
      have h2 : (cl.lookup x).isSome = true := by
        rcases hk with rfl | rfl <;> simpa using h1
      exact Option.isSome_iff_exists.mp h2
    rcases h with h | h
    · exact key _ (.inl rfl) h
    · exact key _ (.inr rfl) h
  cab := fun x c h => by cases h
  hd := I.ok.hd
  frames := I.ok.frames
  stk := .inl rfl
  exf := fun b hb => ⟨fun z => by
      have h1 : @LT.lt Nat instLTNat b s.heap.objs.size := hlt b hb
      have z' : @Eq Nat b C := z
      have hC' : @LE.le Nat _ s.heap.objs.size C := hC
      omega, fun x c e => (hfp b hb).2.2.2.2.1 x c (hcl.get e)⟩
  bs := I.bs
  bsz := Nat.le_trans I.ok.bsz I.sz
  noex := fun b o e hb => by
    rcases (hfp b hb).2.2.2.1 with z | z
    · exact I.ok.noex b o e z
    · have h1 : @LT.lt Nat _ b X.base.objs.size := Heap.lt_size e
      have h2 := I.ok.bsz
      have z' : @LE.le Nat _ X.s₀.heap.objs.size b := z
      omega
  exfs := fun b hb z => by
    have h1 := I.stkSub b z
    rcases List.mem_cons.mp h1 with q | q
    · exact (hfp b hb).2.1 q
    · exact (hfp b hb).2.2.1 q
  funs := I.stack
  frf := I.stkFree
theorem cap_get : ∀ {caps : List Nat} {xs : List Str}, CapsOk X (relabel scope X.env) cl caps xs → ∀ {i : Nat} {x : Str} {v : V}, xs[i]? = some x → (capV caps σ)[i]? = some (some v) →
    ∃ j : Nat, X.N[j]? = some x ∧ σ[j]? = some (some v) ∧ X.env.scope.names.lookup x = some .cell ∧ (relabel scope X.env).names.lookup x = some .cell ∧ ∃ c, cl.lookup x = some c
  | [], [], _, i, x, v, h, _ => by simp at h
  | j :: js, y :: ys, ⟨h1, h2, h3, h4, hr⟩, 0, x, v, h, e => by
    simp only [List.getElem?_cons_zero, Option.some.injEq] at h
    subst h
    have e' : (σ[j]?).getD none = some v := by simpa [capV] using e
    refine ⟨j, h1, ?_, h2, h3, Option.isSome_iff_exists.mp h4⟩
    cases q : σ[j]? with
    | none => rw [q] at e'; cases e'
    | some o => rw [q] at e'; exact congrArg some e'
  | j :: js, y :: ys, ⟨_, _, _, _, hr⟩, i + 1, x, v, h, e => cap_get hr (by simpa using h) (by simpa [capV] using e)
theorem comp_start (I : Inv X pins σ H s) (hcl : ClOk X.env.cells cl) (hk : scope.kind = .function) (hfp : ∀ b ∈ fp, FpOk X pins H b) (hlt : ∀ b ∈ fp, b < s.heap.objs.size)
    (hhas : ((relabel scope X.env).names.all fun y => !(y.2 == .cell || y.2 == .free) || (cl.lookup y.1).isSome) = true) (hC : s.heap.objs.size ≤ C)
    (hcap : CapsOk X (relabel scope X.env) cl caps xs) (hlen : caps.length = xs.length) {x : Str} {h₁ : Heap} {t : Nat} {m : Str → Option Value} (hn : h₁.Ns C m) (kp : ∀ b o, s.heap.get? b = some o → h₁.get? b = some o) :
    Inv (compCx X (x :: xs) scope cl C s H fp) [] (none :: capV caps σ) H { s with heap := h₁, toks := t } where
  ok := comp_ok I hcl hk hfp hlt hhas hC
  os := rfl
  bare := I.bare
  base := Un.kept kp
  loc := by
    refine ⟨m, hn, fun i y v h1 h2 _ => ?_⟩
    cases i with
    | zero => simp at h2
    | succ i =>
      obtain ⟨j, e1, e2, e3, e4, c, e5⟩ := cap_get (X := X) (scope := scope) hcap (i := i) (by simpa [compCx] using h1) (by simpa using h2)
      obtain ⟨m₀, _, hl⟩ := I.loc
      obtain ⟨u, r, lk⟩ := hl j y v e1 e2 (.inr (.inl e3))
      refine ⟨u, r, .inr ⟨.inl e4, c, e5, ?_⟩⟩
      rcases lk with ⟨z, _⟩ | ⟨_, c', q1, q2⟩
      · have z' : X.env.scope.names.lookup y = some .local := z
        rw [e3] at z'
        cases z'
      · rw [hcl.get e5] at q1
        cases q1
        obtain ⟨o, ho, hd⟩ := q2
        exact ⟨o, kp _ _ ho, hd⟩
  cell := fun y c e => by
    obtain ⟨v, o, ho, hd⟩ := I.cell y c (hcl.get e)
    exact ⟨v, o, kp _ _ ho, hd⟩
  free := I.hok.fresh hC
  freeC := fun y c e => I.freeC y c (hcl.get e)
  pin := fun p hp => by
    have hp' : p ∈ ([] : List (Addr × Obj)) := hp
    cases hp'
  hok := I.hok.kept kp
  len := by simp [compCx, capV, hlen]
end
def PTs (X : Cx) (ifs : List Expr) (t : TT) : Prop :=
  ∀ (pins : List (Addr × Obj)) (s : Shared) (σ : St) (H : Hp) (Q : Bool → Hp → Prop), Inv X pins σ H s → t σ H Q →
    wpAny (model X.prog X.w) X.A (forIn ifs true fun c r => if r = true then do let ok ← isTrue c X.env (eval c X.env); pure (ForInStep.yield ok) else pure (ForInStep.yield r)) (TP X pins σ Q) X.xe s
theorem pts_nil {X : Cx} : PTs X [] (fun _ H Q => Q true H) := fun _ _ _ H _ I h => wpAny_tests_nil ⟨H, I, h⟩
theorem pts_one {X : Cx} {c : Expr} {t : TT} (h : PT X c t) : PTs X [c] t := fun pins s σ H Q I q => wpAny_tests_one (h pins s σ H Q I q)
def tComp (caps : List Nat) (wi : TI) (tt : TT) (te : TE) : TE := fun σ H Q => wi σ H fun J H1 => ∃ (n : Nat) (W : Nat → List V → Hp → Prop), n ≤ sizeLine ∧ W 0 [] H1 ∧ ∀ i ys H2, W i ys H2 →
  (J.stop i H2 ∧ ∀ p, H2 p = none → Q (.ref p) (upd H2 p (.lst ys))) ∨
  (J.go i H2 ∧ i < n ∧ ∀ x H3, J.yld i H2 x H3 → tt (some x :: capV caps σ) H3 fun b H4 => if b = true then te (some x :: capV caps σ) H4 fun v H5 => W (i + 1) (ys ++ [v]) H5 else W (i + 1) ys H4)
section
variable {prog : Program} {w : World} {A : Around} {R : Result → Shared → Prop} {s : Shared}
theorem comp_loop {elt target iter : Expr} {ifs : List Expr} {scope : Scope} {pos : Pos} {it acc : Value} {env : Env} (I : Nat → Shared → Prop)
    (turn : ∀ n s, I n s → wpAny (model prog w) A (pyNext it) (fun r s₁ => match r with
      | none => R (.ok .next) s₁
      | some v => wpAny (model prog w) A (letOwnedTupleGo target it v) (fun _ s₁ => wpAny (model prog w) A (assign target env v) (fun _ s₂ =>
          wpAny (model prog w) A (forIn ifs true fun c r => if r = true then do let ok ← isTrue c env (eval c env); pure (ForInStep.yield ok) else pure (ForInStep.yield r)) (fun ok s₃ =>
            if ok = true then wpAny (model prog w) A (eval elt env) (fun x s₄ =>
              wpAny (model prog w) A (call (.builtin "list.append") [acc, x]) (fun _ s₅ => ∃ m, m < n ∧ I m s₅) (fun _ _ => False) s₄) (fun _ _ => False) s₃
            else ∃ m, m < n ∧ I m s₃) (fun _ _ => False) s₂) (fun _ _ => False) s₁) (fun _ _ => False) s₁) (fun _ _ => False) s)
    (n : Nat) (h : I n s) :
    codeAny (model prog w) A (.compLoop (.ListComp elt [⟨target, iter, ifs, 0⟩] scope pos) 0 it acc env) R s := by
  refine codeAny_loop rfl I (fun n s hI => ?_) n h
  show wpAny _ A ((compTurn (.ListComp elt [⟨target, iter, ifs, 0⟩] scope pos) 0 it acc env).onRaise (fun x => do noteFrame x env; theTreesLotGoes x)) _ _ s
  refine wpAny_noted ?_
  rw [compTurn_list]
  refine wpAny_bind (wpAny_standAt (wpAny_bind (wpAny_mono (turn n s hI) (fun r s₁ h₁ => ?_) fun _ _ h' => h'.elim)))
  cases r with
  | none => exact wpAny_pure h₁
  | some v =>
    refine wpAny_bind (wpAny_mono h₁ (fun _ s₁ h₁ => ?_) fun _ _ h' => h'.elim)
    refine wpAny_bind (wpAny_mono h₁ (fun _ s₂ h₂ => wpAny_bind (wpAny_mono h₂ (fun ok s₃ h₃ => ?_) fun _ _ h' => h'.elim)) fun _ _ h' => h'.elim)
    cases ok with
    | false => exact wpAny_pure ⟨rfl, h₃⟩
    | true =>
      exact wpAny_bind (wpAny_bind (wpAny_mono h₃ (fun x s₄ h₄ => wpAny_bind (wpAny_mono h₄ (fun _ s₅ h₅ => wpAny_pure (wpAny_pure ⟨rfl, h₅⟩)) fun _ _ h' => h'.elim)) fun _ _ h' => h'.elim))
end
def Loose (X : Cx) (pins : List (Addr × Obj)) (H : Hp) (C : Addr) : Prop :=
  H C = none ∧ C ≠ X.env.locals ∧ X.s₀.heap.objs.size ≤ C ∧ (∀ x c, X.env.cells.lookup x = some c → c ≠ C) ∧ ∀ p ∈ X.pn ++ pins, p.1 ≠ C
theorem Inv.letGo {X : Cx} {pins : List (Addr × Obj)} {σ : St} {H : Hp} {s : Shared} {C : Addr} {h' : Heap} (I : Inv X pins σ H s) (l : Loose X pins H C) (k : Heap.SameBut C s.heap h') : Inv X pins σ H { s with heap := h' } :=
  I.turned (it := C) (t' := s.toks) (fun b o hb e => k.extBut b o hb e) l.1 l.2.1 (.inr l.2.2.1) l.2.2.2.1 l.2.2.2.2
section
variable {X : Cx}
theorem comp_block {elt iter : Expr} {x : Str} {px pos : Pos} {ifs : List Expr} {scope : Scope} {cl : List (Str × Addr)} {caps : List Nat} {xs : List Str} {tt : TT} {te : TE}
    (hc : X.calm = true) (hcl : ClOk X.env.cells cl) (hcap : CapsOk X (relabel scope X.env) cl caps xs) (hlen : caps.length = xs.length)
    (hkind : scope.kind = .function) (hcell : ∀ y ∈ scope.names, y.2 ≠ .cell)
    (hhas : ((relabel scope X.env).names.all fun y => !(y.2 == .cell || y.2 == .free) || (cl.lookup y.1).isSome) = true)
    (hx : (relabel scope X.env).names.lookup x = some .local) (hN : (x :: xs).Nodup)
    (ht : ∀ C s H fp, PTs (compCx X (x :: xs) scope cl C s H fp) ifs tt) (he : ∀ C s H fp, PE (compCx X (x :: xs) scope cl C s H fp) elt te)
    {pins : List (Addr × Obj)} {σ : St} {H1 : Hp} {s2 : Shared} {it : Addr} {fp : List Addr} {tn : Nat → Heap → Prop} {J : It} {Q : VK}
    (I2 : Inv X pins σ H1 s2) (T : Turn X.prog X.w X.K (.Name x px) J fp it tn) (st0 : tn 0 s2.heap) (hfp : ∀ b ∈ fp, FpOk X pins H1 b)
    (hq : ∃ (n : Nat) (W : Nat → List V → Hp → Prop), n ≤ sizeLine ∧ W 0 [] H1 ∧ ∀ i ys H2, W i ys H2 →
      (J.stop i H2 ∧ ∀ p, H2 p = none → Q (.ref p) (upd H2 p (.lst ys))) ∨
      (J.go i H2 ∧ i < n ∧ ∀ x H3, J.yld i H2 x H3 → tt (some x :: capV caps σ) H3 fun b H4 => if b = true then te (some x :: capV caps σ) H4 fun v H5 => W (i + 1) (ys ++ [v]) H5 else W (i + 1) ys H4))
    {RR : Value → Addr → Result → Shared → Prop}
    (hRR : ∀ s1 D C m H', Inv X pins σ H' s1 → s1.heap.Ns C m → Loose X pins H' C → Q (.ref D) H' → RR (.ref D) C (.ok .next) s1) :
    wpAny (model X.prog X.w) X.A (newList []) (fun acc s₃ => wpAny (model X.prog X.w) X.A (newFunctionEnv scope X.env.globals cl [] X.env.qual none .none (some X.env)) (fun cenv s₄ =>
      codeAny (model X.prog X.w) X.A (.compStart (.ListComp elt [⟨.Name x px, iter, ifs, 0⟩] scope pos) 0 (.ref it) acc { cenv with scope := relabel scope X.env }) (RR acc cenv.locals) s₄) X.xe s₃) X.xe s2 := by
  obtain ⟨n, W, hn, w0, hW⟩ := hq
  have hlt : ∀ b ∈ fp, b < s2.heap.objs.size := fun b hb => by
    obtain ⟨o, ho, _⟩ := T.obj 0 s2.heap st0 b hb
    exact Heap.lt_size ho
  refine wpAny_newObj_type (wpAny_newFunctionEnv hcell (by intro y hy; simp at hy) (fun h₁ hns₁ hsb₁ => ?_) hkind)
  dsimp only at hns₁ hsb₁ ⊢
  generalize hH2 : s2.heap.push { cls := .type "list", dict := none, data := .seq ([] : List Value).toArray } = G at hns₁ hsb₁ ⊢
  have hC : G.objs.size = s2.heap.objs.size + 1 := by rw [← hH2, Heap.size_push]
  have hDC : s2.heap.objs.size ≠ G.objs.size := by omega
  have old : ∀ b o, s2.heap.get? b = some o → h₁.get? b = some o := fun b o e => hsb₁.extBut b o (adr (by have h1 : @LT.lt Nat _ b s2.heap.objs.size := Heap.lt_size e; omega)) (Heap.get?_push_of_some _ (hH2 ▸ Heap.get?_push_of_some _ e))
  have hacc : h₁.get? s2.heap.objs.size = some { cls := .type "list", dict := none, data := .seq ([] : List Value).toArray } :=
    hsb₁.extBut _ _ hDC (Heap.get?_push_of_some _ (hH2 ▸ Heap.get?_push_size _ rfl))
  have I3 : Inv (compCx X (x :: xs) scope cl G.objs.size s2 H1 fp) [] (none :: capV caps σ) H1 { s2 with heap := h₁, toks := s2.toks + ([] : List (Str × Value)).length } :=
    comp_start I2 hcl hkind hfp hlt hhas (by omega) hcap hlen hns₁ old
  have st1 : tn 0 h₁ := T.keep 0 _ _ st0 fun b hb o e => old b o e
  have fpX : ∀ {pins' : List (Addr × Obj)} {H' : Hp} (b : Addr), b ∈ fp → H' b = none → (∀ p ∈ pins', p.1 ≠ b) → FpOk (compCx X (x :: xs) scope cl G.objs.size s2 H1 fp) pins' H' b := fun b hb hh hp =>
    ⟨hh, fun z => by have h1 : @LT.lt Nat _ b s2.heap.objs.size := hlt b hb; have z' : @Eq Nat b G.objs.size := z; omega, fun z => by
      rcases List.mem_cons.mp (I2.stkSub b z) with q | q
      · exact (hfp b hb).2.1 q
      · exact (hfp b hb).2.2.1 q, .inl hb, fun y c e => (hfp b hb).2.2.2.2.1 y c (hcl.get e), fun p hp' => hp p hp'⟩
  let XC := compCx X (x :: xs) scope cl G.objs.size s2 H1 fp
  have loop : ∀ s3 : Shared, s3 = { s2 with heap := h₁, toks := s2.toks + ([] : List (Str × Value)).length } →
      codeAny (model X.prog X.w) X.A (.compLoop (.ListComp elt [⟨.Name x px, iter, ifs, 0⟩] scope pos) 0 (.ref it) (.ref s2.heap.objs.size) (compEnvC scope cl G.objs.size X.env))
        (RR (.ref s2.heap.objs.size) G.objs.size) s3 := by
    rintro s3 rfl
    refine comp_loop (fun m s' => ∃ (i : Nat) (ys : List V) (Hn : Hp) (its : List Value) (k : Nat) (v0 : Option V), m = n + 1 - i ∧ i ≤ n ∧ ys.length ≤ i ∧ W i ys Hn ∧ Vals ys its ∧ tn i s'.heap ∧ (∀ b ∈ fp, Hn b = none) ∧
      Inv XC [(s2.heap.objs.size, { cls := .type "list", data := .seq its.toArray k })] (v0 :: capV caps σ) Hn s') ?_ (n + 1) ?_
    · rintro m s' ⟨i, ys, Hn, its, k, v0, rfl, hin, hyl, w, rv, st, hfn, J'⟩
      have pD := J'.pin _ (List.mem_append_right _ (List.mem_singleton.mpr rfl))
      have neD : ∀ b ∈ fp, ∀ p ∈ [((s2.heap.objs.size, ({ cls := .type "list", data := .seq its.toArray k } : Obj)))], p.1 ≠ b := fun b hb p hp z => by
        have h1 : @LT.lt Nat instLTNat b s2.heap.objs.size := hlt b hb
        rw [List.mem_singleton.mp hp] at z
        have z' : @Eq Nat s2.heap.objs.size b := z
        omega
      rcases hW i ys Hn w with ⟨hstop, fin⟩ | ⟨hgo, hi', hgo'⟩
      · -- it stops
        refine wpAny_mono (T.done XC rfl rfl rfl hc i _ s' _ Hn (fun _ _ => False) J' (fun b hb => fpX b hb (hfn b hb) (neD b hb)) st hstop) (fun r s1 hr => ?_) fun _ _ z => z
        obtain ⟨rfl, J1⟩ := hr
        obtain ⟨mC, hnC, _⟩ := J1.loc
        have pD1 := J1.pin _ (List.mem_append_right _ (List.mem_singleton.mpr rfl))
        have hD' : s1.heap.get? s2.heap.objs.size = some { cls := .type "list", data := .seq its.toArray k } := pD1.1
        have hHD : Hn s2.heap.objs.size = none := pD1.2.1
        have hHC : Hn G.objs.size = none := J1.free
        have un : Un (frs X.stack) fp H1 (upd Hn s2.heap.objs.size (.lst ys)) s2.heap s1.heap := by
          have u := J1.base
          have lt2 : ∀ b o, s2.heap.get? b = some o → b ≠ G.objs.size ∧ b ≠ s2.heap.objs.size := fun b o e => by
            have h1 := ltN e
            exact ⟨adr (by omega), adr (by omega)⟩
          refine ⟨u.keep, u.slot, fun b o e n1 n2 => ?_, u.there, fun b zs e => ?_, fun b o u' e => ?_, fun b ps e => ?_⟩
          · rw [upd_ne (lt2 b o e).2]
            exact u.free b o e n1 n2
          · have q := u.tups b zs e
            rw [upd_ne (fun z => by rw [z, hHD] at q; cases q)]
            exact q
          · have q := u.frzs b o u' e
            rw [upd_ne (fun z => by rw [z, hHD] at q; cases q)]
            exact q
          · obtain ⟨more, q⟩ := u.tbls b ps e
            refine ⟨more, ?_⟩
            rw [upd_ne (fun z => by rw [z, hHD] at q; cases q)]
            exact q
        have hok : HOk X.prog X.w (upd Hn s2.heap.objs.size (.lst ys)) s1.heap := fun a o e => by
          by_cases ha : a = s2.heap.objs.size
          · subst ha
            rw [upd_same] at e
            cases e
            exact ⟨by omega, its, k, rv, hD'⟩
          · rw [upd_ne ha] at e
            have q : ObjOk X.prog X.w Hn s1.heap a o := J1.hok a o e
            refine q.stay (fun b u' hb e' => e') (fun b e' => ?_) fun b zs e' => ?_
            · rw [upd_ne (fun z => by rw [z, hHD] at e'; cases e')]; exact e'
            · rw [upd_ne (fun z => by rw [z, hHD] at e'; cases e')]; exact e'
        have I4 : Inv X pins σ (upd Hn s2.heap.objs.size (.lst ys)) s1 :=
          I2.call' (ch := fp) J1.os un hok J1.bare fun b hb => ⟨(hfp b hb).2.2.2.1, (hfp b hb).2.1, (hfp b hb).2.2.2.2.1, (hfp b hb).2.2.2.2.2⟩
        refine hRR s1 _ _ mC _ I4 hnC ⟨by rw [upd_ne (Ne.symm hDC)]; exact hHC, fun z => ?_, by have := I2.sz; omega, fun y c e z => ?_, fun p hp z => ?_⟩ (fin _ hHD)
        · have h1 : @LT.lt Nat instLTNat X.env.locals s2.heap.objs.size := I2.lt
          have z' : @Eq Nat G.objs.size X.env.locals := z
          omega
        · obtain ⟨v', o', ho', _⟩ := I2.cell y c e
          have h1 := ltN ho'
          have z' : @Eq Nat c G.objs.size := z
          omega
        · have h1 := ltN (I2.pin p hp).1
          have z' : @Eq Nat p.1 G.objs.size := z
          omega
      · -- a turn
        refine wpAny_mono (T.item XC rfl rfl rfl hc i _ s' _ Hn (fun _ _ => False) J' (fun b hb => fpX b hb (hfn b hb) (neD b hb)) st hgo) (fun r s1 hr => ?_) fun _ _ z => z
        obtain ⟨u, rfl, hr⟩ := hr
        refine wpAny_mono hr (fun _ s2' h2 => ?_) fun _ _ z => z
        obtain ⟨v, H3, J1, ru, hy, st1', hf3⟩ := h2
        refine wpAny_assign_Name ?_
        refine store_ok2 (v := v) J1 hN (i := 0) rfl (.inl hx) ru (fun s4 J2 hsb => ?_) (.inr hx)
        have st4 : tn (i + 1) s4.heap := by
          obtain ⟨a, hsa, ha⟩ := hsb
          refine T.keep _ _ _ st1' fun b hb o e => hsa.extBut b o (fun z => ?_) e
          rcases ha with ha | ha
          · have h1 : @LT.lt Nat instLTNat b s2.heap.objs.size := hlt b hb
            have ha' : @Eq Nat a G.objs.size := ha
            have z' : @Eq Nat b a := z
            omega
          · exact (hfp b hb).2.2.2.2.1 x a (hcl.get ha) z.symm
        have J2' : Inv XC [(s2.heap.objs.size, { cls := .type "list", data := .seq its.toArray k })] (some v :: capV caps σ) H3 s4 := J2
        have ob4 : ∀ b ∈ fp, ∃ o, s4.heap.get? b = some o ∧ ∀ v, o.data ≠ .cell v := fun b hb => T.obj _ _ st4 b hb
        have J3 := J2'.pinned (fun b hb => fpX b hb (hf3 b hb) (neD b hb)) ob4
        have tnAt : ∀ {σ' : St} {H' : Hp} {s'' : Shared}, Inv XC ([(s2.heap.objs.size, ({ cls := .type "list", data := .seq its.toArray k } : Obj))] ++ pinsAt fp s4.heap) σ' H' s'' → tn (i + 1) s''.heap ∧ ∀ b ∈ fp, H' b = none := fun J4 =>
          ⟨T.keep _ _ _ st4 fun b hb o e => (J4.pin (b, o) (List.mem_append_right _ (List.mem_append_right _ (mem_pinsAt hb e)))).1, fun b hb => by
            obtain ⟨o, e, _⟩ := ob4 b hb
            exact (J4.pin (b, o) (List.mem_append_right _ (List.mem_append_right _ (mem_pinsAt hb e)))).2.1⟩
        refine thn (ht _ _ _ _ _ s4 _ H3 _ J3 (hgo' v H3 hy)) fun ok s5 ⟨H4, J4, q4⟩ => ?_
        cases ok with
        | false =>
          rw [if_neg (by simp)]
          have q4' : W (i + 1) ys H4 := q4
          obtain ⟨a1, a2⟩ := tnAt J4
          exact ⟨n + 1 - (i + 1), by omega, i + 1, ys, H4, its, k, some v, rfl, by omega, by omega, q4', rv, a1, a2, J4.unpinned⟩
        | true =>
          rw [if_pos rfl]
          have q4' : te (some v :: capV caps σ) H4 fun v H5 => W (i + 1) (ys ++ [v]) H5 := q4
          refine thn (he _ _ _ _ _ s5 _ H4 _ J4 q4') fun uv s6 ⟨y, H5, J5, ry, q5⟩ => ?_
          obtain ⟨a1, a2⟩ := tnAt J5
          have pD6 := J5.pin _ (List.mem_append_right _ (List.mem_append_left _ (List.mem_singleton.mpr rfl)))
          have hl6 := rv.length
          refine call_meets F.slot_list_append ⟨_, pD6.1, rfl⟩ F.entry_list_append (F.args_list_append_2 _ _) (PySem.list_append s2.heap.objs.size its.toArray k uv (by rw [List.size_toArray]; omega)) ⟨pD6.1, ?_⟩
          have J6 : Inv XC [] (some v :: capV caps σ) H5 s6 := J5.pins_of fun p hp => by cases hp
          have ne6 : s2.heap.objs.size ∉ fp := fun z => by have h1 : @LT.lt Nat instLTNat s2.heap.objs.size s2.heap.objs.size := hlt _ z; omega
          have J7 : Inv XC [] (some v :: capV caps σ) H5 { s6 with heap := s6.heap.update s2.heap.objs.size (Obj.mapSeq fun xs => xs.push uv), toks := s6.toks } :=
            J6.turned (it := s2.heap.objs.size) (fun b o hb e => by rw [Heap.get?_update_other _ _ (Ne.symm hb)]; exact e) pD6.2.1 (fun z => hDC z) (.inr (Nat.le_refl _)) (fun y c e z => by
              have e1 := I2.cell y c (hcl.get e)
              obtain ⟨v', o', ho', _⟩ := e1
              have h1 := ltN ho'
              have z' : @Eq Nat c s2.heap.objs.size := z
              omega) (fun p hp => by cases hp)
          refine ⟨n + 1 - (i + 1), by omega, i + 1, ys ++ [y], H5, its ++ [uv], k + 1, some v, rfl, by omega, by rw [List.length_append, List.length_singleton]; omega, q5, rv.append (.cons ry .nil), ?_, a2, ?_⟩
          · refine T.keep _ _ _ a1 fun b hb o e => ?_
            show (s6.heap.update s2.heap.objs.size _).get? b = some o
            rw [Heap.get?_update_other _ _ (fun z => ne6 (by rw [z]; exact hb))]
            exact e
          · refine J7.pins_of fun p hp => ?_
            rw [List.mem_singleton.mp hp]
            refine ⟨?_, pD6.2.1, fun z => hDC z, pD6.2.2.2.1, fun v' z => ?_⟩
            · show (s6.heap.update s2.heap.objs.size _).get? s2.heap.objs.size = _
              rw [Heap.get?_update_self _ pD6.1 rfl]
              simp only [Obj.mapSeq, List.push_toArray]
              rw [if_neg (by simp)]
            · have z' : Data.seq _ _ = Data.cell v' := z
              cases z'
    · exact ⟨0, [], H1, [], 0, none, by omega, by omega, by simp, w0, .nil, st1, fun b hb => (hfp b hb).1, I3.pins_of fun p hp => by
        rw [List.mem_singleton.mp hp]
        refine ⟨hacc, I2.hok.fresh (Nat.le_refl _), fun z => hDC z, fun z => ?_, fun v' z => ?_⟩
        · have := I2.stkFree _ z
          rcases List.mem_cons.mp (I2.stkSub _ z) with q | q
          · have h1 : @LT.lt Nat instLTNat X.env.locals s2.heap.objs.size := I2.lt
            have z' : @Eq Nat s2.heap.objs.size X.env.locals := q
            omega
          · exact I2.nofs (Nat.le_refl _) q
        · have z' : Data.seq _ _ = Data.cell v' := z
          cases z'⟩
  exact codeAny_compStart_list (loop _ rfl) (T.self X.A 0 _ _ _ st1 (loop _ rfl))
theorem pe_comp {elt iter : Expr} {x : Str} {px pos : Pos} {ifs : List Expr} {scope : Scope} {cl : List (Str × Addr)} (caps : List Nat) (xs : List Str) {wi : TI} {tt : TT} {te : TE}
    (hc : X.calm = true) (hclos : closureFor scope X.env = pure cl) (hcl : ClOk X.env.cells cl) (hcap : CapsOk X (relabel scope X.env) cl caps xs) (hlen : caps.length = xs.length)
    (hkind : scope.kind = .function) (hcell : ∀ y ∈ scope.names, y.2 ≠ .cell) (hnames : ∀ y ∈ scope.names, y.2 = .local → scope.names.lookup y.1 = some .local)
    (hhas : ((relabel scope X.env).names.all fun y => !(y.2 == .cell || y.2 == .free) || (cl.lookup y.1).isSome) = true)
    (hx : (relabel scope X.env).names.lookup x = some .local) (hN : (x :: xs).Nodup)
    (hi : PI X (.Name x px) iter wi) (ht : ∀ C s H fp, PTs (compCx X (x :: xs) scope cl C s H fp) ifs tt) (he : ∀ C s H fp, PE (compCx X (x :: xs) scope cl C s H fp) elt te)
    (hs : ∀ v, foldedSetIterable iter X.env v = pure v := by intro _; rfl) : PE X (.ListComp elt [⟨.Name x px, iter, ifs, 0⟩] scope pos) (tComp caps wi tt te) := by
  intro pins s σ H Q I h
  rw [eval_ListComp]
  refine wpAny_comprehension_free (use := none) rfl hs hclos hkind hnames (wpAny_mono (hi pins s σ H _ I h) (fun v s1 h1 => wpAny_mono h1 (fun itv s2 h2 => ?_) fun _ _ e => e) fun _ _ e => e)
  obtain ⟨it, fp, tn, J, H1, rfl, I2, T, st0, hfp, hq⟩ := h2
  refine comp_block (RR := fun acc C => compPost (model X.prog X.w) X.A X.xe none (EP X pins σ Q) acc C) hc hcl hcap hlen hkind hcell hhas hx hN ht he I2 T st0 hfp hq ?_
  intro s1 D C m H' I4 hn l q
  exact ⟨m, hn, fun h' hsb => ⟨.ref D, H', I4.letGo l hsb, rfl, q⟩⟩
theorem ps_comp {elt iter : Expr} {x y : Str} {px py pos spos : Pos} {ifs : List Expr} {scope : Scope} {cl : List (Str × Addr)} {k : Nat} (caps : List Nat) (xs : List Str) {wi : TI} {tt : TT} {te : TE}
    (hsw : swapsWith (.ListComp elt [⟨.Name x px, iter, ifs, 0⟩] scope pos) (some (.Name y py)) spos.line X.env = pure true)
    (hNX : X.N.Nodup) (hk : X.N[k]? = some y) (hy : X.env.scope.names.lookup y = some .local)
    (hc : X.calm = true) (hclos : closureFor scope X.env = pure cl) (hcl : ClOk X.env.cells cl) (hcap : CapsOk X (relabel scope X.env) cl caps xs) (hlen : caps.length = xs.length)
    (hkind : scope.kind = .function) (hcell : ∀ y ∈ scope.names, y.2 ≠ .cell) (hnames : ∀ y ∈ scope.names, y.2 = .local → scope.names.lookup y.1 = some .local)
    (hhas : ((relabel scope X.env).names.all fun y => !(y.2 == .cell || y.2 == .free) || (cl.lookup y.1).isSome) = true)
    (hx : (relabel scope X.env).names.lookup x = some .local) (hN : (x :: xs).Nodup)
    (hi : PI X (.Name x px) iter wi) (ht : ∀ C s H fp, PTs (compCx X (x :: xs) scope cl C s H fp) ifs tt) (he : ∀ C s H fp, PE (compCx X (x :: xs) scope cl C s H fp) elt te)
    (hs : ∀ v, foldedSetIterable iter X.env v = pure v := by intro _; rfl) : PS X (.Assign [.Name y py] (.ListComp elt [⟨.Name x px, iter, ifs, 0⟩] scope pos) spos) (tAsg (tComp caps wi tt te) (gName k)) := by
  intro pins s σ H D I h
  rw [exec_Assign_Name_used _ _ _ _ hsw]
  refine wpAny_bind (wpAny_standAt (wpAny_bind ?_))
  show wpAny _ X.A (do let _ ← comprehension (.ListComp elt [⟨.Name x px, iter, ifs, 0⟩] scope pos) scope X.env _ (newList []) false (eval iter X.env) (some (assign (.Name y py) X.env))) _ _ s
  refine wpAny_bind (wpAny_mono (wpAny_comprehension_free (use := some (assign (.Name y py) X.env)) (Q := fun _ s' => SP X pins D .next s') rfl hs hclos hkind hnames
    (wpAny_mono (hi pins s σ H _ I h) (fun xv s₁ h₁ => wpAny_mono h₁ (fun itv s2 h2 => ?_) fun _ _ e => e) fun _ _ e => e)) (fun _ s' hq => wpAny_pure (wpAny_pure hq)) fun _ _ e => e)
  obtain ⟨it, fp, tn, J, H1, rfl, I2, T, st0, hfp, hq⟩ := h2
  refine comp_block (Q := fun v H1 => gName k v σ H1 D.nx) (RR := fun acc C => compPost (model X.prog X.w) X.A X.xe (some (assign (.Name y py) X.env)) (fun _ s' => SP X pins D .next s') acc C) hc hcl hcap hlen hkind hcell hhas hx hN ht he I2 T st0 hfp hq ?_
  intro s1 Da C m H' I4 hn l q
  show wpAny _ X.A (assign (.Name y py) X.env (.ref Da)) _ _ s1
  refine wpAny_assign_Name (store_ok2 (v := .ref Da) I4 hNX hk (.inl hy) rfl (fun s4 I5 hsb => ?_) (.inr hy))
  obtain ⟨a, hsa, ha⟩ := hsb
  have hCa : C ≠ a := by
    rcases ha with ha | ha
    · rw [ha]; exact l.2.1
    · exact Ne.symm (l.2.2.2.1 y a ha)
  refine ⟨m, hn.sameBut hsa hCa, fun h' hsb => ⟨_, H', I5.letGo l hsb, q⟩⟩
end
end L2
namespace L2
open PySem PySem.Spec PyProof.Rows
theorem same_new {H : Hp} {p : Addr} (h : H p = none) (o : HO) : Same H (upd H p o) := fun b u q => by rw [upd_ne (ne_of_none q h)]; exact q
structure Def (P : Program) (w : World) (K : PySem.W.Frag) (mg : Str → Option Value) (base : Heap) (x : Str) (k : Nat) (ps : List Str) (sp : Sp) : Prop where
  ex : ∃ (f : Addr) (fd : FuncData), FnOk P w K mg base CX0 k f fd ps sp ∧ Binds K fd ps [] ∧ PySem.W.keepIn K (.ref f) = true ∧ mg x = some (.ref f)
theorem def_mk {P : Program} {w : World} {K : PySem.W.Frag} {mg : Str → Option Value} {base : Heap} {x qual : Str} {st : Stmt} {f : Addr} {fd : FuncData} {k : Nat} {ps : List Str} {sp : Sp} (F : Fun K x qual st f fd)
    (ok : FnOk P w K mg base CX0 k f fd ps sp) (b : Binds K fd ps []) (m : mg x = some (.ref f)) : Def P w K mg base x k ps sp := ⟨⟨f, fd, ok, b, F.kp, m⟩⟩
section
variable {X : Cx} {x : Str} {j k : Nat} {ps : List Str} {sp : Sp} {p pos : Pos} {e : Expr} {es : List Expr} {t : TA}
theorem pe_def (D : Def X.prog X.w X.K X.mg X.base x j ps sp) (hr : Room k X.A) (hg : Gl X x) (ha : PA X (e :: es) t) (hjk : j ≤ k := by decide) (hdb : (x == ("__debug__" : Str)) = false := by decide)
    (he : starEach (e :: es) X.env = (false, eval e X.env) :: starEach es X.env := by rfl) (hpl : (backTo pos (starEach es X.env)).any (·.1) = false := by rfl) :
    PE X (.Call (.Name x p) (e :: es) [] pos) (tCall sp [] E0 t) := by
  obtain ⟨f, fd, ok, b, kp, m⟩ := D.ex
  exact pe_call ok (hr.mono hjk) hg m kp b .nil pass0 ha hdb he hpl
end
end L2
namespace L2
open PySem PySem.Spec PyProof.Rows
def tJoin (t : TS) : TS := fun D σ H => ∃ R : St → Hp → Prop, (∀ σ' H', R σ' H' → D.nx σ' H') ∧ t { D with nx := R } σ H
theorem ps_join {X : Cx} {st : Stmt} {t : TS} (h : PS X st t) : PS X st (tJoin t) := by
  intro pins s σ H D I ⟨R, hR, q⟩
  refine thn (h pins s σ H _ I q) fun f s' hq => ?_
  cases f with
  | next =>
    obtain ⟨σ', H', I', r⟩ := hq
    exact ⟨σ', H', I', hR _ _ r⟩
  | brk => exact hq
  | cont => exact hq
  | ret v => exact hq
end L2
namespace L2
open PySem PySem.Spec PyProof.Rows
theorem bt_isinstance : bootBuiltins "isinstance" = some (.builtin "isinstance") := by decide +kernel
theorem bt_int : bootBuiltins "int" = some (.type "int") := by decide +kernel
theorem bt_bool : bootBuiltins "bool" = some (.type "bool") := by decide +kernel
theorem bt_list : bootBuiltins "list" = some (.type "list") := by decide +kernel
theorem bt_str : bootBuiltins "str" = some (.type "str") := by decide +kernel
theorem bt_ValueError : bootBuiltins "ValueError" = some (.type "ValueError") := by decide +kernel
def cInts : List Expr → Option (List Int)
  | [] => some []
  | .Constant (.int i) _ _ :: r => (cInts r).map (i :: ·)
  | _ => none
theorem int_pow_le {a b : Int} (h0 : 0 ≤ a) (h : a ≤ b) : ∀ n : Nat, a ^ n ≤ b ^ n
  | 0 => by simp
  | n + 1 => by
    rw [Int.pow_succ, Int.pow_succ]
    have h1 := int_pow_le h0 h n
    have h2 : 0 ≤ a ^ n := Int.pow_nonneg h0
    exact Int.mul_le_mul h1 h h0 (Int.le_trans h2 h1)
end L2
namespace L2
open PySem PySem.Spec PyProof.Rows
theorem ps_eq {X : Cx} {st st' : Stmt} {t : TS} (e : st = st') (h : PS X st' t) : PS X st t := by subst e; exact h
end L2
namespace L2
open PySem PySem.Spec PyProof.Rows
def ForIt (J : It) (g : TG) (tb : TS) (D : Ends) (σ : St) (H : Hp) : Prop := ∃ W : Nat → Nat → St → Hp → Prop, (∃ m, W 0 m σ H) ∧ ∀ i m σ H, W i m σ H →
  (J.stop i H ∧ D.nx σ H) ∨ (J.go i H ∧ ∃ N : St → Hp → Prop, (∀ σ' H', N σ' H' → ∃ m', m' < m ∧ W (i + 1) m' σ' H') ∧ ∀ x H', J.yld i H x H' → g x σ H' fun σ2 H2 => tb { D with nx := N, ct := N, bk := D.nx } σ2 H2)
theorem w_for {wi : TI} {g : TG} {tb : TS} {D : Ends} {σ : St} {H : Hp} : tFor wi g tb D σ H = wi σ H fun J H1 => ForIt J g tb D σ H1 := rfl
section
variable {lo c : Int} {n : Nat} {K : PySem.W.Frag} {a : Addr} {xs : List V} {g : TG} {tb : TS} {D : Ends} {σ : St} {H : Hp}
theorem forR (Pv : Nat → St → Hp → Prop) (h0 : Pv 0 σ H)
    (hs : ∀ i σ H, i < n → Pv i σ H → g (.int (lo + i)) σ H fun σ2 H2 => tb { D with nx := Pv (i + 1), ct := Pv (i + 1), bk := D.nx } σ2 H2) (hd : ∀ σ H, Pv n σ H → D.nx σ H) : ForIt (Itr lo n) g tb D σ H := for_range Pv h0 hs hd
end
theorem joinB {t : TS} {D : Ends} {σ : St} {H : Hp} (R : St → Hp → Prop) (h : t { D with nx := R } σ H) (hR : ∀ σ' H', R σ' H' → D.nx σ' H') : tJoin t D σ H := ⟨R, hR, h⟩
theorem sc_ii {a b : Int} : scal (.int a) (.int b) = true := rfl
theorem sc_bb {a b : Bool} : scal (.bl a) (.bl b) = true := rfl
theorem sc_in {a : Int} : scal (.int a) .non = true := rfl
theorem sc_ni {a : Int} : scal .non (.int a) = true := rfl
theorem sc_ss {a b : Str} : scal (.str a) (.str b) = true := rfl
theorem sc_nn : scal .non .non = true := rfl
theorem sc_bn {a : Bool} : scal (.bl a) .non = true := rfl
theorem sc_is {a : Int} {b : Str} : scal (.int a) (.str b) = true := rfl
theorem kit_int_int (K : PySem.W.Frag) : PySem.W.kitOne K (.type "int") (.type "int") = some true := by unfold PySem.W.kitOne; rw [if_pos (by decide)]
theorem kit_int_bool (K : PySem.W.Frag) : PySem.W.kitOne K (.type "int") (.type "bool") = some false := by unfold PySem.W.kitOne; rw [if_neg (by decide)]; kernel_rfl
theorem kit_int_str (K : PySem.W.Frag) : PySem.W.kitOne K (.type "int") (.type "str") = some false := by unfold PySem.W.kitOne; rw [if_neg (by decide)]; kernel_rfl
theorem kit_int_list (K : PySem.W.Frag) : PySem.W.kitOne K (.type "int") (.type "list") = some false := by unfold PySem.W.kitOne; rw [if_neg (by decide)]; kernel_rfl
theorem kit_int_tuple (K : PySem.W.Frag) : PySem.W.kitOne K (.type "int") (.type "tuple") = some false := by unfold PySem.W.kitOne; rw [if_neg (by decide)]; kernel_rfl
theorem kit_int_dict (K : PySem.W.Frag) : PySem.W.kitOne K (.type "int") (.type "dict") = some false := by unfold PySem.W.kitOne; rw [if_neg (by decide)]; kernel_rfl
theorem kit_bool_int (K : PySem.W.Frag) : PySem.W.kitOne K (.type "bool") (.type "int") = some true := by unfold PySem.W.kitOne; rw [if_neg (by decide)]; kernel_rfl
theorem kit_bool_bool (K : PySem.W.Frag) : PySem.W.kitOne K (.type "bool") (.type "bool") = some true := by unfold PySem.W.kitOne; rw [if_pos (by decide)]
theorem kit_bool_str (K : PySem.W.Frag) : PySem.W.kitOne K (.type "bool") (.type "str") = some false := by unfold PySem.W.kitOne; rw [if_neg (by decide)]; kernel_rfl
theorem kit_bool_list (K : PySem.W.Frag) : PySem.W.kitOne K (.type "bool") (.type "list") = some false := by unfold PySem.W.kitOne; rw [if_neg (by decide)]; kernel_rfl
theorem kit_bool_tuple (K : PySem.W.Frag) : PySem.W.kitOne K (.type "bool") (.type "tuple") = some false := by unfold PySem.W.kitOne; rw [if_neg (by decide)]; kernel_rfl
theorem kit_bool_dict (K : PySem.W.Frag) : PySem.W.kitOne K (.type "bool") (.type "dict") = some false := by unfold PySem.W.kitOne; rw [if_neg (by decide)]; kernel_rfl
theorem kit_NoneType_int (K : PySem.W.Frag) : PySem.W.kitOne K (.type "NoneType") (.type "int") = some false := by unfold PySem.W.kitOne; rw [if_neg (by decide)]; kernel_rfl
theorem kit_NoneType_bool (K : PySem.W.Frag) : PySem.W.kitOne K (.type "NoneType") (.type "bool") = some false := by unfold PySem.W.kitOne; rw [if_neg (by decide)]; kernel_rfl
theorem kit_NoneType_str (K : PySem.W.Frag) : PySem.W.kitOne K (.type "NoneType") (.type "str") = some false := by unfold PySem.W.kitOne; rw [if_neg (by decide)]; kernel_rfl
theorem kit_NoneType_list (K : PySem.W.Frag) : PySem.W.kitOne K (.type "NoneType") (.type "list") = some false := by unfold PySem.W.kitOne; rw [if_neg (by decide)]; kernel_rfl
theorem kit_NoneType_tuple (K : PySem.W.Frag) : PySem.W.kitOne K (.type "NoneType") (.type "tuple") = some false := by unfold PySem.W.kitOne; rw [if_neg (by decide)]; kernel_rfl
theorem kit_NoneType_dict (K : PySem.W.Frag) : PySem.W.kitOne K (.type "NoneType") (.type "dict") = some false := by unfold PySem.W.kitOne; rw [if_neg (by decide)]; kernel_rfl
theorem kit_str_int (K : PySem.W.Frag) : PySem.W.kitOne K (.type "str") (.type "int") = some false := by unfold PySem.W.kitOne; rw [if_neg (by decide)]; kernel_rfl
theorem kit_str_bool (K : PySem.W.Frag) : PySem.W.kitOne K (.type "str") (.type "bool") = some false := by unfold PySem.W.kitOne; rw [if_neg (by decide)]; kernel_rfl
theorem kit_str_str (K : PySem.W.Frag) : PySem.W.kitOne K (.type "str") (.type "str") = some true := by unfold PySem.W.kitOne; rw [if_pos (by decide)]
theorem kit_str_list (K : PySem.W.Frag) : PySem.W.kitOne K (.type "str") (.type "list") = some false := by unfold PySem.W.kitOne; rw [if_neg (by decide)]; kernel_rfl
theorem kit_str_tuple (K : PySem.W.Frag) : PySem.W.kitOne K (.type "str") (.type "tuple") = some false := by unfold PySem.W.kitOne; rw [if_neg (by decide)]; kernel_rfl
theorem kit_str_dict (K : PySem.W.Frag) : PySem.W.kitOne K (.type "str") (.type "dict") = some false := by unfold PySem.W.kitOne; rw [if_neg (by decide)]; kernel_rfl
theorem kit_list_int (K : PySem.W.Frag) : PySem.W.kitOne K (.type "list") (.type "int") = some false := by unfold PySem.W.kitOne; rw [if_neg (by decide)]; kernel_rfl
theorem kit_list_bool (K : PySem.W.Frag) : PySem.W.kitOne K (.type "list") (.type "bool") = some false := by unfold PySem.W.kitOne; rw [if_neg (by decide)]; kernel_rfl
theorem kit_list_str (K : PySem.W.Frag) : PySem.W.kitOne K (.type "list") (.type "str") = some false := by unfold PySem.W.kitOne; rw [if_neg (by decide)]; kernel_rfl
theorem kit_list_list (K : PySem.W.Frag) : PySem.W.kitOne K (.type "list") (.type "list") = some true := by unfold PySem.W.kitOne; rw [if_pos (by decide)]
theorem kit_list_tuple (K : PySem.W.Frag) : PySem.W.kitOne K (.type "list") (.type "tuple") = some false := by unfold PySem.W.kitOne; rw [if_neg (by decide)]; kernel_rfl
theorem kit_list_dict (K : PySem.W.Frag) : PySem.W.kitOne K (.type "list") (.type "dict") = some false := by unfold PySem.W.kitOne; rw [if_neg (by decide)]; kernel_rfl
theorem kit_tuple_int (K : PySem.W.Frag) : PySem.W.kitOne K (.type "tuple") (.type "int") = some false := by unfold PySem.W.kitOne; rw [if_neg (by decide)]; kernel_rfl
theorem kit_tuple_bool (K : PySem.W.Frag) : PySem.W.kitOne K (.type "tuple") (.type "bool") = some false := by unfold PySem.W.kitOne; rw [if_neg (by decide)]; kernel_rfl
theorem kit_tuple_str (K : PySem.W.Frag) : PySem.W.kitOne K (.type "tuple") (.type "str") = some false := by unfold PySem.W.kitOne; rw [if_neg (by decide)]; kernel_rfl
theorem kit_tuple_list (K : PySem.W.Frag) : PySem.W.kitOne K (.type "tuple") (.type "list") = some false := by unfold PySem.W.kitOne; rw [if_neg (by decide)]; kernel_rfl
theorem kit_tuple_tuple (K : PySem.W.Frag) : PySem.W.kitOne K (.type "tuple") (.type "tuple") = some true := by unfold PySem.W.kitOne; rw [if_pos (by decide)]
theorem kit_tuple_dict (K : PySem.W.Frag) : PySem.W.kitOne K (.type "tuple") (.type "dict") = some false := by unfold PySem.W.kitOne; rw [if_neg (by decide)]; kernel_rfl
theorem kit_dict_int (K : PySem.W.Frag) : PySem.W.kitOne K (.type "dict") (.type "int") = some false := by unfold PySem.W.kitOne; rw [if_neg (by decide)]; kernel_rfl
theorem kit_dict_bool (K : PySem.W.Frag) : PySem.W.kitOne K (.type "dict") (.type "bool") = some false := by unfold PySem.W.kitOne; rw [if_neg (by decide)]; kernel_rfl
theorem kit_dict_str (K : PySem.W.Frag) : PySem.W.kitOne K (.type "dict") (.type "str") = some false := by unfold PySem.W.kitOne; rw [if_neg (by decide)]; kernel_rfl
theorem kit_dict_list (K : PySem.W.Frag) : PySem.W.kitOne K (.type "dict") (.type "list") = some false := by unfold PySem.W.kitOne; rw [if_neg (by decide)]; kernel_rfl
theorem kit_dict_tuple (K : PySem.W.Frag) : PySem.W.kitOne K (.type "dict") (.type "tuple") = some false := by unfold PySem.W.kitOne; rw [if_neg (by decide)]; kernel_rfl
theorem kit_dict_dict (K : PySem.W.Frag) : PySem.W.kitOne K (.type "dict") (.type "dict") = some true := by unfold PySem.W.kitOne; rw [if_pos (by decide)]
abbrev bnames : List String := ["int", "bool", "str", "list", "tuple", "dict"]
def isiT (a b : String) : Option Bool := if b ∈ bnames then some (a == b || (a == "bool" && b == "int")) else none
theorem isi_int {K : PySem.W.Frag} {b : String} {v : Bool} (h : isiT "int" b = some v) : PySem.W.kitOne K (.type "int") (.type b) = some v := by
  unfold isiT at h
  split at h
  · rename_i z
    cases h
    simp only [bnames, List.mem_cons, List.not_mem_nil, or_false] at z
    rcases z with rfl | rfl | rfl | rfl | rfl | rfl
    · exact kit_int_int K
    · exact kit_int_bool K
    · exact kit_int_str K
    · exact kit_int_list K
    · exact kit_int_tuple K
    · exact kit_int_dict K
  · cases h
theorem isi_bool {K : PySem.W.Frag} {b : String} {v : Bool} (h : isiT "bool" b = some v) : PySem.W.kitOne K (.type "bool") (.type b) = some v := by
  unfold isiT at h
  split at h
  · rename_i z
    cases h
    simp only [bnames, List.mem_cons, List.not_mem_nil, or_false] at z
    rcases z with rfl | rfl | rfl | rfl | rfl | rfl
    · exact kit_bool_int K
    · exact kit_bool_bool K
    · exact kit_bool_str K
    · exact kit_bool_list K
    · exact kit_bool_tuple K
    · exact kit_bool_dict K
  · cases h
theorem isi_NoneType {K : PySem.W.Frag} {b : String} {v : Bool} (h : isiT "NoneType" b = some v) : PySem.W.kitOne K (.type "NoneType") (.type b) = some v := by
  unfold isiT at h
  split at h
  · rename_i z
    cases h
    simp only [bnames, List.mem_cons, List.not_mem_nil, or_false] at z
    rcases z with rfl | rfl | rfl | rfl | rfl | rfl
    · exact kit_NoneType_int K
    · exact kit_NoneType_bool K
    · exact kit_NoneType_str K
    · exact kit_NoneType_list K
    · exact kit_NoneType_tuple K
    · exact kit_NoneType_dict K
  · cases h
theorem isi_str {K : PySem.W.Frag} {b : String} {v : Bool} (h : isiT "str" b = some v) : PySem.W.kitOne K (.type "str") (.type b) = some v := by
  unfold isiT at h
  split at h
  · rename_i z
    cases h
    simp only [bnames, List.mem_cons, List.not_mem_nil, or_false] at z
    rcases z with rfl | rfl | rfl | rfl | rfl | rfl
    · exact kit_str_int K
    · exact kit_str_bool K
    · exact kit_str_str K
    · exact kit_str_list K
    · exact kit_str_tuple K
    · exact kit_str_dict K
  · cases h
theorem isi_list {K : PySem.W.Frag} {b : String} {v : Bool} (h : isiT "list" b = some v) : PySem.W.kitOne K (.type "list") (.type b) = some v := by
  unfold isiT at h
  split at h
  · rename_i z
    cases h
    simp only [bnames, List.mem_cons, List.not_mem_nil, or_false] at z
    rcases z with rfl | rfl | rfl | rfl | rfl | rfl
    · exact kit_list_int K
    · exact kit_list_bool K
    · exact kit_list_str K
    · exact kit_list_list K
    · exact kit_list_tuple K
    · exact kit_list_dict K
  · cases h
theorem isi_tuple {K : PySem.W.Frag} {b : String} {v : Bool} (h : isiT "tuple" b = some v) : PySem.W.kitOne K (.type "tuple") (.type b) = some v := by
  unfold isiT at h
  split at h
  · rename_i z
    cases h
    simp only [bnames, List.mem_cons, List.not_mem_nil, or_false] at z
    rcases z with rfl | rfl | rfl | rfl | rfl | rfl
    · exact kit_tuple_int K
    · exact kit_tuple_bool K
    · exact kit_tuple_str K
    · exact kit_tuple_list K
    · exact kit_tuple_tuple K
    · exact kit_tuple_dict K
  · cases h
theorem isi_dict {K : PySem.W.Frag} {b : String} {v : Bool} (h : isiT "dict" b = some v) : PySem.W.kitOne K (.type "dict") (.type b) = some v := by
  unfold isiT at h
  split at h
  · rename_i z
    cases h
    simp only [bnames, List.mem_cons, List.not_mem_nil, or_false] at z
    rcases z with rfl | rfl | rfl | rfl | rfl | rfl
    · exact kit_dict_int K
    · exact kit_dict_bool K
    · exact kit_dict_str K
    · exact kit_dict_list K
    · exact kit_dict_tuple K
    · exact kit_dict_dict K
  · cases h
def isiV : V → String → Option Bool
  | .int _, n => isiT "int" n
  | .bl _, n => isiT "bool" n
  | .non, n => isiT "NoneType" n
  | .str _, n => isiT "str" n
  | _, _ => none
def isiO : HO → String → Option Bool
  | .lst _, n => isiT "list" n
  | .tup _, n => isiT "tuple" n
  | .dK _, n => isiT "dict" n
  | _, _ => none
section
variable {X : Cx}
theorem call_isiS : CallR X (.builtin "isinstance") (fun xs H Q => ∃ x n, xs = [x, .ty n] ∧ ∃ b, isiV x n = some b ∧ Q (.bl b) H) := by
  intro pins s σ H xs us Q I r h
  obtain ⟨x, n, rfl, b, e, q⟩ := h
  refine call_isinst pins s σ H _ us Q I r ?_
  cases x with
  | int i => exact ⟨_, _, _, b, rfl, rfl, .int i, isi_int e, q⟩
  | bl i => exact ⟨_, _, _, b, rfl, rfl, .bl i, isi_bool e, q⟩
  | non => exact ⟨_, _, _, b, rfl, rfl, .non, isi_NoneType e, q⟩
  | str i => exact ⟨_, _, _, b, rfl, rfl, .str i, isi_str e, q⟩
  | _ => cases e
theorem call_isiO : CallR X (.builtin "isinstance") (fun xs H Q => ∃ a n, xs = [.ref a, .ty n] ∧ ∃ o, H a = some o ∧ ∃ b, isiO o n = some b ∧ Q (.bl b) H) := by
  intro pins s σ H xs us Q I r h
  obtain ⟨a, n, rfl, o, ho, b, e, q⟩ := h
  refine call_isinst pins s σ H _ us Q I r ?_
  cases o with
  | lst ys => exact ⟨_, _, _, b, rfl, rfl, .lst ho, isi_list e, q⟩
  | tup ys => exact ⟨_, _, _, b, rfl, rfl, .tup ho, isi_tuple e, q⟩
  | dK ys => exact ⟨_, _, _, b, rfl, rfl, .dK ho, isi_dict e, q⟩
  | _ => cases e
end
theorem isv_int_int {i : Int} : isiV (.int i) "int" = some true := (by decide : isiT "int" "int" = _)
theorem isv_int_bool {i : Int} : isiV (.int i) "bool" = some false := (by decide : isiT "int" "bool" = _)
theorem isv_int_str {i : Int} : isiV (.int i) "str" = some false := (by decide : isiT "int" "str" = _)
theorem isv_int_list {i : Int} : isiV (.int i) "list" = some false := (by decide : isiT "int" "list" = _)
theorem isv_int_tuple {i : Int} : isiV (.int i) "tuple" = some false := (by decide : isiT "int" "tuple" = _)
theorem isv_int_dict {i : Int} : isiV (.int i) "dict" = some false := (by decide : isiT "int" "dict" = _)
theorem isv_bool_int {i : Bool} : isiV (.bl i) "int" = some true := (by decide : isiT "bool" "int" = _)
theorem isv_bool_bool {i : Bool} : isiV (.bl i) "bool" = some true := (by decide : isiT "bool" "bool" = _)
theorem isv_bool_str {i : Bool} : isiV (.bl i) "str" = some false := (by decide : isiT "bool" "str" = _)
theorem isv_bool_list {i : Bool} : isiV (.bl i) "list" = some false := (by decide : isiT "bool" "list" = _)
theorem isv_bool_tuple {i : Bool} : isiV (.bl i) "tuple" = some false := (by decide : isiT "bool" "tuple" = _)
theorem isv_bool_dict {i : Bool} : isiV (.bl i) "dict" = some false := (by decide : isiT "bool" "dict" = _)
theorem isv_NoneType_int  : isiV (.non) "int" = some false := by decide
theorem isv_NoneType_bool  : isiV (.non) "bool" = some false := by decide
theorem isv_NoneType_str  : isiV (.non) "str" = some false := by decide
theorem isv_NoneType_list  : isiV (.non) "list" = some false := by decide
theorem isv_NoneType_tuple  : isiV (.non) "tuple" = some false := by decide
theorem isv_NoneType_dict  : isiV (.non) "dict" = some false := by decide
theorem isv_str_int {i : Str} : isiV (.str i) "int" = some false := (by decide : isiT "str" "int" = _)
theorem isv_str_bool {i : Str} : isiV (.str i) "bool" = some false := (by decide : isiT "str" "bool" = _)
theorem isv_str_str {i : Str} : isiV (.str i) "str" = some true := (by decide : isiT "str" "str" = _)
theorem isv_str_list {i : Str} : isiV (.str i) "list" = some false := (by decide : isiT "str" "list" = _)
theorem isv_str_tuple {i : Str} : isiV (.str i) "tuple" = some false := (by decide : isiT "str" "tuple" = _)
theorem isv_str_dict {i : Str} : isiV (.str i) "dict" = some false := (by decide : isiT "str" "dict" = _)
theorem iso_list_int {xs : List V} : isiO (.lst xs) "int" = some false := (by decide : isiT "list" "int" = _)
theorem iso_list_bool {xs : List V} : isiO (.lst xs) "bool" = some false := (by decide : isiT "list" "bool" = _)
theorem iso_list_str {xs : List V} : isiO (.lst xs) "str" = some false := (by decide : isiT "list" "str" = _)
theorem iso_list_list {xs : List V} : isiO (.lst xs) "list" = some true := (by decide : isiT "list" "list" = _)
theorem iso_list_tuple {xs : List V} : isiO (.lst xs) "tuple" = some false := (by decide : isiT "list" "tuple" = _)
theorem iso_list_dict {xs : List V} : isiO (.lst xs) "dict" = some false := (by decide : isiT "list" "dict" = _)
theorem iso_tuple_int {xs : List V} : isiO (.tup xs) "int" = some false := (by decide : isiT "tuple" "int" = _)
theorem iso_tuple_bool {xs : List V} : isiO (.tup xs) "bool" = some false := (by decide : isiT "tuple" "bool" = _)
theorem iso_tuple_str {xs : List V} : isiO (.tup xs) "str" = some false := (by decide : isiT "tuple" "str" = _)
theorem iso_tuple_list {xs : List V} : isiO (.tup xs) "list" = some false := (by decide : isiT "tuple" "list" = _)
theorem iso_tuple_tuple {xs : List V} : isiO (.tup xs) "tuple" = some true := (by decide : isiT "tuple" "tuple" = _)
theorem iso_tuple_dict {xs : List V} : isiO (.tup xs) "dict" = some false := (by decide : isiT "tuple" "dict" = _)
theorem iso_dict_int {xs : List (Key × V)} : isiO (.dK xs) "int" = some false := (by decide : isiT "dict" "int" = _)
theorem iso_dict_bool {xs : List (Key × V)} : isiO (.dK xs) "bool" = some false := (by decide : isiT "dict" "bool" = _)
theorem iso_dict_str {xs : List (Key × V)} : isiO (.dK xs) "str" = some false := (by decide : isiT "dict" "str" = _)
theorem iso_dict_list {xs : List (Key × V)} : isiO (.dK xs) "list" = some false := (by decide : isiT "dict" "list" = _)
theorem iso_dict_tuple {xs : List (Key × V)} : isiO (.dK xs) "tuple" = some false := (by decide : isiT "dict" "tuple" = _)
theorem iso_dict_dict {xs : List (Key × V)} : isiO (.dK xs) "dict" = some true := (by decide : isiT "dict" "dict" = _)
end L2
namespace L2
open PySem PySem.Spec PyProof.Rows
def CompIt (J : It) (caps : List Nat) (tt : TT) (te : TE) (σ : St) (H : Hp) (Q : VK) : Prop := ∃ (n : Nat) (W : Nat → List V → Hp → Prop), n ≤ sizeLine ∧ W 0 [] H ∧ ∀ i ys H2, W i ys H2 →
  (J.stop i H2 ∧ ∀ p, H2 p = none → Q (.ref p) (upd H2 p (.lst ys))) ∨
  (J.go i H2 ∧ i < n ∧ ∀ x H3, J.yld i H2 x H3 → tt (some x :: capV caps σ) H3 fun b H4 => if b = true then te (some x :: capV caps σ) H4 fun v H5 => W (i + 1) (ys ++ [v]) H5 else W (i + 1) ys H4)
theorem w_comp {caps : List Nat} {wi : TI} {tt : TT} {te : TE} {σ : St} {H : Hp} {Q : VK} : tComp caps wi tt te σ H Q = wi σ H fun J H1 => CompIt J caps tt te σ H1 Q := rfl
section
variable {lo : Int} {n : Nat} {K : PySem.W.Frag} {a : Addr} {caps : List Nat} {tt : TT} {te : TE} {σ : St} {H : Hp} {Q : VK}
theorem compR (Pv : Nat → List V → Hp → Prop) (hn : n ≤ sizeLine) (h0 : Pv 0 [] H)
    (hs : ∀ i ys H, i < n → Pv i ys H → tt (some (.int (lo + i)) :: capV caps σ) H fun b H4 => if b = true then te (some (.int (lo + i)) :: capV caps σ) H4 fun v H5 => Pv (i + 1) (ys ++ [v]) H5 else Pv (i + 1) ys H4)
    (hd : ∀ ys H, Pv n ys H → ∀ p, H p = none → Q (.ref p) (upd H p (.lst ys))) : CompIt (Itr lo n) caps tt te σ H Q := by
  refine ⟨n, fun i ys H => i ≤ n ∧ Pv i ys H, hn, ⟨Nat.zero_le _, h0⟩, ?_⟩
  rintro i ys H2 ⟨hi, p⟩
  by_cases hlt : i < n
  · refine .inr ⟨hlt, hlt, ?_⟩
    rintro x H3 ⟨rfl, rfl⟩
    have key := hs i ys H3 hlt p
    have e1 : ∀ H5 zs, Pv (i + 1) zs H5 → i + 1 ≤ n ∧ Pv (i + 1) zs H5 := fun _ _ h => ⟨hlt, h⟩
    have e2 : (fun (b : Bool) (H4 : Hp) => if b = true then te (some (.int (lo + i)) :: capV caps σ) H4 fun v H5 => Pv (i + 1) (ys ++ [v]) H5 else Pv (i + 1) ys H4) = fun b H4 => if b = true then te (some (.int (lo + i)) :: capV caps σ) H4 fun v H5 => i + 1 ≤ n ∧ Pv (i + 1) (ys ++ [v]) H5 else i + 1 ≤ n ∧ Pv (i + 1) ys H4 := by
      funext b H4
      have z : i + 1 ≤ n := hlt
      simp only [z, true_and]
    rw [e2] at key
    exact key
  · have e : i = n := by omega
    subst e
    exact .inl ⟨Nat.le_refl _, hd ys H2 p⟩
theorem compI (ns : List Int) (Pv : Nat → List V → Hp → Prop) (hn : ns.length ≤ sizeLine) (h0 : Pv 0 [] H) (hl : ∀ i ys H, Pv i ys H → SqL K H a (ns.map V.int))
    (hs : ∀ i (x : Int) ys H, ns[i]? = some x → Pv i ys H → tt (some (.int x) :: capV caps σ) H fun b H4 => if b = true then te (some (.int x) :: capV caps σ) H4 fun v H5 => Pv (i + 1) (ys ++ [v]) H5 else Pv (i + 1) ys H4)
    (hd : ∀ ys H, Pv ns.length ys H → ∀ p, H p = none → Q (.ref p) (upd H p (.lst ys))) : CompIt (Itl K a) caps tt te σ H Q := by
  refine ⟨ns.length, fun i ys H => i ≤ ns.length ∧ Pv i ys H, hn, ⟨Nat.zero_le _, h0⟩, ?_⟩
  rintro i ys H2 ⟨hi, p⟩
  have hS := hl i ys H2 p
  by_cases hlt : i < ns.length
  · obtain ⟨x, hx⟩ : ∃ x, ns[i]? = some x := ⟨ns[i], List.getElem?_eq_getElem hlt⟩
    have hv : (ns.map V.int)[i]? = some (.int x) := by rw [List.getElem?_map, hx]; rfl
    refine .inr ⟨⟨_, _, hS, hv⟩, hlt, ?_⟩
    rintro y H3 ⟨rfl, hy⟩
    have hxy : y = .int x := (Option.some.inj (hv.symm.trans (hy _ hS))).symm
    subst hxy
    have key := hs i x ys H3 hx p
    have e2 : (fun (b : Bool) (H4 : Hp) => if b = true then te (some (.int x) :: capV caps σ) H4 fun v H5 => Pv (i + 1) (ys ++ [v]) H5 else Pv (i + 1) ys H4) = fun b H4 => if b = true then te (some (.int x) :: capV caps σ) H4 fun v H5 => i + 1 ≤ ns.length ∧ Pv (i + 1) (ys ++ [v]) H5 else i + 1 ≤ ns.length ∧ Pv (i + 1) ys H4 := by
      funext b H4
      have z : i + 1 ≤ ns.length := hlt
      simp only [z, true_and]
    rw [e2] at key
    exact key
  · have e : i = ns.length := by omega
    subst e
    exact .inl ⟨⟨_, hS, by rw [List.length_map]; exact Nat.le_refl _⟩, hd ys H2 p⟩
end
theorem cx_K {CX : CXT} {P : Program} {w : World} {K : PySem.W.Frag} {mg : Str → Option Value} {base : Heap} {N : List Str} {qual : Str} {scope : Scope} {f : Addr} {cd : Value} {A : Around} {outer : List Env} {s : Shared} {H : Hp} {E : XK} : (cxOf CX P w K mg base N qual scope f cd A outer s H E).K = K := rfl
theorem cc_K {X : Cx} {N : List Str} {scope : Scope} {cl : List (Str × Addr)} {C : Addr} {s : Shared} {H : Hp} {fp : List Addr} : (compCx X N scope cl C s H fp).K = X.K := rfl
end L2
namespace Rv
open PySem PySem.Spec PyProof.Rows
section
variable {prog : Program} {w : World} {A : Around} {E : Value → Shared → Prop} {s : Shared}
end
section
variable {prog : Program} {w : World} {A : Around} {E : Value → Shared → Prop} {s : Shared}
end
end Rv
namespace L2
open PySem PySem.Spec PyProof.Rows
def Itv (K : PySem.W.Frag) (a : Addr) (n : Nat) : It :=
  ⟨fun i H => i < n ∧ ∃ xs, SqL K H a xs ∧ xs.length = n, fun i H x H' => H' = H ∧ ∀ xs, SqL K H a xs → xs[n - 1 - i]? = some x, fun i _ => n ≤ i⟩
section
variable {X : Cx} {tg e : Expr} {te : TE} {p p2 pos pos2 : Pos}
def iRev (K : PySem.W.Frag) (tl : TE) : TI := fun σ H R => tl σ H fun x H1 => ∃ a xs, x = .ref a ∧ SqL K H1 a xs ∧ R (Itv K a xs.length) H1
def tListRev (K : PySem.W.Frag) (te : TE) : TE := fun σ H Q => te σ H fun x H1 => ∃ a xs, x = .ref a ∧ SqL K H1 a xs ∧ ∀ l, H1 l = none → Q (.ref l) (upd H1 l (.lst xs.reverse))
end
theorem cut_to {α : Type} (f : α → V) (xs : List α) {k : Int} (hk : 0 ≤ k) : cutV (xs.map f) none (some k) = (xs.take k.toNat).map f := by
  obtain ⟨n, rfl⟩ : ∃ n : Nat, k = (n : Int) := ⟨k.toNat, by omega⟩
  unfold cutV
  rw [HT.sIx_none, HT.sIx_nat, List.drop_zero, Nat.sub_zero, Int.toNat_natCast, List.map_take]
  rcases Nat.le_total n (xs.map f).length with h | h
  · rw [Nat.min_eq_left h]
  · rw [Nat.min_eq_right h, List.take_of_length_le (Nat.le_refl _), List.take_of_length_le h]
theorem newH {H H1 : Hp} {p : Addr} {o : HO} (e : upd H p o = H1) (n : H p = none) : Same H H1 ∧ H1 p = some o := by
  subst e
  exact ⟨same_new n o, upd_same⟩
theorem w_tyl {K : PySem.W.Frag} {p : Addr} {H : Hp} : tyV K "list" (.ref p) H = ∃ xs, SqL K H p xs := by
  unfold tyV
  simp
section
variable {K : PySem.W.Frag} {H : Hp} {a b : Addr} {ns ms : List Int} {Q : VK}
theorem eqv_il : PyData.eqv (.list (ns.map PyData.int)) (.list (ms.map PyData.int)) = decide (ns = ms) := by
  rw [← eqvAll_ints]
  simp only [PyData.eqv]
theorem canLay_ints : ∀ ns : List Int, PyData.canLayAll0 (ns.map PyData.int) = true
  | [] => by simp [PyData.canLayAll0]
  | n :: r => by simp [PyData.canLayAll0, PyData.canLay0, canLay_ints r]
theorem depth_ints : ∀ ns : List Int, PyData.depthAll (ns.map PyData.int) = 0
  | [] => by simp [PyData.depthAll]
  | n :: r => by simp [PyData.depthAll, PyData.depth, depth_ints r]
theorem shaped_l (ns : List Int) : SeqAt.shaped (.list (ns.map PyData.int)) = true := by
  unfold SeqAt.shaped
  simp [PyData.canLay0, PyData.depth, canLay_ints, depth_ints]
theorem eqL (h : SqL K H a (ns.map V.int)) (h' : SqL K H b (ms.map V.int)) (q : Q (.bl (decide (ns = ms))) H) : rEqD K false (.ref a) (.ref b) H Q := by
  refine ⟨_, _, .lst h (DatVs.ints ns), .lst h' (DatVs.ints ms), shaped_l ns, shaped_l ms, ?_⟩
  rw [if_neg (by decide), eqv_il]
  exact q
theorem neL (h : SqL K H a (ns.map V.int)) (h' : SqL K H b (ms.map V.int)) (q : Q (.bl (!decide (ns = ms))) H) : rEqD K true (.ref a) (.ref b) H Q := by
  refine ⟨_, _, .lst h (DatVs.ints ns), .lst h' (DatVs.ints ms), shaped_l ns, shaped_l ms, ?_⟩
  rw [if_pos rfl, eqv_il]
  exact q
theorem eqL1 (h : SqL K H a (ns.map V.int)) (h' : SqL K H b (ns.map V.int)) (q : Q (.bl true) H) : rEqD K false (.ref a) (.ref b) H Q := eqL h h' (by rw [decide_eq_true rfl]; exact q)
theorem neL1 (h : SqL K H a (ns.map V.int)) (h' : SqL K H b (ns.map V.int)) (q : Q (.bl false) H) : rEqD K true (.ref a) (.ref b) H Q := neL h h' (by rw [decide_eq_true rfl]; exact q)
end
theorem seqI {t u : TS} {D : Ends} {σ : St} {H : Hp} (h : t { D with nx := u D } σ H) : tSeq t u D σ H := h
section
variable {X : Cx}
end
end L2
namespace Ul
open PySem PySem.Spec PyProof.Rows
section
variable {prog : Program} {w : World} {A : Around} {E : Value → Shared → Prop}
variable {s : Shared}
end
end Ul
namespace L2
open PySem PySem.Spec PyProof.Rows
section
variable {X : Cx} {pos : Pos}
def gLst (K : PySem.W.Frag) (n : Nat) (t : TGs) : TG := fun v σ H Q => ∃ a xs, v = .ref a ∧ SqL K H a xs ∧ xs.length = n ∧ t xs σ H Q
end
end L2
namespace L2
open PySem PySem.Spec PyProof.Rows
def CXE (P : Program) (w : World) : CXT := fun outer H s E e s' => ∃ (ea t : Addr) (C : Value) (vs : List Value) (B : Heap) (H' : Hp), e = .ref ea ∧ s'.os = s.os ∧ AllBare s'.gens ∧ Heap.FlyingW B outer ea C (.ref t) s'.heap ∧ s'.heap.TupAt t vs ∧ B.get? t = none ∧
  HOk P w H' B ∧ (∀ b o, s.heap.get? b = some o → H b = none → b ∉ frs outer → B.get? b = some o) ∧ (∀ b o, s.heap.get? b = some o → b ∉ frs outer → ∃ o', B.get? b = some o') ∧ Un (frs outer) [] H H' s.heap s'.heap ∧ E C none H'
section
variable {X : Cx} {pins : List (Addr × Obj)} {σ : St} {H H1 : Hp} {s s1 : Shared}
theorem frs_cons {env : Env} {L : Addr} {l : List Env} (h : env.frame = some L) {b : Addr} : b ∈ frs (env :: l) ↔ b = L ∨ b ∈ frs l := by
  unfold frs
  rw [List.filterMap_cons, h]
  exact List.mem_cons
theorem Inv.old (I : Inv X pins σ H s) {b : Addr} {o : Obj} (e : X.s₀.heap.get? b = some o) : b ≠ X.env.locals := fun z => by
  have h1 : @LT.lt Nat instLTNat b X.s₀.heap.objs.size := Heap.lt_size e
  have h2 : @LE.le Nat _ X.s₀.heap.objs.size X.env.locals := I.ok.above
  have z' : @Eq Nat b X.env.locals := z
  omega
theorem hid_ok {fs : List Addr} (I : Inv X pins σ H s) (hf : ∀ b ∈ fs, H b = none) : HOk X.prog X.w H (PySem.W.hideAll s.heap fs) := fun a o e => by
  have q : ObjOk X.prog X.w H s.heap a o := I.hok a o e
  refine q.stay (fun c u hc e' => PySem.W.hideAll_get _ e' fun z => ?_) (fun c e' => e') fun c zs e' => e'
  have h0 := hf c z
  rcases hc with hc | hc
  · rw [hc, e] at h0; cases h0
  · rw [hc] at h0; cases h0
theorem thr {M : Model} {h' : Heap} {ea : Addr} {C : Value} {vs : List Value} {E : XK} {EE : Value → Shared → Prop} (hst : X.stack = X.env :: X.outer) (hfr : X.env.frame = some X.env.locals) (hex : X.ex = []) (I : Inv X pins σ H s)
    (hx : Heap.MadeExcOf s.heap h' ea C vs) (hE : E C none H) :
    wpAny M X.A (leaving X.env (.ref ea)) (fun _ s'' => CXE X.prog X.w X.outer X.H₀ X.s₀ E (.ref ea) s'') EE { s with heap := h' } := by
  have hA : X.A.frames = some (X.env :: X.outer) := by rw [← hst]; exact I.ok.frames
  have fstk : ∀ b ∈ frs (X.env :: X.outer), H b = none := by rw [← hst]; exact I.stkFree
  have hfun : s.heap.FunFrames X.base (X.env :: X.outer) := by rw [← hst]; exact I.stack
  have hin : ∀ env ∈ (X.env :: X.outer), ∀ b, env.frame = some b → b ∈ frs (X.env :: X.outer) := fun env he b hb => List.mem_filterMap.mpr ⟨env, he, hb⟩
  refine wpAny_leaves_madeW (base := PySem.W.hideAll s.heap (frs (X.env :: X.outer))) hA hfr (fun b o q => PySem.W.of_hideAll _ q) (PySem.W.funFrames_hide hfun hin) hx fun h2 t fly tup tn up => ?_
  have u := I.base
  rw [hex] at u
  have keepB : ∀ b o, X.s₀.heap.get? b = some o → X.H₀ b = none → b ∉ frs X.outer → (PySem.W.hideAll s.heap (frs (X.env :: X.outer))).get? b = some o := fun b o e n nf => by
    refine PySem.W.hideAll_get _ (u.keep b o e n nf (by simp)) fun z => ?_
    rcases (frs_cons hfr).mp z with z | z
    · exact I.old e z
    · exact nf z
  have slots : ∀ b o, s.heap.get? b = some o → b ∈ frs (X.env :: X.outer) → ∃ sl, h2.get? b = some { o with slots := sl } := fun b o e hb => by
    obtain ⟨_, o', ho', hd⟩ := hfun.mem hb
    rw [e] at ho'
    cases ho'
    exact up b o (hx.keeps _ _ e) hd
  have thereB : ∀ b o, X.s₀.heap.get? b = some o → b ∉ frs X.outer → ∃ o', (PySem.W.hideAll s.heap (frs (X.env :: X.outer))).get? b = some o' := fun b o e nf => by
    obtain ⟨o', e1⟩ := u.there b o e (by simp)
    refine ⟨o', PySem.W.hideAll_get _ e1 fun z => ?_⟩
    rcases (frs_cons hfr).mp z with z | z
    · exact I.old e z
    · exact nf z
  refine ⟨ea, t, C, vs, _, H, rfl, I.os, I.bare, fly, tup, tn, hid_ok I fstk, keepB, thereB, ?_, hE⟩
  refine ⟨fun b o e n nf _ => fly.1 _ _ (keepB b o e n nf), fun b o e n hb _ => ?_, fun b o e n _ => u.free b o e n (by simp), fun b o e _ => ?_, u.tups, u.frzs, u.tbls⟩
  · obtain ⟨sl, e1⟩ := u.slot b o e n hb (by simp)
    obtain ⟨sl', e2⟩ := slots b _ e1 ((frs_cons hfr).mpr (.inr hb))
    exact ⟨sl', e2⟩
  · obtain ⟨o', e1⟩ := u.there b o e (by simp)
    by_cases hb : b ∈ frs (X.env :: X.outer)
    · obtain ⟨sl, e2⟩ := slots b _ e1 hb
      exact ⟨_, e2⟩
    · exact ⟨o', fly.1 _ _ (PySem.W.hideAll_get _ e1 hb)⟩
end
abbrev bmV : List Value := [.type "ValueError", .type "Exception", .type "BaseException", .type "object"]
abbrev ExcK (K : PySem.W.Frag) (C : Addr) : Prop := PySem.W.excIn K C bmV "ValueError.__new__" = true
theorem own_at {K : PySem.W.Frag} {h : Heap} {mg : Str → Option Value} {x : Str} {C : Addr} (X : K.In h) (e : mg x = some (.ref C)) (q : ExcK K C) : OwnCls x C bmV "ValueError.__new__" mg h := by
  refine ⟨e, ?_⟩
  unfold ExcK PySem.W.excIn at q
  split at q
  · rename_i dd cd sl ho
    split at q
    · rename_i C' bm k0 k1 k2 k3 n k5 hm hs
      simp only [Bool.and_eq_true, beq_iff_eq, Bool.not_eq_true'] at q
      obtain ⟨⟨⟨⟨⟨rfl, rfl⟩, hdel⟩, ht⟩, hok⟩, hni⟩ := q
      obtain ⟨nm, bs, mro, ns, qn, hd, sn, sub, ab, col, del⟩ := cd
      dsimp only at hm hdel hok hni
      subst hm hdel
      have hsl : sl = #[k0, k1, k2, k3, some (.builtin "ValueError.__new__"), k5] := by
        obtain ⟨l⟩ := sl
        simp only at hs
        rw [hs]
      subst hsl
      exact ⟨bm, ns, nm, qn, bs, hd, sn, sub, ab, col, dd, k0, k1, k2, k3, k5, _, X _ _ ho, .of_isNs (PySem.W.isNs_of_in X hok), PySem.W.nsMap_none_of_in X hok hni, PySem.W.tail_of_in X ht⟩
    · cases q
  · cases q
def Thr (X : Cx) (E : XK) : Prop := ∀ (pins : List (Addr × Obj)) (σ : St) (H : Hp) (s : Shared) (h' : Heap) (ea : Addr) (C : Value) (vs : List Value), Inv X pins σ H s → Heap.MadeExcOf s.heap h' ea C vs → E C none H → X.xe (.ref ea) { s with heap := h' }
def tRaise (C : Addr) (E : XK) (ta : TA) : TS := fun _ σ H => ta σ H fun vs H1 => vs.length ≤ sizeLine ∧ E (.ref C) none H1
section
variable {X : Cx} {x : Str} {C : Addr} {np cpos pos : Pos} {e : Expr} {es : List Expr} {ta : TA} {E : XK}
theorem ps_raise (hT : Thr X E) (hc : X.calm = true) (hg : Gl X x) (hm : X.mg x = some (.ref C)) (q : ExcK X.K C) (ha : PA X (e :: es) ta)
    (he : starEach (e :: es) X.env = (false, eval e X.env) :: starEach es X.env := by rfl) (hpl : (backTo cpos (starEach es X.env)).any (·.1) = false := by rfl) (hdb : (x == ("__debug__" : Str)) = false := by decide) :
    PS X (.Raise (some (.Call (.Name x np) (e :: es) [] cpos)) none pos) (tRaise C E ta) := by
  intro pins s σ H D I h
  have O := own_at I.ok.mod.kin hm q
  obtain ⟨tl, N, nm, qq, bs, hdct, sn, sub, ab, col, dd, k0, k1, k2, k3, k5, mN, hC, hN, hni, T⟩ := O.obj
  refine wpAny_Raise_call_subT (C := C) (nm := nm) (q := qq) (N := N) (bs := bs) (bm := tl) (hdct := hdct) (sn := sn) (sub := sub) (ab := ab) (col := col) (dd := dd) (k0 := k0) (k1 := k1) (k2 := k2) (k3 := k3) (k5 := k5)
    PySem.F.excBase_ValueError (mN := mN) (T.hasType PySem.F.excBase_ValueError.hasBase) (I.ok.hd hc) (by rw [he]; show (false || (backTo cpos (starEach es X.env)).any (·.1)) = false; rw [hpl]; rfl) hni (ld_glob I hg hm ⟨rfl, ?_⟩ hdb)
  have ha' := ha cpos pins s σ H _ I h
  rw [he] at ha' ⊢
  exact Calls.evalArgs_plain (thn ha' fun us s2 ⟨vs, H1, I1, r, z, hE⟩ => ⟨rfl, by rw [← r.length]; exact z, I1.bk _ _ hC, hN.keeps I1.bk, T.keeps I1.bk, fun h' ea hx => hT pins σ H1 s2 h' ea _ us I1 hx hE⟩)
end
section
variable {P : Program} {w : World} {K : PySem.W.Frag} {mg : Str → Option Value} {base : Heap}
theorem Fun.okE {x qual : Str} {st : Stmt} {f : Addr} {fd : FuncData} {N ps : List Str} {k : Nat} {sp : Sp} (F : Fun K x qual st f fd) (S : FnScope N ps (defScope st)) (len : ∀ vs H Q E, sp vs H Q E → vs.length = ps.length)
    (hbody : ∀ (cdv : Value) (A : Around) (outer : List Env) (s : Shared) (H : Hp) (vs : List V) (Q : VK) (E : XK), Room k (A.deeper (envOfC qual (defScope st) s.heap.objs.size f cdv)) → sp vs H Q E →
      ∃ t, PSs (cxOf (CXE P w) P w K mg base N qual (defScope st) f cdv A outer s H E) (defBody st) t ∧ t { nx := fun _ H' => Q .non H', rt := Q } (start N vs) H) : FnOk P w K mg base (CXE P w) (k + 1) f fd ps sp := by
  obtain ⟨oc, od, kV, doc, pm, an, cdv, ct, osl, rfl, lk, hcd⟩ := F.ex
  refine fn_of lk hcd S len fun A outer s H vs Q E hr hsp => ?_
  obtain ⟨t, h, q⟩ := hbody cdv A outer s H vs Q E hr hsp
  exact ⟨t, h, q⟩
variable {N : List Str} {qual : Str} {scope : Scope} {f : Addr} {cd : Value} {A : Around} {outer : List Env} {s : Shared} {H : Hp} {E : XK}
theorem thrE : Thr (cxOf (CXE P w) P w K mg base N qual scope f cd A outer s H E) E := fun _ _ _ _ _ _ _ _ I hx hE => thr rfl rfl rfl I hx hE
end
theorem pass00 {P : Program} {w : World} {X : Cx} : Passes (CXE P w) X E0 := fun _ _ _ _ _ _ _ hc => by
  obtain ⟨_, _, _, _, _, _, _, _, _, _, _, _, _, _, _, _, hE⟩ := hc
  exact hE.elim
structure DefE (P : Program) (w : World) (K : PySem.W.Frag) (mg : Str → Option Value) (base : Heap) (x : Str) (k : Nat) (ps : List Str) (sp : Sp) : Prop where
  ex : ∃ (f : Addr) (fd : FuncData), FnOk P w K mg base (CXE P w) k f fd ps sp ∧ Binds K fd ps [] ∧ PySem.W.keepIn K (.ref f) = true ∧ mg x = some (.ref f)
theorem defE_mk {P : Program} {w : World} {K : PySem.W.Frag} {mg : Str → Option Value} {base : Heap} {x qual : Str} {st : Stmt} {f : Addr} {fd : FuncData} {k : Nat} {ps : List Str} {sp : Sp} (F : Fun K x qual st f fd)
    (ok : FnOk P w K mg base (CXE P w) k f fd ps sp) (b : Binds K fd ps []) (m : mg x = some (.ref f)) : DefE P w K mg base x k ps sp := ⟨⟨f, fd, ok, b, F.kp, m⟩⟩
section
variable {X : Cx} {x : Str} {j k : Nat} {ps : List Str} {sp : Sp} {p pos : Pos} {e : Expr} {es : List Expr} {t : TA} {E : XK}
theorem pe_defE (hx : Passes (CXE X.prog X.w) X E) (D : DefE X.prog X.w X.K X.mg X.base x j ps sp) (hr : Room k X.A) (hg : Gl X x) (ha : PA X (e :: es) t) (hjk : j ≤ k := by decide) (hdb : (x == ("__debug__" : Str)) = false := by decide)
    (he : starEach (e :: es) X.env = (false, eval e X.env) :: starEach es X.env := by rfl) (hpl : (backTo pos (starEach es X.env)).any (·.1) = false := by rfl) :
    PE X (.Call (.Name x p) (e :: es) [] pos) (tCall sp [] E t) := by
  obtain ⟨f, fd, ok, b, kp, m⟩ := D.ex
  exact pe_call ok (hr.mono hjk) hg m kp b .nil hx ha hdb he hpl
end
end L2
namespace L2
open PySem PySem.Spec PyProof.Rows
abbrev Cx.inTry (X : Cx) (E : Value → Shared → Prop) (pn : List (Addr × Obj)) : Cx := { X with xe := E, pn := pn }
abbrev Cx.inExc (X : Cx) (e : Value) : Cx := { X with A := X.A.mark (some e), calm := false, xe := fun _ _ => False }
section
variable {X : Cx} {pins pins' : List (Addr × Obj)} {σ : St} {H H1 H' : Hp} {s s1 s' : Shared} {E : Value → Shared → Prop}
theorem Inv.inTry (I : Inv X pins σ H s) (E : Value → Shared → Prop) : Inv (X.inTry E (X.pn ++ pins)) [] σ H s :=
  ⟨⟨I.ok.mod, I.ok.kind, I.ok.glob, I.ok.blt, I.ok.above, I.ok.inj, I.ok.has, I.ok.cab, I.ok.hd, I.ok.frames, I.ok.stk, I.ok.exf, I.ok.bs, I.ok.bsz, I.ok.noex, I.ok.exfs, I.ok.funs, I.ok.frf⟩, I.os, I.bare, I.base, I.loc, I.cell, I.free, I.freeC,
    fun p hp => I.pin p (by simpa using hp), I.hok, I.len⟩
theorem Inv.outTry (I : Inv (X.inTry E (X.pn ++ pins)) pins' σ H s) : Inv X pins σ H s :=
  ⟨⟨I.ok.mod, I.ok.kind, I.ok.glob, I.ok.blt, I.ok.above, I.ok.inj, I.ok.has, I.ok.cab, I.ok.hd, I.ok.frames, I.ok.stk, I.ok.exf, I.ok.bs, I.ok.bsz, I.ok.noex, I.ok.exfs, I.ok.funs, I.ok.frf⟩, I.os, I.bare, I.base, I.loc, I.cell, I.free, I.freeC,
    fun p hp => I.pin p (List.mem_append_left _ hp), I.hok, I.len⟩
theorem Inv.inExc (I : Inv X pins σ H s) (e : Value) : Inv (X.inExc e) pins σ H s :=
  ⟨⟨I.ok.mod, I.ok.kind, I.ok.glob, I.ok.blt, I.ok.above, I.ok.inj, I.ok.has, I.ok.cab, fun z => (by cases z), I.ok.frames, I.ok.stk, I.ok.exf, I.ok.bs, I.ok.bsz, I.ok.noex, I.ok.exfs, I.ok.funs, I.ok.frf⟩, I.os, I.bare, I.base, I.loc, I.cell, I.free, I.freeC,
    I.pin, I.hok, I.len⟩
theorem Inv.outExc {hd : X.calm = true → X.A.handled = none} {fr : X.A.frames = some X.stack} {e : Value} (I : Inv (X.inExc e) pins σ H s) : Inv X pins σ H s :=
  ⟨⟨I.ok.mod, I.ok.kind, I.ok.glob, I.ok.blt, I.ok.above, I.ok.inj, I.ok.has, I.ok.cab, hd, fr, I.ok.stk, I.ok.exf, I.ok.bs, I.ok.bsz, I.ok.noex, I.ok.exfs, I.ok.funs, I.ok.frf⟩, I.os, I.bare, I.base, I.loc, I.cell, I.free, I.freeC,
    I.pin, I.hok, I.len⟩
theorem land {ea t : Addr} {C : Value} {B h5 : Heap} (I : Inv X pins σ H1 s1) (os : s'.os = s1.os) (bare : AllBare s'.gens) (fly : Heap.FlyingW B X.stack ea C (.ref t) s'.heap) (stay : B.StaysIn h5) (up : s'.heap.UpToSlots h5)
    (hok : HOk X.prog X.w H' B) (kB : ∀ b o, s1.heap.get? b = some o → H1 b = none → b ∉ frs X.stack → B.get? b = some o) (tB : ∀ b o, s1.heap.get? b = some o → b ∉ frs X.stack → ∃ o', B.get? b = some o')
    (un : Un (frs X.stack) [] H1 H' s1.heap s'.heap) : Inv X pins σ H' { s' with heap := h5 } := by
  have slots : ∀ b o, s'.heap.get? b = some o → b ∈ frs X.stack → ∃ sl, h5.get? b = some { o with slots := sl } := fun b o e hb => by
    obtain ⟨_, o', ho', hd⟩ := fly.2.2.1.mem hb
    rw [e] at ho'
    cases ho'
    exact up b o e hd
  have un5 : Un (frs X.stack) [] H1 H' s1.heap h5 := by
    refine ⟨fun b o e n nf _ => stay _ _ (kB b o e n nf), fun b o e n hb _ => ?_, un.free, fun b o e _ => ?_, un.tups, un.frzs, un.tbls⟩
    · obtain ⟨sl, e1⟩ := un.slot b o e n hb (by simp)
      obtain ⟨sl2, e2⟩ := slots b _ e1 hb
      exact ⟨sl2, e2⟩
    · by_cases hb : b ∈ frs X.stack
      · obtain ⟨o', e1⟩ := un.there b o e (by simp)
        obtain ⟨sl, e2⟩ := slots b _ e1 hb
        exact ⟨_, e2⟩
      · obtain ⟨o', e1⟩ := tB b o e hb
        exact ⟨o', stay _ _ e1⟩
  exact I.call' (s' := { s' with heap := h5 }) (ch := []) os un5 (hok.kept stay) bare fun b hb => by cases hb
theorem typ_exc {M : Model} {h : Heap} {e : Addr} {o : Obj} {c : Value} (h1 : h.get? e = some o) (h2 : o.cls = c) : PySem.W.Looks M h (typeOf (.ref e)) c := by
  intro A Q E s k q
  unfold typeOf
  exact wpAny_bind (wpAny_loadPart (k _ _ h1) (wpAny_pure (by rw [h2]; exact q)))
def PassX (X : Cx) (EE : St → XK) : Prop := ∀ (pins : List (Addr × Obj)) (σ : St) (H : Hp) (s : Shared) (e : Value) (s' : Shared), Inv X pins σ H s → CXE X.prog X.w X.stack H s (EE σ) e s' → X.xe e s'
def tCallX (sp : Sp) (EE : St → XK) (t : TA) : TE := fun σ H Q => t σ H fun vs H1 => sp vs H1 Q (EE σ)
end
section
variable {X : Cx} {x : Str} {j k : Nat} {ps : List Str} {sp : Sp} {p pos : Pos} {e : Expr} {es : List Expr} {t : TA} {EE : St → XK}
theorem pe_defX (hx : PassX X EE) (D : DefE X.prog X.w X.K X.mg X.base x j ps sp) (hr : Room k X.A) (hg : Gl X x) (ha : PA X (e :: es) t) (hjk : j ≤ k := by decide) (hdb : (x == ("__debug__" : Str)) = false := by decide)
    (he : starEach (e :: es) X.env = (false, eval e X.env) :: starEach es X.env := by rfl) (hpl : (backTo pos (starEach es X.env)).any (·.1) = false := by rfl) :
    PE X (.Call (.Name x p) (e :: es) [] pos) (tCallX sp EE t) := by
  obtain ⟨f, fd, F, hb, kp, m⟩ := D.ex
  intro pins s σ H Q I h
  refine wpAny_Call_Name_kw (ld_glob I hg m ?_ hdb)
  refine PySem.W.callWith_K (h₀ := X.base) I.ok.mod.kin kp (thn (ha pos pins s σ H _ I h) fun us s1 ⟨vs, H1, I1, r, q⟩ => ⟨I1.kIn, ?_⟩) he hpl
  have hl : us.length = ps.length := by rw [← r.length]; exact F.len _ _ _ _ q
  have hbs : BindsTo s1 fd ⟨us, []⟩ (ps.zip us) := by
    have := hb s1 us I1.kIn (by rw [List.append_nil]; exact hl)
    rwa [List.append_nil] at this
  refine wpAny_call (codeAny_mono (F.run X.A X.stack s1 H1 ⟨us, []⟩ us vs Q (EE σ) (hr.mono hjk) I1.env0 hbs r q) fun r s' hq => ?_)
  cases r with
  | error e => exact hx pins σ H1 s1 e s' I1 hq
  | ok fl =>
    cases fl with
    | ret u => exact I1.after hq
    | next => exact False.elim hq
    | brk => exact False.elim hq
    | cont => exact False.elim hq
end
section
variable {X : Cx} {body suite : List Stmt} {b₀ : Stmt} {D : Addr} {cx : Str} {np hpos pos : Pos} {tb : (St → XK) → TS} {ts : TS}
def tTry (K : PySem.W.Frag) (D : Addr) (tb : (St → XK) → TS) (ts : TS) : TS := fun En σ H => tb (fun σ1 C _ H1 => PySem.W.exmOne K C (.ref D) = some true ∧ ts En σ1 H1) En σ H
end
def clK (K : PySem.W.Frag) (x : Str) : Addr := match PySem.W.nsIn K mainGlobals x with
  | some (some (.ref C)) => C
  | _ => 0
theorem clK_of {K : PySem.W.Frag} {x : Str} {C : Addr} (h : PySem.W.nsIn K mainGlobals x = some (some (.ref C))) : clK K x = C := by
  unfold clK
  rw [h]
end L2
namespace Xc
open PySem PySem.W PySem.Spec PySem.Calls PyProof.Rows Builtin.ObjectAttr
structure ExcC (K : Frag) (C : Addr) : Prop where
  ga : findIn K (.ref C) "__getattribute__" = some (some (.builtin "BaseException.__getattribute__"))
  gh : findIn K (.ref C) "__getattr__" = some none
  ca : findIn K (.ref C) "__class__" = some (some (.builtin "object.__class__"))
  gg : specialIn K (.builtin "object.__class__") "__get__" = some (some (.builtin "getset_descriptor.__get__"))
  tk : takesIn K (.builtin "object.__class__") = some true
  mo : mroIn K C (.type "object") = some true
  mb : mroIn K C (.type "BaseException") = some true
  hd : hasDictIn K C = true
section
variable {prog : Program} {w : World} {A : Around} {E : Value → Shared → Prop} {s : Shared} {K : Frag} {x C : Addr} {ox : Obj} {odo : Option Obj}
theorem typ {M : Model} {h : Heap} (hx : h.get? x = some ox) (hc : ox.cls = .ref C) : Looks M h (typeOf (.ref x)) (.ref C) := hc ▸ (Looks.ld hx).andThen .now
theorem exc_found {M : Model} {h : Heap} (F : ExcC K C) (X : K.In h) : Looks M h (find (.ref x) (.ref C) "__class__") (.bind (.builtin "getset_descriptor.__get__") (.builtin "object.__class__")) := by
  have L1 := looks_findIn (M := M) X F.ca
  have L2 : Looks M h (getOf (some (.builtin "object.__class__"))) (some (.builtin "getset_descriptor.__get__")) := looks_specialIn X F.gg
  have L3 := looks_takesIn (M := M) X F.tk
  refine L1.andThen (L2.andThen ?_)
  exact (show Looks M h (dataDescriptor? (some (.builtin "object.__class__")) (some (.builtin "getset_descriptor.__get__"))) (some (.builtin "getset_descriptor.__get__", .builtin "object.__class__")) from L3.andThen .now).andThen (Looks.tag .now)
open Builtin Builtin.Getset_descriptor in
theorem exc_get {tp : Value} {R : Result → Shared → Prop} (X : K.In s.heap) (hx : s.heap.get? x = some ox) (hc : ox.cls = .ref C) (hm : mroIn K C (.type "object") = some true)
    (h : R (.ok (.ret (.ref C))) s) : codeAny (model prog w) A (.call (.builtin "getset_descriptor.__get__") ⟨[.builtin "object.__class__", .ref x, tp], []⟩) R s := by
  obtain ⟨hh, g, dr, t, os⟩ := s
  have L0 := typ (M := model prog w) hx hc
  have L1 := looks_mroIn (M := model prog w) X hm
  refine codeAny_call_builtin KF.slot_gs.plain KF.entry_gs (KF.slot_gs.check _ _ _ _ _ _ _ _ KF.type_class (KF.args_gs _ _ _) ?_)
  unfold Builtin.«getset_descriptor.__get__» descrGet
  rw [dga_obj]
  refine wpAny_bind (wpAny_pure ?_)
  unfold descrGetter descrCheckInstance descrNameAndClass isInstance
  simp only [KF.owner_class]
  repeat lk
  refine ⟨Code.quiet_builtin _ (by decide +kernel), codeAny_builtin KF.entry_class ?_⟩
  unfold Builtin.«object.__class__» shownTypeOf
  repeat lk
  exact h
theorem exc_check {nameV : Value} {Q : Unit → Shared → Prop} (F : ExcC K C) (X : K.In s.heap) (hx : s.heap.get? x = some ox) (hc : ox.cls = .ref C) (hq : Q () s) :
    wpAny (model prog w) A (checkBuiltinCall "BaseException.__getattribute__" ⟨[.ref x, nameV], []⟩) Q E s := by
  have hk : builtinKind "BaseException.__getattribute__" = some .slot := by decide +kernel
  have hsplit : splitId "BaseException.__getattribute__" = some ("BaseException", "__getattribute__") := by decide +kernel
  have LI : Looks (model prog w) s.heap (isInstance (.ref x) (.type "BaseException")) true := (typ (M := model prog w) hx hc).andThen (looks_mroIn X F.mb)
  have ha := PySem.F.args_bexc_ga (.ref x) nameV
  obtain ⟨hh, g, d, t, os⟩ := s
  simp only [checkBuiltinCall, hk, hsplit]
  refine wpAny_bind (LI.at ?_)
  repeat (first | assumption | wp_step)
  all_goals exact hq
theorem exc_entry {tk : Tok} {Q : Fin → Shared → Prop} (F : ExcC K C) (X : K.In s.heap) (hx : s.heap.get? x = some ox) (hc : ox.cls = .ref C) (hq : Q (.done (.ret (.ref C))) s) :
    wpAny (model prog w) A (Builtin.«object.__getattribute__» ⟨[.ref x, .str "__class__" tk], []⟩) Q E s := by
  have L0 := typ (M := model prog w) hx hc
  have L1 := exc_found (M := model prog w) (x := x) F X
  obtain ⟨hh, g, d, t, os⟩ := s
  unfold Builtin.«object.__getattribute__»
  refine wpAny_bind (wpAny_pure ?_)
  refine wpAny_bind (wpAny_pure ?_)
  refine wpAny_bind (L0.at ?_)
  refine wpAny_bind (L1.at ?_)
  show wpAny _ _ (holding [Value.builtin "object.__class__"] (call (.builtin "getset_descriptor.__get__") [.builtin "object.__class__", .ref x, .ref C]) >>= ret) _ _ _
  exact wpAny_bind (wpAny_holding (wpAny_call (exc_get X hx hc F.mo (wpAny_pure hq))))
theorem exc_class {Q : Option Value → Shared → Prop} (F : ExcC K C) (X : K.In s.heap) (hx : s.heap.get? x = some ox) (hc : ox.cls = .ref C) (h : Q (some (.ref C)) { s with toks := s.toks + 1 }) : wpAny (model prog w) A (getAttr? (.ref x) "__class__") Q E s := by
  have L0 := typ (M := model prog w) hx hc
  have L1 := looks_findIn (M := model prog w) X F.ga
  have L2 := looks_findIn (M := model prog w) X F.gh
  have B := PySem.F.attrBase_ValueError
  obtain ⟨hh, g, d, t, os⟩ := s
  unfold getAttr? getAttrBy? getAttrBy
  refine wpAny_bind (wpAny_mkText (wpAny_bind (wpAny_attempt (wpAny_holding (wpAny_bind (L0.at (wpAny_bind (L1.at ?_))))))))
  have hx2 : (Value.builtin "BaseException.__getattribute__" == Value.builtin "object.__getattribute__") = false := by decide +kernel
  have hx1 : (onTheHeap (Value.ref C) && Value.builtin "BaseException.__getattribute__" == Value.builtin "object.__getattribute__") = false := by rw [hx2]; rfl
  show wpAny _ _ (if (onTheHeap (Value.ref C) && Value.builtin "BaseException.__getattribute__" == Value.builtin "object.__getattribute__") = true then _ else getAttrByItsOwn (.ref x) _ (.ref C) (.builtin "BaseException.__getattribute__") false false) _ _ _
  rw [hx1, if_neg (by decide)]
  unfold getAttrByItsOwn
  refine wpAny_bind ?_
  show wpAny _ _ (typeLookup (.ref C) "__getattr__") _ _ _
  refine L2.at ?_
  refine wpAny_bind (wpAny_attempt (wpAny_holding ?_))
  show wpAny _ _ (boundAndCalled (.builtin "BaseException.__getattribute__") (.ref x) _) _ _ _
  unfold boundAndCalled
  refine wpAny_bind (wpAny_of_eq (B.ga.bind (.ref x)) ?_)
  refine wpAny_call (codeAny_call_builtin B.ga.plain PySem.F.entry_bexc_ga (exc_check F (s := ⟨hh, g, d, t + 1, os⟩) X hx hc (exc_entry F (s := ⟨hh, g, d, t + 1, os⟩) X hx hc ?_)))
  show wpAny _ _ (handedOut (.ref C)) _ _ _
  exact handed_on rfl (wpAny_pure h)
theorem kitx_exc (F : ExcC K C) : KitX K (.ref x) (.ref C) (fun h => ∃ ox, h.get? x = some ox ∧ ox.cls = .ref C) where
  ty := fun _ _ _ ⟨_, hx, hc⟩ => typ hx hc
  it := fun _ _ X _ => by
    obtain ⟨cdD, hcD, _⟩ := any_some F.hd
    unfold clsIn at hcD
    split at hcD
    · rename_i c' d' cd' sl' ho
      intro A' Q' E' s' k q
      unfold isType loadHead
      exact wpAny_bind (wpAny_loadPart (k _ _ (X _ _ ho)) (wpAny_pure q))
    · cases hcD
  ne := fun h tp dd its n sl X htp => by
    obtain ⟨cdD, hcD, _⟩ := any_some F.hd
    refine Bool.eq_false_iff.mpr fun q => ?_
    have e : C = tp := Value.ref.inj (beq_iff_eq.mp q)
    subst e
    unfold clsIn at hcD
    split at hcD
    · rename_i c' d' cd' sl' ho
      have z := (X _ _ ho).symm.trans htp
      cases z
    · cases hcD
  ca := fun X ⟨_, hx, hc⟩ k => exc_class F X hx hc k
end
end Xc
namespace L2
open PySem PySem.Spec PyProof.Rows
def ExcO (a C : Addr) : HO := .ext fun h => ∃ ox : Obj, h.get? a = some ox ∧ ox.cls = .ref C
section
variable {X : Cx} {pins : List (Addr × Obj)} {σ : St} {H H1 H' : Hp} {s s1 s' : Shared}
theorem objOk_there {P : Program} {w : World} {H : Hp} {h : Heap} {a : Addr} {o : HO} (x : ObjOk P w H h a o) : ∃ ob, h.get? a = some ob := by
  cases o with
  | lst xs => obtain ⟨_, _, _, _, e⟩ := x; exact ⟨_, e⟩
  | tup xs => obtain ⟨_, _, _, p⟩ := x; obtain ⟨o, e, _⟩ := p; exact ⟨o, e⟩
  | dK kvs => obtain ⟨_, _, _, _, o, _, _, e, _⟩ := x; exact ⟨_, e⟩
  | dT kvs => obtain ⟨_, _, _, _, o, _, _, e, _⟩ := x; exact ⟨_, e⟩
  | set S n => obtain ⟨o, _, _, _, e, _⟩ := x; exact ⟨_, e⟩
  | ins C dx fs => obtain ⟨_, _, _, e, _⟩ := x; exact ⟨_, e⟩
  | own y => obtain ⟨_, e⟩ := x; exact ⟨_, e⟩
  | xd fs => obtain ⟨_, ⟨_, _, _, e, _⟩, _⟩ := x; exact ⟨_, e⟩
  | rng lo hi => obtain ⟨_, _, _, e⟩ := x; exact ⟨_, e⟩
  | frz ob u => obtain ⟨e, _⟩ := x; exact ⟨_, e⟩
  | tbl ps => exact ⟨_, show h.get? a = some _ from x⟩
  | met f y => exact ⟨_, show h.get? a = some _ from x⟩
  | ext φ => obtain ⟨_, ⟨_, e⟩, _⟩ := x; exact ⟨_, e⟩
theorem landX {ea t Ca : Addr} {B h5 : Heap} (I : Inv X pins σ H1 s1) (os : s'.os = s1.os) (bare : AllBare s'.gens) (fly : Heap.FlyingW B X.stack ea (.ref Ca) (.ref t) s'.heap) (fly5 : Heap.FlyingW B X.stack ea (.ref Ca) (.ref t) h5) (up : s'.heap.UpToSlots h5)
    (hok : HOk X.prog X.w H' B) (kB : ∀ b o, s1.heap.get? b = some o → H1 b = none → b ∉ frs X.stack → B.get? b = some o) (tB : ∀ b o, s1.heap.get? b = some o → b ∉ frs X.stack → ∃ o', B.get? b = some o')
    (un : Un (frs X.stack) [] H1 H' s1.heap s'.heap) : H' ea = none ∧ Inv X pins σ (upd H' ea (ExcO ea Ca)) { s' with heap := h5 } := by
  have stay := fly5.1
  have hn : H' ea = none := by
    cases q : H' ea with
    | none => rfl
    | some o =>
      have h1 := (hok ea o q).lt
      obtain ⟨ob, hob⟩ : ∃ ob, B.get? ea = some ob := by
        have := hok ea o q
        exact objOk_there this
      rw [fly.2.1] at hob
      cases hob
  have new : ∀ b o, s1.heap.get? b = some o → b ≠ ea := fun b o e z => by
    subst z
    by_cases hb : b ∈ frs X.stack
    · obtain ⟨_, o', ho', hd⟩ := fly.2.2.1.mem hb
      obtain ⟨oe, vs, h1, _, h2, _⟩ := fly.first
      rw [h1] at ho'
      cases ho'
      exact hd _ h2
    · obtain ⟨o', e1⟩ := tB b o e hb
      rw [fly.2.1] at e1
      cases e1
  have slots : ∀ b o, s'.heap.get? b = some o → b ∈ frs X.stack → ∃ sl, h5.get? b = some { o with slots := sl } := fun b o e hb => by
    obtain ⟨_, o', ho', hd⟩ := fly.2.2.1.mem hb
    rw [e] at ho'
    cases ho'
    exact up b o e hd
  have un5 : Un (frs X.stack) [] H1 (upd H' ea (ExcO ea Ca)) s1.heap h5 := by
    refine ⟨fun b o e n nf _ => stay _ _ (kB b o e n nf), fun b o e n hb _ => ?_, fun b o e n hx => by rw [upd_ne (new b o e)]; exact un.free b o e n hx, fun b o e _ => ?_,
      fun b zs e => by have q := un.tups b zs e; rw [upd_ne (ne_of_none q hn)]; exact q, fun b o v e => by have q := un.frzs b o v e; rw [upd_ne (ne_of_none q hn)]; exact q, fun b ps e => ?_⟩
    · obtain ⟨sl, e1⟩ := un.slot b o e n hb (by simp)
      obtain ⟨sl2, e2⟩ := slots b _ e1 hb
      exact ⟨sl2, e2⟩
    · by_cases hb : b ∈ frs X.stack
      · obtain ⟨o', e1⟩ := un.there b o e (by simp)
        obtain ⟨sl, e2⟩ := slots b _ e1 hb
        exact ⟨_, e2⟩
      · obtain ⟨o', e1⟩ := tB b o e hb
        exact ⟨o', stay _ _ e1⟩
    · obtain ⟨more, q⟩ := un.tbls b ps e
      exact ⟨more, by rw [upd_ne (ne_of_none q hn)]; exact q⟩
  have hok5 : HOk X.prog X.w (upd H' ea (ExcO ea Ca)) h5 := fun a o e => by
    by_cases ha : a = ea
    · subst ha
      rw [upd_same] at e
      cases e
      obtain ⟨oe, vs, h1, h2, _⟩ := fly5.first
      exact ⟨⟨oe, h1, h2⟩, ⟨oe, h1⟩, fun h1 h2 ⟨ox, e1, e2⟩ k => ⟨ox, k ox e1, e2⟩⟩
    · rw [upd_ne ha] at e
      have q : ObjOk X.prog X.w H' B a o := hok a o e
      refine q.stay (fun c u hc e' => stay _ _ e') (fun c e' => ?_) fun c zs e' => ?_
      · rw [upd_ne (ne_of_none e' hn)]; exact e'
      · rw [upd_ne (ne_of_none e' hn)]; exact e'
  exact ⟨hn, I.call' (s' := { s' with heap := h5 }) (ch := []) os un5 hok5 bare fun b hb => by cases hb⟩
theorem del_ok {M : Model} {A : Around} {E : Value → Shared → Prop} {i : Nat} {x : Str} {pos : Pos} {Q : Unit → Shared → Prop} {v : V} (I : Inv X pins σ H s) (hN : X.N.Nodup) (hi : X.N[i]? = some x) (hk : X.env.scope.names.lookup x = some .local) (hv : σ[i]? = some (some v))
    (h : ∀ s', Inv X pins (σ.set i none) H s' → Q () s') : wpAny M A (unbindBehindTheSuite X.env x pos) Q E s := by
  obtain ⟨m, hn, hl⟩ := id I.loc
  have hcls : (X.env.scope.kind == .class || (X.env.scope.kind == .module && X.env.locals != X.env.globals)) = false := by rw [I.ok.kind]; rfl
  have hiσ : i < σ.length := by rw [I.len]; exact (List.getElem?_eq_some_iff.mp hi).1
  have cne := I.cne
  obtain ⟨u, _, lk⟩ := hl i x v hi hv (.inl hk)
  have hmx : m x = some u := by
    rcases lk with ⟨_, e⟩ | ⟨z, _⟩
    · exact e
    · have hk' : X.env.kindOf x = some .local := hk
      rw [hk'] at z
      rcases z with z | z <;> cases z
  have tracked : ∀ {a : Addr} {h' : Heap}, (∃ o, s.heap.get? a = some o ∧ H a = none) → Heap.SameBut a s.heap h' → HOk X.prog X.w H h' := fun {a h'} ha hs b ob e => by
    obtain ⟨_, _, hfree⟩ := ha
    refine (I.hok b ob e).stay (fun c w' hc q => (hs.2 c ?_).trans q) (fun _ q => q) fun _ _ q => q
    rintro rfl
    rcases hc with rfl | hc
    · rw [hfree] at e; cases e
    · rw [hfree] at hc; cases hc
  unfold unbindBehindTheSuite
  refine wpAny_onRaise (wpAny_unbindName_local hk hn hmx hcls fun h' u' hn' hs => ?_)
  obtain ⟨oL, _, _, hoL, _⟩ := id hn
  refine h _ ⟨I.ok, I.os, I.bare, ⟨fun b o e n hb hx => ?_, fun b o e n hb hx => ?_, I.base.free, fun b o e hx => ?_, I.base.tups, I.base.frzs, I.base.tbls⟩, ⟨_, hn', fun j y v' e1 e2 e3 => ?_⟩, fun y c e => ?_, I.free, I.freeC, fun p hp => ?_, tracked ⟨oL, hoL, I.free⟩ hs, by simpa using I.len⟩
  · exact (hs.2 b (Nat.ne_of_lt (Nat.lt_of_lt_of_le (Heap.lt_size e) I.ok.above))).trans (I.base.keep b o e n hb hx)
  · obtain ⟨sl, e1⟩ := I.base.slot b o e n hb hx
    exact ⟨sl, (hs.2 b (Nat.ne_of_lt (Nat.lt_of_lt_of_le (Heap.lt_size e) I.ok.above))).trans e1⟩
  · obtain ⟨o', e1⟩ := I.base.there b o e hx
    exact ⟨o', (hs.2 b (Nat.ne_of_lt (Nat.lt_of_lt_of_le (Heap.lt_size e) I.ok.above))).trans e1⟩
  · by_cases hj : j = i
    · subst hj
      rw [List.getElem?_set_self hiσ] at e2
      cases e2
    · rw [List.getElem?_set_ne (Ne.symm hj)] at e2
      obtain ⟨u2, r', q⟩ := hl j y v' e1 e2 e3
      refine ⟨u2, r', ?_⟩
      rcases q with ⟨k, e⟩ | ⟨k, c, e, z⟩
      · refine .inl ⟨k, ?_⟩
        have : y ≠ x := fun e => hj (nodup_ix hN e1 (e ▸ hi))
        simp [this, e]
      · exact .inr ⟨k, c, e, z.sameBut hs (cne y c e)⟩
  · obtain ⟨w', z⟩ := I.cell y c e
    exact ⟨w', z.sameBut hs (cne y c e)⟩
  · obtain ⟨e, n, ne, nf, d⟩ := I.pin p hp
    exact ⟨(hs.2 p.1 ne).trans e, n, ne, nf, d⟩
theorem call_isiX {K : PySem.W.Frag} (hK : X.K = K) : CallR X (.builtin "isinstance") (fun xs H Q => ∃ a y, xs = [.ref a, y] ∧ isCls y = true ∧ ∃ C, H a = some (ExcO a C) ∧ Xc.ExcC K C ∧ ∃ b, PySem.W.kitOne K (.ref C) (clsV y) = some b ∧ Q (.bl b) H) := by
  subst hK
  intro pins s σ H xs us Q I r h
  obtain ⟨a, y, rfl, hy, C, ho, F, b, e, q⟩ := h
  obtain ⟨u, w', rfl, rx, ry⟩ := vals2 r
  have ec : w' = clsV y := by
    cases y <;> first
      | (simp [isCls] at hy; done)
      | exact ry
  subst ec
  cases (show u = Value.ref a from rx)
  obtain ⟨⟨ox, h1, h2⟩, _⟩ := (show ObjOk X.prog X.w H s.heap a (ExcO a C) from I.hok a _ ho)
  exact PySem.W.kia_one (Xc.kitx_exc F) I.kIn ⟨ox, h1, h2⟩ e (fun z => nomatch z) fun tk => ⟨.bl b, H, I.tok tk, rfl, q⟩
end
section
variable {X : Cx} {body suite : List Stmt} {b₀ : Stmt} {D : Addr} {cx n : Str} {i : Nat} {np hpos pos : Pos} {tb : (St → XK) → TS} {ts : TS}
def Ends.gone (En : Ends) (i : Nat) : Ends := ⟨fun σ H => En.nx (σ.set i none) H, En.rt, fun σ H => En.bk (σ.set i none) H, fun σ H => En.ct (σ.set i none) H⟩
def tTryAs (K : PySem.W.Frag) (D : Addr) (i : Nat) (tb : (St → XK) → TS) (ts : TS) : TS := fun En σ H =>
  tb (fun σ1 C _ H1 => PySem.W.exmOne K C (.ref D) = some true ∧ ∃ Ca, C = .ref Ca ∧ ∀ ea, H1 ea = none → ts (En.gone i) (σ1.set i (some (.ref ea))) (upd H1 ea (ExcO ea Ca))) En σ H
theorem ps_tryAs (hst : X.stack = X.env :: X.outer) (hfr : X.env.frame = some X.env.locals) (hg : Gl X cx) (hm : X.mg cx = some (.ref D)) (hN : X.N.Nodup) (hi : X.N[i]? = some n) (hk : X.env.scope.names.lookup n = some .local)
    (hb : ∀ E pn EE, PassX (X.inTry E pn) EE → PSs (X.inTry E pn) body (tb EE)) (hs : ∀ e, PSs (X.inExc e) (b₀ :: suite) ts) (hdb : (cx == ("__debug__" : Str)) = false := by decide) :
    PS X (.Try body [.ExceptHandler (some (.Name cx np)) (some n) (b₀ :: suite) hpos] [] [] pos) (tTryAs X.K D i tb ts) := by
  intro pins s σ H En I h
  refine wpAny_Try_except (wpAny_mono (hb (fun e s₁ => wpAny (model X.prog X.w) X.A (noteFrame e X.env) (fun _ s₂ => wpAny (model X.prog X.w) X.A (setFlight e none) (fun _ s₃ =>
    wpAny (model X.prog X.w) X.A (handleBy e X.env [.ExceptHandler (some (.Name cx np)) (some n) (b₀ :: suite) hpos]) (SP X pins En) X.xe s₃) X.xe s₂) X.xe s₁) (X.pn ++ pins) _ ?_ [] s σ H En (I.inTry _) h) (fun f s1 hq => ?_) fun e s1 hq => hq)
  · intro pins' σ1 H1 s1 e s' I1 hc
    have J := I1.outTry
    obtain ⟨ea, t, C, vs, B, H', rfl, os, bare, fly, tup, tn, hok, kB, tB, un, hmt, Ca, rfl, hts⟩ := hc
    have fly' : Heap.FlyingW B (X.env :: X.outer) ea (.ref Ca) (.ref t) s'.heap := by rw [← hst]; exact fly
    refine wpAny_looks_onW (by rw [← hst]; exact I.ok.frames) hfr fly' fun h4 held4 up4 => ?_
    refine wpAny_landsW held4 fun h5 fly5 up5 => ?_
    have up := up4.trans up5
    have J5 : Inv X pins σ1 H' { s' with heap := h5 } := land J os bare fly fly5.1 up hok kB tB un
    obtain ⟨ob, hob, hobc⟩ := fly5.there
    refine wpAny_handleBy_cons (codeAny_handlers_test (ld_glob (J5.inExc (.ref ea)) hg hm ?_ hdb)) (by intro q; cases q)
    refine (PySem.W.exm_one J5.kIn (typ_exc hob hobc) hmt).at ?_
    refine codeAny_handlers_suite_as ?_
    refine lands_againW fly5 fun h6 fly6 up6 => ?_
    obtain ⟨hn, J6⟩ := landX J os bare fly (by rw [hst]; exact fly6) (up.trans up6) hok kB tB un
    refine store_ok (v := .ref ea) J6 hN hi (.inl hk) rfl (fun s6 J7 => ?_) (.inr hk)
    refine wpAny_mono (hs (.ref ea) pins s6 _ _ (En.gone i) (J7.inExc _) (hts ea hn)) (fun f s7 h7 => ?_) fun _ _ z => z.elim
    show wpAny _ X.A (do bindName X.env n .none; unbindBehindTheSuite X.env n hpos) (fun _ s₃ => SP X pins En f s₃) X.xe s7
    have fin : ∀ (σ7 : St) (H7 : Hp) (R : Shared → Prop), Inv (X.inExc (.ref ea)) pins σ7 H7 s7 → (∀ s8, Inv X pins (σ7.set i none) H7 s8 → R s8) → wpAny (model X.prog X.w) X.A (do bindName X.env n .none; unbindBehindTheSuite X.env n hpos) (fun _ s8 => R s8) X.xe s7 := fun σ7 H7 R I7 k => by
      have I8 := I7.outExc (hd := I.ok.hd) (fr := I.ok.frames)
      refine wpAny_bind (wpAny_bindName (store_ok (v := .non) I8 hN hi (.inl hk) rfl (fun s8 I9 => ?_) (.inr hk)))
      have hil : i < σ7.length := by rw [I8.len]; exact (List.getElem?_eq_some_iff.mp hi).1
      refine del_ok I9 hN hi hk (v := .non) (by rw [List.getElem?_set_self hil]) fun s9 I10 => k s9 ?_
      rw [List.set_set] at I10
      exact I10
    cases f with
    | next => obtain ⟨σ7, H7, I7, q7⟩ := h7; exact fin σ7 H7 _ I7 fun s8 I8 => ⟨_, H7, I8, q7⟩
    | brk => obtain ⟨σ7, H7, I7, q7⟩ := h7; exact fin σ7 H7 _ I7 fun s8 I8 => ⟨_, H7, I8, q7⟩
    | cont => obtain ⟨σ7, H7, I7, q7⟩ := h7; exact fin σ7 H7 _ I7 fun s8 I8 => ⟨_, H7, I8, q7⟩
    | ret u => obtain ⟨v, σ7, H7, I7, r7, q7⟩ := h7; exact fin σ7 H7 _ I7 fun s8 I8 => ⟨v, _, H7, I8, r7, q7⟩
  · cases f with
    | next => obtain ⟨σ7, H7, I7, q7⟩ := hq; exact wpAny_execs_nil ⟨σ7, H7, I7.outTry, q7⟩
    | brk => obtain ⟨σ7, H7, I7, q7⟩ := hq; exact ⟨σ7, H7, I7.outTry, q7⟩
    | cont => obtain ⟨σ7, H7, I7, q7⟩ := hq; exact ⟨σ7, H7, I7.outTry, q7⟩
    | ret u => obtain ⟨v, σ7, H7, I7, r7, q7⟩ := hq; exact ⟨v, σ7, H7, I7.outTry, r7, q7⟩
end
theorem DatVs.bls {K : PySem.W.Frag} {H : Hp} : ∀ bs : List Bool, DatVs K H (bs.map V.bl) (bs.map PyData.bool)
  | [] => .nil
  | b :: r => .cons (.bl b) (DatVs.bls r)
theorem canLay_bls : ∀ bs : List Bool, PyData.canLayAll0 (bs.map PyData.bool) = true
  | [] => by simp [PyData.canLayAll0]
  | b :: r => by simp [PyData.canLayAll0, PyData.canLay0, canLay_bls r]
theorem depth_bls : ∀ bs : List Bool, PyData.depthAll (bs.map PyData.bool) = 0
  | [] => by simp [PyData.depthAll]
  | b :: r => by simp [PyData.depthAll, PyData.depth, depth_bls r]
theorem eqvAll_bls : ∀ bs : List Bool, PyData.eqvAll (bs.map PyData.bool) (bs.map PyData.bool) = true
  | [] => by simp [PyData.eqvAll]
  | b :: r => by simp [PyData.eqvAll, PyData.eqv, eqvAll_bls r]
theorem eqLB {K : PySem.W.Frag} {H : Hp} {a b : Addr} {Q : VK} (bs : List Bool) (h : SqL K H a (bs.map V.bl)) (h' : SqL K H b (bs.map V.bl)) (q : Q (.bl true) H) : rEqD K false (.ref a) (.ref b) H Q := by
  have sh : SeqAt.shaped (.list (bs.map PyData.bool)) = true := by
    unfold SeqAt.shaped
    simp [PyData.canLay0, PyData.depth, canLay_bls, depth_bls]
  refine ⟨_, _, .lst h (DatVs.bls bs), .lst h' (DatVs.bls bs), sh, sh, ?_⟩
  rw [if_neg (by decide)]
  have e : PyData.eqv (.list (bs.map PyData.bool)) (.list (bs.map PyData.bool)) = true := by
    simp only [PyData.eqv]
    exact eqvAll_bls bs
  rw [e]
  exact q
end L2
namespace L2
open PySem PySem.Spec PyProof.Rows
inductive TN (H : Hp) : V → String → Prop where
  | non : TN H .non "NoneType"
  | bl (b : Bool) : TN H (.bl b) "bool"
  | int (i : Int) : TN H (.int i) "int"
  | str (x : Str) : TN H (.str x) "str"
  | lst {a : Addr} {xs : List V} (e : H a = some (.lst xs)) : TN H (.ref a) "list"
  | tup {a : Addr} {xs : List V} (e : H a = some (.tup xs)) : TN H (.ref a) "tuple"
  | dK {a : Addr} {kvs : List (Key × V)} (e : H a = some (.dK kvs)) : TN H (.ref a) "dict"
theorem TN.same {H H' : Hp} {v : V} {t : String} (h : TN H v t) (g : Same H H') : TN H' v t := by
  cases h with
  | non => exact .non
  | bl b => exact .bl b
  | int i => exact .int i
  | str x => exact .str x
  | lst e => exact .lst (g _ _ e)
  | tup e => exact .tup (g _ _ e)
  | dK e => exact .dK (g _ _ e)
section
variable {X : Cx}
theorem call_isiA : CallR X (.builtin "isinstance") (fun xs H Q => ∃ x n, xs = [x, .ty n] ∧ ∃ t, TN H x t ∧ ∃ b, isiT t n = some b ∧ Q (.bl b) H) := by
  intro pins s σ H xs us Q I r h
  obtain ⟨x, n, rfl, t, ty, b, e, q⟩ := h
  refine call_isinst pins s σ H _ us Q I r ?_
  cases ty with
  | non => exact ⟨_, _, _, b, rfl, rfl, .non, isi_NoneType e, q⟩
  | bl i => exact ⟨_, _, _, b, rfl, rfl, .bl i, isi_bool e, q⟩
  | int i => exact ⟨_, _, _, b, rfl, rfl, .int i, isi_int e, q⟩
  | str i => exact ⟨_, _, _, b, rfl, rfl, .str i, isi_str e, q⟩
  | lst ho => exact ⟨_, _, _, b, rfl, rfl, .lst ho, isi_list e, q⟩
  | tup ho => exact ⟨_, _, _, b, rfl, rfl, .tup ho, isi_tuple e, q⟩
  | dK ho => exact ⟨_, _, _, b, rfl, rfl, .dK ho, isi_dict e, q⟩
def rLtA : R2 := fun x y H Q => ∃ j, y = .int j ∧ ((∃ i, x = .int i ∧ Q (.bl (decide (i < j))) H) ∨ (∃ b : Bool, x = .bl b ∧ Q (.bl (decide ((if b = true then (1 : Int) else 0) < j))) H))
end
end L2
namespace L2
open PySem PySem.Spec PyProof.Rows
section
variable {X : Cx} {pins : List (Addr × Obj)} {σ : St} {H : Hp} {s : Shared} {h' : Heap}
end
def Ite (K : PySem.W.Frag) (a : Addr) : It :=
  ⟨fun i H => ∃ xs x, SqL K H a xs ∧ xs[i]? = some x, fun i H x H' => ∃ y t, (∀ xs, SqL K H a xs → xs[i]? = some y) ∧ H t = none ∧ x = .ref t ∧ H' = upd H t (.tup [.int (i : Int), y]), fun i H => ∃ xs, SqL K H a xs ∧ xs.length ≤ i⟩
section
variable {X : Cx} {e : Expr} {te : TE} {p p2 pos pos2 : Pos}
def iEnum (K : PySem.W.Frag) (tl : TE) : TI := fun σ H R => tl σ H fun x H1 => ∃ a, x = .ref a ∧ (∃ xs, SqL K H1 a xs) ∧ R (Ite K a) H1
end
section
variable {X : Cx} {e lo hi st : Expr} {te : TE} {tl th tk : TO} {pos p2 : Pos}
def tSlK (K : PySem.W.Frag) (te : TE) (tl th tk : TO) : TE := fun σ H Q => te σ H fun x H1 => tl σ H1 fun l H2 => th σ H2 fun u H3 => tk σ H3 fun k H4 =>
  ∃ (a : Addr) (ns : List Int), x = .ref a ∧ k ≠ some 0 ∧ SqL K H4 a (ns.map V.int) ∧ ∀ ms : List Int, ms.length ≤ ns.length → (∀ m, m ∈ ms → m ∈ ns) → ∀ p, H4 p = none → Q (.ref p) (upd H4 p (.lst (ms.map V.int)))
end
section
variable {X : Cx}
def rGetL (K : PySem.W.Frag) : R2 := fun x y H Q => ∃ p xs i v, x = .ref p ∧ y = .int i ∧ 0 ≤ i ∧ SqL K H p xs ∧ xs[i.toNat]? = some v ∧ Q v H
theorem ix_listK {K : PySem.W.Frag} (hK : X.K = K) : IxR X (rIxL K) := by subst hK; exact ix_list
theorem call_len_seqK {K : PySem.W.Frag} (hK : X.K = K) : CallR X (.builtin "len") (fun xs H Q => ∃ p ys, xs = [.ref p] ∧ (SqL K H p ys ∨ SqT K H p ys) ∧ Q (.int ys.length) H) := by subst hK; exact call_len_seq
theorem vals_bls : ∀ {bs : List Bool} {us : List Value}, Vals (bs.map V.bl) us → us = bs.map Value.bool
  | [], _, .nil => rfl
  | b :: bs, _, .cons r t => by
    have r' : _ = Value.bool b := r
    rw [r', vals_bls t]
    rfl
theorem bt_all : bootBuiltins "all" = some (.builtin "all") := by decide +kernel
theorem call_allB (hc : X.calm = true) : CallR X (.builtin "all") (fun xs H Q => ∃ (p : Addr) (bs : List Bool), xs = [.ref p] ∧ SqL X.K H p (bs.map V.bl) ∧ Q (.bl (bs.all id)) H) := by
  intro pins s σ H xs us Q I r h
  obtain ⟨p, bs, rfl, hq, q⟩ := h
  obtain ⟨u, rfl, rx⟩ := vals1 r
  cases rx
  obtain ⟨its, rv, pl, hz⟩ := I.list hq
  have ei : its = bs.map Value.bool := vals_bls rv
  obtain ⟨o, ho, _⟩ := id pl.isList
  have hne : p ≠ s.heap.objs.size := Nat.ne_of_lt (Heap.lt_size ho)
  refine call_all_walk (wpAny_pyIter_list pl.isList ?_)
  refine ⟨s.heap.objs.size, _, _, _, _, _, fun i => bs.getD i false, rfl, Walks.list (A := X.A.in1) (I.ok.hd hc) s.heap.objs.size p hne its.toArray, ⟨⟨_, Heap.get?_push_size _ rfl, rfl, rfl⟩, pl.isList.at fun o e => Heap.get?_push_of_some _ e⟩, ?_, ?_⟩
  · intro i v s' Q' E' hP hQ
    have hv : its[i]? = some v := by simpa using hP
    rw [ei, List.getElem?_map] at hv
    cases z : bs[i]? with
    | none => rw [z] at hv; cases hv
    | some b =>
      rw [z] at hv
      cases hv
      refine wpAny_truthy_bool ?_
      have : bs.getD i false = b := by rw [List.getD_eq_getElem?_getD, z]; rfl
      rw [← this]
      exact hQ
  · intro h' tk hk
    have f := I.fpOk (H' := H) (Nat.le_refl _) (I.hok.fresh (Nat.le_refl _))
    obtain ⟨f0, f1, f2, f3, f4, f5⟩ := f
    have I2 : Inv X pins σ H { s with heap := h', toks := tk } := I.turned (t' := tk) (it := s.heap.objs.size) (fun b o hb e => hk b o (by simpa using hb) (Heap.get?_push_of_some _ e)) f0 f1 f3 f4 f5
    have ea : (List.range its.toArray.size).all (fun i => bs.getD i false) = bs.all id := by
      rw [ei, List.size_toArray, List.length_map]
      have e1 : bs = (List.range bs.length).map (fun i => bs.getD i false) := by
        refine List.ext_getElem (by simp) fun j h1 h2 => ?_
        rw [List.getElem_map, List.getElem_range, List.getD_eq_getElem?_getD, List.getElem?_eq_getElem h1]
        rfl
      conv => rhs; rw [e1]
      rw [List.all_map]
      rfl
    exact ⟨.bl (bs.all id), H, I2, by rw [ea]; rfl, q⟩
end
section
variable {X : Cx} {a b : Expr} {ta : TA} {p p2 pos pos2 : Pos}
def nums (i : Int) (n : Nat) : List Int := (List.range n).map fun k : Nat => i + (k : Int)
def tListRng (ta : TA) : TE := fun σ H Q => ta σ H fun vs H1 => ∃ i j : Int, vs = [.int i, .int j] ∧ (-1000000 ≤ i ∧ i < 1000000 ∧ -1000000 ≤ j ∧ j < 1000000) ∧ ∀ l, H1 l = none → Q (.ref l) (upd H1 l (.lst ((nums i (j - i).toNat).map V.int)))
end
end L2
namespace L2
open PySem PySem.Spec PyProof.Rows
namespace So
open PySem.W
section
variable {n : Nat} {key : Nat → Int} {cmp : Nat → Nat → (Bool → Shared → Prop) → Shared → Prop} {s : Shared}
def Own (n : Nat) (p : Array Nat) : Prop := p.toList.Perm (List.range n)
def Kp (key : Nat → Int) (p : Array Nat) (i : Nat) : Int := key (p.getD i 0)
def Inc (key : Nat → Int) (p : Array Nat) (k : Nat) : Prop := ∀ i j, i < j → j < k → Kp key p i < Kp key p j
def Dec (key : Nat → Int) (p : Array Nat) (k : Nat) : Prop := ∀ i j, i < j → j < k → Kp key p j < Kp key p i
end
end So
end L2
namespace L2
open PySem PySem.Spec PyProof.Rows
def prevSp (sp : Nat → Sp) : Nat → Sp
  | 0 => fun _ _ _ _ => False
  | n + 1 => sp n
section
variable {P : Program} {w : World} {K : PySem.W.Frag} {mg : Str → Option Value} {base : Heap} {x qual : Str} {st : Stmt} {f : Addr} {fd : FuncData} {ps : List Str} {sp : Nat → Sp}
end
theorem compL {K : PySem.W.Frag} {a : Addr} {caps : List Nat} {tt : TT} {te : TE} {σ : St} {H : Hp} {Q : VK} (xs : List V) (Pv : Nat → List V → Hp → Prop) (hn : xs.length ≤ sizeLine) (h0 : Pv 0 [] H) (hl : ∀ i ys H, Pv i ys H → SqL K H a xs)
    (hs : ∀ i (x : V) ys H, xs[i]? = some x → Pv i ys H → tt (some x :: capV caps σ) H fun b H4 => if b = true then te (some x :: capV caps σ) H4 fun v H5 => Pv (i + 1) (ys ++ [v]) H5 else Pv (i + 1) ys H4)
    (hd : ∀ ys H, Pv xs.length ys H → ∀ p, H p = none → Q (.ref p) (upd H p (.lst ys))) : CompIt (Itl K a) caps tt te σ H Q := by
  refine ⟨xs.length, fun i ys H => i ≤ xs.length ∧ Pv i ys H, hn, ⟨Nat.zero_le _, h0⟩, ?_⟩
  rintro i ys H2 ⟨hi, p⟩
  have hS := hl i ys H2 p
  by_cases hlt : i < xs.length
  · have hv : xs[i]? = some xs[i] := List.getElem?_eq_getElem hlt
    refine .inr ⟨⟨_, _, hS, hv⟩, hlt, ?_⟩
    rintro y H3 ⟨rfl, hy⟩
    have hxy : y = xs[i] := (Option.some.inj (hv.symm.trans (hy _ hS))).symm
    subst hxy
    have key := hs i _ ys H3 hv p
    have e2 : (fun (b : Bool) (H4 : Hp) => if b = true then te (some xs[i] :: capV caps σ) H4 fun v H5 => Pv (i + 1) (ys ++ [v]) H5 else Pv (i + 1) ys H4) = fun b H4 => if b = true then te (some xs[i] :: capV caps σ) H4 fun v H5 => i + 1 ≤ xs.length ∧ Pv (i + 1) (ys ++ [v]) H5 else i + 1 ≤ xs.length ∧ Pv (i + 1) ys H4 := by
      funext b H4
      have z : i + 1 ≤ xs.length := hlt
      simp only [z, true_and]
    rw [e2] at key
    exact key
  · have e : i = xs.length := by omega
    subst e
    exact .inl ⟨⟨_, hS, Nat.le_refl _⟩, hd ys H2 p⟩
section
variable {X : Cx}
end
namespace So
open PySem.W
section
variable {pr : Program} {wo : World} {Ar : Around} {Er : Value → Shared → Prop} {st : Shared}
end
end So
section
variable {X : Cx}
def PairsAt (H : Hp) (as : List Addr) (bs : List (Int × Nat)) : Prop := as.length = bs.length ∧ ∀ (i : Nat) (a : Addr) (b : Int × Nat), as[i]? = some a → bs[i]? = some b → H a = some (.tup [.int b.1, .int (b.2 : Int)])
def pairOb (h : Heap) (a : Addr) (b : Int × Nat) : Prop := ∃ (o : Obj) (k : Nat) (t1 t2 : Tok), h.get? a = some o ∧ o.cls = .type "tuple" ∧ o.data = .seq #[.int b.1 t1, .int (b.2 : Int) t2] k
end
end L2
namespace L2
open PySem PySem.Spec PyProof.Rows
def tComp2 (caps : List Nat) (wi : TI) (g : TG) (tt : TT) (te : TE) : TE := fun σ H Q => wi σ H fun J H1 => ∃ (n : Nat) (W : Nat → List V → Hp → Prop), n ≤ sizeLine ∧ W 0 [] H1 ∧ ∀ i ys H2, W i ys H2 →
  (J.stop i H2 ∧ ∀ p, H2 p = none → Q (.ref p) (upd H2 p (.lst ys))) ∨
  (J.go i H2 ∧ i < n ∧ ∀ x H3, J.yld i H2 x H3 → ∀ o1 o2 : Option V, g x (o1 :: o2 :: capV caps σ) H3 fun σ4 H4 => (∃ v1 v2 : V, σ4 = some v1 :: some v2 :: capV caps σ) ∧ tt σ4 H4 fun b H5 => if b = true then te σ4 H5 fun v H6 => W (i + 1) (ys ++ [v]) H6 else W (i + 1) ys H5)
section
variable {X : Cx} {scope : Scope} {cl : List (Str × Addr)} {caps : List Nat} {xs : List Str} {C : Addr} {s : Shared} {H : Hp} {fp : List Addr} {pins : List (Addr × Obj)} {σ : St}
end
section
variable {X : Cx}
end
end L2
namespace L2
open PySem PySem.Spec PyProof.Rows
def PairsI (H : Hp) (as : List Addr) (fs : List (Int × Int)) : Prop := as.length = fs.length ∧ ∀ (i : Nat) (a : Addr) (b : Int × Int), as[i]? = some a → fs[i]? = some b → H a = some (.tup [.int b.1, .int b.2])
def natP (b : Int × Nat) : Int × Int := (b.1, (b.2 : Int))
def pairD (b : Int × Int) : PyData := .tuple [.int b.1, .int b.2]
section
variable {K : PySem.W.Frag} {H : Hp} {l m : Addr} {as cs : List Addr} {fs gs : List (Int × Int)} {Q : VK}
end
def CompIt2 (J : It) (caps : List Nat) (g : TG) (tt : TT) (te : TE) (σ : St) (H : Hp) (Q : VK) : Prop := ∃ (n : Nat) (W : Nat → List V → Hp → Prop), n ≤ sizeLine ∧ W 0 [] H ∧ ∀ i ys H2, W i ys H2 →
  (J.stop i H2 ∧ ∀ p, H2 p = none → Q (.ref p) (upd H2 p (.lst ys))) ∨
  (J.go i H2 ∧ i < n ∧ ∀ x H3, J.yld i H2 x H3 → ∀ o1 o2 : Option V, g x (o1 :: o2 :: capV caps σ) H3 fun σ4 H4 => (∃ v1 v2 : V, σ4 = some v1 :: some v2 :: capV caps σ) ∧ tt σ4 H4 fun b H5 => if b = true then te σ4 H5 fun v H6 => W (i + 1) (ys ++ [v]) H6 else W (i + 1) ys H5)
end L2
namespace L2
open PySem PySem.Spec PyProof.Rows
def rInD (K : PySem.W.Frag) : R2 := fun x y H Q => ∃ d xs, DatV K H x d ∧ DatV K H y (.list xs) ∧ SeqAt.shaped d = true ∧ SeqAt.shaped (.list xs) = true ∧ Q (.bl (xs.any fun z => PyData.eqv z d)) H
section
variable {X : Cx}
end
end L2
namespace L2
open PySem PySem.Spec PyProof.Rows
namespace Dx
section
variable {pr : Program} {wo : World} {Ar : Around} {Er : Value → Shared → Prop} {st : Shared} {d it : Addr} {od : Obj} {es : Array DictEntry} {ep i : Nat}
end
end Dx
def Itd (o : Obj) (a : Addr) (kvs : List (List Key × V)) : It :=
  ⟨fun i H => H a = some (.frz o (.dT kvs)) ∧ i < kvs.length, fun i H x H' => H' = H ∧ ∃ b k v, x = .ref b ∧ kvs[i]? = some (k, v) ∧ H b = some (.tup (k.map kV)), fun i H => H a = some (.frz o (.dT kvs)) ∧ kvs.length ≤ i⟩
def iDict (td : TE) : TI := fun σ H R => td σ H fun x H1 => ∃ a kvs, x = .ref a ∧ H1 a = some (.dT kvs) ∧ ∀ o, R (Itd o a kvs) (upd H1 a (.frz o (.dT kvs)))
section
variable {X : Cx} {tg : Expr}
end
namespace Dx
end Dx
def rLtP (K : PySem.W.Frag) : R2 := fun x y H Q => ∃ (a b : Addr) (u v : Int × Int), x = .ref a ∧ y = .ref b ∧ SqT K H a [.int u.1, .int u.2] ∧ SqT K H b [.int v.1, .int v.2] ∧ Q (.bl (decide (u.1 < v.1 ∨ (u.1 = v.1 ∧ u.2 < v.2)))) H
section
variable {X : Cx}
end
end L2
namespace L2
open PySem PySem.Spec PyProof.Rows
section
variable {X : Cx} {pins : List (Addr × Obj)} {σ : St} {H : Hp} {s : Shared} {h' : Heap}
end
def Itz (K : PySem.W.Frag) (a b : Addr) : It :=
  ⟨fun i H => ∃ xs ys x y, SqL K H a xs ∧ SqL K H b ys ∧ xs[i]? = some x ∧ ys[i]? = some y, fun i H x H' => ∃ y z t, (∀ xs, SqL K H a xs → xs[i]? = some y) ∧ (∀ xs, SqL K H b xs → xs[i]? = some z) ∧ H t = none ∧ x = .ref t ∧ H' = upd H t (.tup [y, z]), fun i H => ∃ xs ys, SqL K H a xs ∧ SqL K H b ys ∧ (xs.length ≤ i ∨ ys.length ≤ i)⟩
section
variable {X : Cx} {e e2 : Expr} {te te2 : TE} {p pos : Pos}
def iZip (K : PySem.W.Frag) (tl tl2 : TE) : TI := fun σ H R => tl σ H fun x H1 => tl2 σ H1 fun y H2 => ∃ a b, x = .ref a ∧ y = .ref b ∧ (∃ xs, SqL K H2 a xs) ∧ (∃ ys, SqL K H2 b ys) ∧ R (Itz K a b) H2
end
end L2
namespace L2
open PySem PySem.Spec PyProof.Rows
def unlike (ns : List Int) : Nat := (PyProof.Rows.firstMet (fun i => ns.getD i 0) ns.length).length
section
variable {X : Cx} {e : Expr} {te : TE} {p p2 pos pos2 : Pos}
def tLenSet (K : PySem.W.Frag) (t : TE) : TE := fun σ H Q => t σ H fun x H1 => ∃ a ns, x = .ref a ∧ SqL K H1 a (ns.map V.int) ∧ ns.length ≤ 1000 ∧ Q (.int (unlike ns : Int)) H1
end
end L2
namespace L2
open PySem PySem.Spec PyProof.Rows
section
variable {X : Cx} {body suite suite2 : List Stmt} {b₀ b₁ : Stmt} {D D2 : Addr} {cx cx2 : Str} {np np2 hpos hpos2 pos : Pos} {tb : (St → XK) → TS} {ts ts2 : TS}
def tTry2 (K : PySem.W.Frag) (D D2 : Addr) (tb : (St → XK) → TS) (ts ts2 : TS) : TS := fun En σ H => tb (fun σ1 C _ H1 => (PySem.W.exmOne K C (.ref D) = some true ∧ ts En σ1 H1) ∨ (PySem.W.exmOne K C (.ref D) = some false ∧ PySem.W.exmOne K C (.ref D2) = some true ∧ ts2 En σ1 H1)) En σ H
end
section
variable {X : Cx}
end
end L2
namespace L2
open PySem PySem.Spec PyProof.Rows
def Its (z : Str) : It := ⟨fun i _ => i < z.cps.size, fun i H x H' => H' = H ∧ ∃ c, z.cps[i]? = some c ∧ x = .str ⟨#[c]⟩, fun i _ => z.cps.size ≤ i⟩
theorem turn_str {P : Program} {w : World} {K : PySem.W.Frag} {tg : Expr} (z : Str) (t : Tok) (it : Addr) (T : String) (hT : T = "str_ascii_iterator" ∨ T = "str_iterator") : Turn P w K tg (Its z) [it] it (fun i h => h.IsStrIter it T z t i) where
  mem := by simp
  obj := fun i h st b hb => by
    have e : b = it := by simpa using hb
    subst e
    obtain ⟨o, e, c, d⟩ := st
    exact ⟨o, e, fun v z => by rw [d] at z; cases z⟩
  keep := fun i h h' st k => by
    obtain ⟨o, e, r⟩ := st
    exact ⟨o, k it (by simp) o e, r⟩
  item := by
    intro X hP hw hK hc i pins s σ H E I hf st hg
    subst hP hw hK
    obtain ⟨f0, f1, f2, f3, f4, f5⟩ := hf it (by simp)
    have hg' : i < z.cps.size := hg
    have hi : z.cps[i]? = some z.cps[i] := by simp [hg']
    have fin : ∀ h' : Heap, h'.IsStrIter it T z t (i + 1) → Heap.SameBut it s.heap h' → ∃ u, some (Value.str ⟨#[z.cps[i]]⟩ s.toks) = some u ∧
        wpAny (model X.prog X.w) X.A (letOwnedTupleGo tg (.ref it) u) (fun _ s2 => ∃ x H', Inv X pins σ H' s2 ∧ RelV x u ∧ (Its z).yld i H x H' ∧ s2.heap.IsStrIter it T z t (i + 1) ∧ ∀ b ∈ [it], H' b = none) E { s with heap := h', toks := s.toks + 1 } := fun h' st' sb => by
      have I1 : Inv X pins σ H { s with heap := h', toks := s.toks + 1 } := I.turned (t' := s.toks + 1) (fun b o hb e => (sb.2 b hb).trans e) f0 f1 f3 f4 f5
      obtain ⟨o, e, c, d⟩ := id st'
      exact ⟨_, rfl, go_of (s := { s with heap := h', toks := s.toks + 1 }) e c d (by rcases hT with rfl | rfl <;> decide) ⟨.str ⟨#[z.cps[i]]⟩, H, I1, ⟨_, rfl⟩, ⟨rfl, _, hi, rfl⟩, st', fun b hb => (hf b hb).1⟩⟩
    rcases hT with rfl | rfl
    · exact wpAny_pyNext_ascii_item st hi fun h' st' sb => fin h' st' sb
    · exact wpAny_pyNext_wide_item st hi fun h' st' sb => fin h' st' sb
  done := by
    intro X hP hw hK hc i pins s σ H E I hf st hg
    subst hP hw hK
    obtain ⟨f0, f1, f2, f3, f4, f5⟩ := hf it (by simp)
    have hg' : z.cps.size ≤ i := hg
    have hx : z.cps[i]? = none := by simp [hg']
    rcases hT with rfl | rfl
    · exact wpAny_pyNext_ascii_end (I.ok.hd hc) st hx fun h' eb => ⟨rfl, I.turned (t' := s.toks) (fun b o hb e => eb b o hb e) f0 f1 f3 f4 f5⟩
    · exact wpAny_pyNext_wide_end (I.ok.hd hc) st hx fun h' eb => ⟨rfl, I.turned (t' := s.toks) (fun b o hb e => eb b o hb e) f0 f1 f3 f4 f5⟩
  self := fun _ _ _ _ _ st h => by
    rcases hT with rfl | rfl
    · exact wpAny_pyIter_striter_ascii st h
    · exact wpAny_pyIter_striter_wide st h
def iStr (tl : TE) : TI := fun σ H R => tl σ H fun x H1 => ∃ z, x = .str z ∧ R (Its z) H1
theorem pi_str {X : Cx} {tg l : Expr} {tl : TE} (hl : PE X l tl) : PI X tg l (iStr tl) := by
  intro pins s σ H R I h
  refine thn (hl pins s σ H _ I h) fun v s1 ⟨x, H1, I1, r1, q1⟩ => ?_
  obtain ⟨z, e, q⟩ := q1
  subst e
  obtain ⟨t, rfl⟩ := r1
  have fp : ∀ b ∈ [s1.heap.objs.size], FpOk X pins H1 b := fun b hb => by
    have e : b = s1.heap.objs.size := by simpa using hb
    subst e
    exact I1.fpOk (Nat.le_refl _) (I1.hok.fresh (Nat.le_refl _))
  cases ha : z.cps.all (· < 128)
  · refine wpAny_pyIter_wide ha ?_
    exact ⟨s1.heap.objs.size, [s1.heap.objs.size], _, _, H1, rfl, I1.kept (t' := s1.toks) fun b o e => Heap.get?_push_of_some _ e, turn_str z t _ "str_iterator" (.inr rfl), ⟨_, Heap.get?_push_size _ rfl, rfl, rfl⟩, fp, q⟩
  · refine wpAny_pyIter_ascii ha ?_
    exact ⟨s1.heap.objs.size, [s1.heap.objs.size], _, _, H1, rfl, I1.kept (t' := s1.toks) fun b o e => Heap.get?_push_of_some _ e, turn_str z t _ "str_ascii_iterator" (.inl rfl), ⟨_, Heap.get?_push_size _ rfl, rfl, rfl⟩, fp, q⟩
section
variable {g : TG} {tb : TS} {D : Ends} {σ : St} {H : Hp} {caps : List Nat} {tt : TT} {te : TE} {Q : VK}
theorem forS (z : Str) (Pv : Nat → St → Hp → Prop) (h0 : Pv 0 σ H)
    (hs : ∀ i c σ H, z.cps.toList[i]? = some c → Pv i σ H → g (.str ⟨#[c]⟩) σ H fun σ2 H2 => tb { D with nx := Pv (i + 1), ct := Pv (i + 1), bk := D.nx } σ2 H2) (hd : ∀ σ H, Pv z.cps.toList.length σ H → D.nx σ H) : ForIt (Its z) g tb D σ H := by
  have hsz : z.cps.toList.length = z.cps.size := by simp
  refine ⟨fun i m σ H => m = z.cps.size - i ∧ i ≤ z.cps.size ∧ Pv i σ H, ⟨z.cps.size, by simp, Nat.zero_le _, h0⟩, ?_⟩
  rintro i m σ H ⟨rfl, hi, p⟩
  by_cases hlt : i < z.cps.size
  · refine .inr ⟨hlt, Pv (i + 1), fun σ' H' p' => ⟨z.cps.size - (i + 1), by omega, rfl, hlt, p'⟩, fun x H' y => ?_⟩
    obtain ⟨rfl, c, hc, rfl⟩ := y
    exact hs i c σ H' (by simpa using hc) p
  · have e : i = z.cps.size := by omega
    subst e
    exact .inl ⟨Nat.le_refl _, hd σ H (by rw [hsz]; exact p)⟩
theorem compS (z : Str) (Pv : Nat → List V → Hp → Prop) (hn : z.cps.toList.length ≤ sizeLine) (h0 : Pv 0 [] H)
    (hs : ∀ i c ys H, z.cps.toList[i]? = some c → Pv i ys H → tt (some (.str ⟨#[c]⟩) :: capV caps σ) H fun b H4 => if b = true then te (some (.str ⟨#[c]⟩) :: capV caps σ) H4 fun v H5 => Pv (i + 1) (ys ++ [v]) H5 else Pv (i + 1) ys H4)
    (hd : ∀ ys H, Pv z.cps.toList.length ys H → ∀ p, H p = none → Q (.ref p) (upd H p (.lst ys))) : CompIt (Its z) caps tt te σ H Q := by
  have hsz : z.cps.toList.length = z.cps.size := by simp
  refine ⟨z.cps.size, fun i ys H => i ≤ z.cps.size ∧ Pv i ys H, by omega, ⟨Nat.zero_le _, h0⟩, ?_⟩
  rintro i ys H2 ⟨hi, p⟩
  by_cases hlt : i < z.cps.size
  · refine .inr ⟨hlt, hlt, ?_⟩
    rintro x H3 ⟨rfl, c, hc, rfl⟩
    have key := hs i c ys H3 (by simpa using hc) p
    have e2 : (fun (b : Bool) (H4 : Hp) => if b = true then te (some (.str ⟨#[c]⟩) :: capV caps σ) H4 fun v H5 => Pv (i + 1) (ys ++ [v]) H5 else Pv (i + 1) ys H4) = fun b H4 => if b = true then te (some (.str ⟨#[c]⟩) :: capV caps σ) H4 fun v H5 => i + 1 ≤ z.cps.size ∧ Pv (i + 1) (ys ++ [v]) H5 else i + 1 ≤ z.cps.size ∧ Pv (i + 1) ys H4 := by
      funext b H4
      have w : i + 1 ≤ z.cps.size := hlt
      simp only [w, true_and]
    rw [e2] at key
    exact key
  · have e : i = z.cps.size := by omega
    subst e
    exact .inl ⟨Nat.le_refl _, hd ys H2 (by rw [hsz]; exact p)⟩
end
section
variable {X : Cx}
def rStarts : V → List V → Hp → VK → Prop := fun x vs H Q => ∃ z y, x = .str z ∧ vs = [.str y] ∧ Q (.bl (Txt.startswith z y)) H
theorem mt_starts : MtM X "str.startswith" rStarts := by
  intro pins s σ H x xs v us Q I rx rs h
  obtain ⟨z, y, rfl, rfl, q⟩ := h
  obtain ⟨t, rfl⟩ := rx
  obtain ⟨u, rfl, t', rfl⟩ := Vals.one rs
  exact SC.startswith ⟨.bl _, H, I, rfl, q⟩
def rFind : V → List V → Hp → VK → Prop := fun x vs H Q => ∃ z y, x = .str z ∧ vs = [.str y] ∧ Q (.int (Txt.find z y)) H
theorem mt_find : MtM X "str.find" rFind := by
  intro pins s σ H x xs v us Q I rx rs h
  obtain ⟨z, y, rfl, rfl, q⟩ := h
  obtain ⟨t, rfl⟩ := rx
  obtain ⟨u, rfl, t', rfl⟩ := Vals.one rs
  exact SC.find ⟨.int _, H, I.tok _, ⟨_, rfl⟩, q⟩
theorem vals_strs : ∀ (n : Nat) (l : List Str), Vals (l.map V.str) (strsFrom n l)
  | _, [] => .nil
  | n, x :: r => .cons ⟨_, rfl⟩ (vals_strs (n + 1) r)
def rSplit : V → List V → Hp → VK → Prop := fun x vs H Q => ∃ z y, x = .str z ∧ vs = [.str y] ∧ 0 < y.length ∧ z.length + 2 ≤ sizeLine ∧ ∀ l, H l = none → Q (.ref l) (upd H l (.lst ((Txt.split z y).map V.str)))
theorem mt_split : MtM X "str.split" rSplit := by
  intro pins s σ H x xs v us Q I rx rs h
  obtain ⟨z, y, rfl, rfl, hy, hz, q⟩ := h
  obtain ⟨t, rfl⟩ := rx
  obtain ⟨u, rfl, t', rfl⟩ := Vals.one rs
  have hy' : (y.length == 0) = false := by simpa using Nat.ne_of_gt hy
  have fin : ∀ (its : List Value) (tk : Nat), Vals ((Txt.split z y).map V.str) its → ((Txt.split z y).map V.str).length ≤ sizeLine → EP X pins σ Q (.ref s.heap.objs.size) { s with toks := tk, heap := s.heap.push { cls := .type "list", data := .seq its.toArray } } := fun its tk r hl =>
    ⟨.ref s.heap.objs.size, _, I.laid (t' := tk) (fun b o e => Heap.get?_push_of_some _ e) (Nat.le_refl _) (show ObjOk X.prog X.w _ _ _ (.lst _) from ⟨hl, its, 0, r, Heap.get?_push_size _ rfl⟩), rfl, q _ (I.hok.fresh (Nat.le_refl _))⟩
  have hpn : (Builtin.Str.partsBetween z (Builtin.Str.occurrences z y 0 z.length (z.length + 1)) y.length).length ≤ sizeLine := by
    have hh : (Builtin.Str.occurrences z y 0 z.length (z.length + 1)).length ≤ z.length + 1 := StrLaws.occ_length_le_len z y 0 z.length (z.length + 1)
    generalize (Builtin.Str.occurrences z y 0 z.length (z.length + 1)) = oc at hh
    generalize z.length = n at hh hz
    unfold Builtin.Str.partsBetween
    simp only [List.length_map, List.length_zip, List.length_cons, List.length_append, List.length_nil]
    refine Nat.le_trans (Nat.min_le_left _ _) ?_
    omega
  cases h1 : (decide (z.length < y.length) || decide (Builtin.Str.strKind z < Builtin.Str.strKind y))
  · cases hf : (Builtin.Str.occurrences z y 0 z.length (z.length + 1)).isEmpty
    · have e : Txt.split z y = Builtin.Str.partsBetween z (Builtin.Str.occurrences z y 0 z.length (z.length + 1)) y.length := (if_neg (ne_true_of_eq_false h1)).trans (if_neg (ne_true_of_eq_false hf))
      rw [e] at fin
      exact call_meets F.slot_str_split (typeIs_str _ _ _) F.entry_str_split (F.args_str_split_2 _ _) (meets_str_split_sep z y t t' h1 hy' hf (by omega) hpn) (fin _ _ (vals_strs _ _) (by rw [List.length_map]; exact hpn))
    · have e : Txt.split z y = [z] := (if_neg (ne_true_of_eq_false h1)).trans (if_pos hf)
      rw [e] at fin
      exact call_meets F.slot_str_split (typeIs_str _ _ _) F.entry_str_split (F.args_str_split_2 _ _) (meets_str_split_not_found z y t t' h1 hy' hf) (fin _ _ (.cons ⟨_, rfl⟩ .nil) (by show 1 ≤ sizeLine; decide))
  · have e : Txt.split z y = [z] := if_pos h1
    rw [e] at fin
    exact call_meets F.slot_str_split (typeIs_str _ _ _) F.entry_str_split (F.args_str_split_2 _ _) (meets_str_split_cannot_occur z y t t' h1) (fin _ _ (.cons ⟨_, rfl⟩ .nil) (by show 1 ≤ sizeLine; decide))
theorem strs_of : ∀ {zs : List Str} {us : List Value}, Vals (zs.map V.str) us → ∃ l : List (Str × Tok), us = strValues l ∧ l.map (·.1) = zs
  | [], _, .nil => ⟨[], rfl, rfl⟩
  | z :: zs, _, .cons ⟨t, e⟩ r => by
    obtain ⟨l, e1, e2⟩ := strs_of r
    exact ⟨(z, t) :: l, by rw [e, e1]; rfl, by rw [List.map_cons, e2]⟩
def rJoin (K : PySem.W.Frag) : V → List V → Hp → VK → Prop := fun x vs H Q => ∃ z a zs, x = .str z ∧ vs = [.ref a] ∧ SqL K H a (zs.map V.str) ∧ JoinOk z zs = true ∧ Q (.str (Txt.join z zs)) H
theorem mt_join : MtM X "str.join" (rJoin X.K) := by
  intro pins s σ H x xs v us Q I rx rs h
  obtain ⟨z, a, zs, rfl, rfl, hq, hj, q⟩ := h
  obtain ⟨t, rfl⟩ := rx
  obtain ⟨u, rfl, ru⟩ := Vals.one rs
  cases ru
  obtain ⟨its, r, p, _⟩ := I.list hq
  obtain ⟨l, rfl, el⟩ := strs_of r
  exact SC.join p.isList el hj fun t' k => ⟨.str _, H, I.tok _, ⟨_, rfl⟩, q⟩
def rSlS : V → Option Int → Option Int → Hp → VK → Prop := fun x lo hi H Q => ∃ z, x = .str z ∧ z.length ≤ sizeLine ∧ Q (.str (Txt.slice z lo hi)) H
theorem sl_str : SlR X rSlS := by
  intro pins s σ H x v vl vu lo hi sl Q I rx hs pl pu h
  obtain ⟨z, rfl, hz, q⟩ := h
  obtain ⟨t, rfl⟩ := rx
  refine ⟨"str", _, F.slot_str_getitem.lookup, typeIs_str _ _ _, ?_⟩
  have fin : ∀ (lo hi : Option Int), (∀ {Q : VK}, Q (.str (Txt.slice z lo hi)) H → (Txt.slice z lo hi).length ≤ sizeLine ∧ ∀ t' k, EP X pins σ Q (.str (Txt.slice z lo hi) t') { s with toks := k }) := fun lo hi {Q} q =>
    ⟨Nat.le_trans (Txt.slice_le z _ _) hz, fun t' k => ⟨.str _, H, I.tok _, ⟨_, rfl⟩, q⟩⟩
  cases pl with
  | none =>
    cases pu with
    | none => exact wpAny_getItem_str_slice (l := none) (u := none) (st := none) hs rfl (post_val_or_str (fin none none q))
    | int j u => exact wpAny_getItem_str_slice (l := none) (u := some (j, u)) (st := none) hs rfl (post_val_or_str (fin none (some j) q))
  | int i u' =>
    cases pu with
    | none => exact wpAny_getItem_str_slice (l := some (i, u')) (u := none) (st := none) hs rfl (post_val_or_str (fin (some i) none q))
    | int j u => exact wpAny_getItem_str_slice (l := some (i, u')) (u := some (j, u)) (st := none) hs rfl (post_val_or_str (fin (some i) (some j) q))
def rIntS : List V → Hp → VK → Prop := fun xs H Q => ∃ z n, xs = [.str z] ∧ PySem.intText? z = some n ∧ z.length ≤ 640 ∧ Q (.int n) H
theorem call_intS : CallR X (.type "int") rIntS := by
  intro pins s σ H xs us Q I r h
  obtain ⟨z, n, rfl, hn, hl, q⟩ := h
  obtain ⟨u, rfl, t, rfl⟩ := vals1 r
  exact PySem.W.KIN.call_text hn hl ⟨.int n, H, I.tok _, ⟨_, rfl⟩, q⟩
end
end L2
namespace L2
open PySem PySem.Spec PyProof.Rows
section
variable {M : Model} {A : Around} {EX : Value → Shared → Prop} {s : Shared} {env : Env}
def cPost (M : Model) (A : Around) (EX : Value → Shared → Prop) (Q : Value → Shared → Prop) (acc : Value) (ce : Env) (r : Result) (s' : Shared) : Prop :=
  ∃ m, s'.heap.Ns ce.locals m ∧ ∀ h', Heap.SameBut ce.locals s'.heap h' → (match r with
    | .ok _ => Q acc { s' with heap := h' }
    | .error x => wpAny M A (PySem.passOn "comprehension.variables-let-go" x ce : Sem Value) (fun _ _ => False) EX { s' with heap := h' })
theorem comp_freeE {e : Expr} {scope : Scope} {pos : Pos} {newAcc first : Sem Value} {g : Comprehension} {gs : List Comprehension} {cl : List (Str × Addr)} {Q : Value → Shared → Prop}
    (h1 : clausesOf e = g :: gs) (h2 : ∀ x, foldedSetIterable g.iter env x = pure x) (h3 : closureFor scope env = pure cl) (h4 : scope.kind = .function) (h5 : ∀ x ∈ scope.names, x.2 = .local → scope.names.lookup x.1 = some .local)
    (h : wpAny M A first (fun x s1 => wpAny M A (pyIter x) (fun it s2 => wpAny M A newAcc (fun acc s3 => wpAny M A (newFunctionEnv scope env.globals cl [] env.qual none .none (some env)) (fun ce s4 =>
      codeAny M A (.compStart e 0 it acc { ce with scope := relabel scope env }) (cPost M A EX Q acc { ce with scope := relabel scope env }) s4) EX s3) EX s2) EX s1) EX s) :
    wpAny M A (comprehension e scope env pos newAcc false first none) Q EX s := by
  unfold comprehension
  rw [h3, h1]
  refine wpAny_bind (thn h fun x s1 q1 => ?_)
  refine wpAny_bind (wpAny_standAt (wpAny_bind (wpAny_of_eq (h2 x) (wpAny_bind (wpAny_holding (thn q1 fun it s2 q2 => ?_))))))
  refine wpAny_standIf (wpAny_bind (thn q2 fun acc s3 q3 => wpAny_bind (wpAny_pure (wpAny_bind (thn q3 fun ce s4 q4 => ?_)))))
  dsimp only
  have loc : ∀ x ∈ (scope.names.filter fun x => (x.2 == .local || x.2 == .cell) && x.1 != (".0" : Str)).reverse, x.2 = .local → Env.kindOf { ce with scope := relabel scope env } x.1 = some .local := fun x hx hl => by
    have hm := (List.mem_filter.mp (List.mem_reverse.mp hx)).1
    exact lookup_relabel_local (h5 x hm hl)
  refine wpAny_holding (wpAny_bind (wpAny_attempt (wpAny_holding (wpAny_run (codeAny_mono q4 fun r s' qr => ?_)))))
  obtain ⟨m, hn, hr⟩ := qr
  cases r with
  | ok f => exact wpAny_bind (wpAny_holding (wpAny_comp_letGo (cenv := { ce with scope := relabel scope env }) h4 _ s' m loc hn fun h' _ _ sb => wpAny_pure (hr h' sb)))
  | error x => exact wpAny_bind (wpAny_holding (wpAny_comp_letGo (cenv := { ce with scope := relabel scope env }) h4 _ s' m loc hn fun h' _ _ sb => wpAny_mono (hr h' sb) (fun _ _ z => z.elim) fun _ _ z => z))
end
theorem set_flight {M : Model} {A : Around} {EX : Value → Shared → Prop} {s : Shared} {base : Heap} {l : List Env} {e L L' : Addr} {cls a0 : Value} {Q : Unit → Shared → Prop} (R : Heap.HeldW base l e cls a0 L' s.heap)
    (h : ∀ h', Heap.HeldW base l e cls a0 L h' → (∀ b o, s.heap.get? b = some o → (∀ vs, o.data ≠ .fields vs) → h'.get? b = some o) → Q () { s with heap := h' }) : wpAny M A (setFlight (.ref e) (some L)) Q EX s := by
  obtain ⟨r1, r2, r3, oe, vs, T, oT, ts, t1, t2, t3, t4, t5, t6, t7, t8, t9⟩ := R
  have h3 : 3 < ts.size := (Array.getElem?_eq_some_iff.mp t9).1
  have ne : ∀ b o, s.heap.get? b = some o → (∀ ws, o.data ≠ .fields ws) → b ≠ T := fun b o q nf z => by
    rw [z, t7] at q
    cases q
    exact nf ts t8
  unfold setFlight
  refine wpAny_bind (wpAny_field t1 t3 t4 ?_)
  rw [if_pos (show (Value.ref T != Value.none) = true by simp)]
  refine wpAny_setField t7 t8 h3 ?_
  generalize hu : s.heap.update T (Obj.mapFields (·.setIfInBounds 3 ((some L).elim Value.none fun f => rawInt f))) = h'
  have oth : ∀ b, b ≠ T → h'.get? b = s.heap.get? b := fun b hb => by rw [← hu]; exact Heap.get?_update_other _ _ (Ne.symm hb)
  refine h h' ⟨fun b o q => (oth b fun z => by rw [z, t5] at q; cases q).trans (r1 b o q), r2, r3.of_keeps fun b o q nf => ⟨o, (oth b (ne b o q nf)).trans q, rfl⟩, ?_⟩ fun b o q nf => (oth b (ne b o q nf)).trans q
  refine ⟨oe, vs, T, Obj.mapFields (·.setIfInBounds 3 ((some L).elim Value.none fun f => rawInt f)) oT, ts.setIfInBounds 3 ((some L).elim Value.none fun f => rawInt f), (oth e (Ne.symm t6)).trans t1, t2, t3, t4, t5, t6, ?_, Obj.data_mapFields t8 _, ?_⟩
  · rw [← hu]
    exact Heap.get?_update_self _ t7 (Obj.isFreed_of_fields (Obj.data_mapFields t8 _))
  · simp [h3]
section
variable {X : Cx} {pins : List (Addr × Obj)} {σ : St} {H : Hp} {s : Shared}
theorem fun_keep {h h' base : Heap} : ∀ {l : List Env}, h.FunFrames base l → (∀ b ∈ frs l, h'.get? b = h.get? b) → h'.FunFrames base l
  | [], _, _ => trivial
  | env :: l, ⟨hk, ⟨L, o, hf, hn, ho, hd⟩, hr⟩, k => ⟨hk, ⟨L, o, hf, hn, (k L (List.mem_filterMap.mpr ⟨env, .head _, hf⟩)).trans ho, hd⟩, fun_keep hr fun b hb => k b (by
      obtain ⟨v, hv, hb⟩ := List.mem_filterMap.mp hb
      exact List.mem_filterMap.mpr ⟨v, .tail _ hv, hb⟩)⟩
theorem pasC {M : Model} {e : Value} {s' : Shared} {E : XK} {EE EE' : Value → Shared → Prop} {C : Addr} {m : Str → Option Value} {ce : Env} (hst : X.stack = X.env :: X.outer) (hfr : X.env.frame = some X.env.locals) (hex : X.ex = []) (I : Inv X pins σ H s)
    (hc : CXE X.prog X.w X.stack H s E e s') (hC : Loose X pins H C) (hn : s.heap.Ns C m) (hCf : C ∉ frs X.stack) (hcl : ce.locals = C) (hcf : ce.frame = X.env.frame) :
    wpAny M X.A (noteFrame e X.env) (fun _ s2 => ∃ m, s2.heap.Ns ce.locals m ∧ ∀ h', Heap.SameBut ce.locals s2.heap h' →
      wpAny M X.A (PySem.passOn "comprehension.variables-let-go" e ce : Sem Value) (fun _ _ => False) (fun e s3 => wpAny M X.A (leaving X.env e) (fun _ s4 => CXE X.prog X.w X.outer X.H₀ X.s₀ E e s4) EE s3) { s2 with heap := h' }) EE' s' := by
  have hA : X.A.frames = some (X.env :: X.outer) := by rw [← hst]; exact I.ok.frames
  subst hcl
  rw [hst] at hc hCf
  obtain ⟨ea, t, cl, vs, B, H', rfl, os, bare, fly, tup, tn, hok, kB, tB, un, hE⟩ := hc
  obtain ⟨oC, es, ep, ho, hd, rC⟩ := id hn
  have bC : B.get? ce.locals = some oC := kB _ _ ho hC.1 hCf
  refine wpAny_looks_onW hA hfr fly fun h4 held4 up4 => ?_
  refine ⟨m, ⟨oC, es, ep, held4.1 _ _ bC, hd, rC⟩, fun h' sb => ?_⟩
  have hB : ∀ b o, (PySem.W.hideAll B [ce.locals]).get? b = some o → B.get? b = some o ∧ b ≠ ce.locals := fun b o q => ⟨PySem.W.of_hideAll _ q, fun z => by rw [z, PySem.W.hideAll_none _ (List.mem_singleton.mpr rfl)] at q; cases q⟩
  have hS : (PySem.W.hideAll B [ce.locals]).StaysIn B := fun b o q => (hB b o q).1
  have toB : ∀ b o, B.get? b = some o → b ≠ ce.locals → (PySem.W.hideAll B [ce.locals]).get? b = some o := fun b o q n => PySem.W.hideAll_get _ q fun z => n (List.mem_singleton.mp z)
  have held5 : Heap.HeldW (PySem.W.hideAll B [ce.locals]) (X.env :: X.outer) ea cl (.ref t) X.env.locals h' := by
    obtain ⟨f1, f2, f3, oe, ws, T, oT, ts, t1, t2, t3, t4, t5, t6, t7, t8, t9⟩ := PySem.W.heldW_base hS held4
    have nf : ∀ b o ws, h4.get? b = some o → o.data = .fields ws → b ≠ ce.locals := fun b o ws q d z => by
      rw [z, held4.1 _ _ bC] at q
      cases q
      rw [hd] at d
      cases d
    refine ⟨fun b o q => (sb.2 b (hB b o q).2).trans (f1 b o q), f2, fun_keep f3 fun b hb => sb.2 b fun z => hCf (by rw [← z]; exact hb), oe, ws, T, oT, ts, (sb.2 _ (nf _ _ _ t1 t3)).trans t1, t2, t3, t4, t5, t6, (sb.2 _ (nf _ _ _ t7 t8)).trans t7, t8, t9⟩
  have sl7 : ∀ {h6 h7 : Heap}, (∀ b o, h'.get? b = some o → (∀ ws, o.data ≠ .fields ws) → h6.get? b = some o) → h6.UpToSlots h7 → ∀ b o, s'.heap.get? b = some o → (∀ ws, o.data ≠ .fields ws) → b ≠ ce.locals → ∃ sl, h7.get? b = some { o with slots := sl } := fun u6 u7 b o q nd nc => by
    obtain ⟨sl, e4⟩ := up4 b o q nd
    have e5 := (sb.2 b nc).trans e4
    have e6 := u6 b _ e5 nd
    obtain ⟨sl2, e7⟩ := u7 b _ e6 nd
    exact ⟨sl2, e7⟩
  obtain ⟨oe, ws, T, oT, ts, t1, t2, t3, t4, _⟩ := id held5.2.2.2
  unfold PySem.passOn
  refine wpAny_bind (wpAny_field t1 t3 t4 ?_)
  rw [if_neg (show ¬ ((Value.ref T == Value.none) = true) by simp)]
  refine wpAny_bind ?_
  rw [hcf, hfr]
  refine set_flight held5 fun h6 held6 up6 => wpAny_throw ?_
  unfold leaving
  refine wpAny_bind (wpAny_noteFrame_againW hfr held6.2.2.2 ?_)
  refine wpAny_landsW held6 fun h7 fly7 up7 => ?_
  obtain ⟨k1, k2, ⟨_, _, k3⟩, k4⟩ := fly7
  have u := I.base
  rw [hex] at u
  have old : ∀ b o, X.s₀.heap.get? b = some o → b ≠ ce.locals := fun b o q z => by
    have h1 : @LT.lt Nat instLTNat b X.s₀.heap.objs.size := Heap.lt_size q
    have h2 : @LE.le Nat _ X.s₀.heap.objs.size ce.locals := hC.2.2.1
    have z' : @Eq Nat b ce.locals := z
    omega
  have n2 : ∀ b o, X.s₀.heap.get? b = some o → b ∉ frs X.outer → b ∉ frs (X.env :: X.outer) := fun b o e nf z => by
    rcases (frs_cons hfr).mp z with z | z
    · exact I.old e z
    · exact nf z
  have keepB : ∀ b o, X.s₀.heap.get? b = some o → X.H₀ b = none → b ∉ frs X.outer → (PySem.W.hideAll B [ce.locals]).get? b = some o := fun b o e n nf =>
    toB b o (kB b o (u.keep b o e n nf (by simp)) (u.free b o e n (by simp)) (n2 b o e nf)) (old b o e)
  have thereB : ∀ b o, X.s₀.heap.get? b = some o → b ∉ frs X.outer → ∃ o', (PySem.W.hideAll B [ce.locals]).get? b = some o' := fun b o e nf => by
    obtain ⟨o', e1⟩ := u.there b o e (by simp)
    obtain ⟨o2, e2⟩ := tB b o' e1 (n2 b o e nf)
    exact ⟨o2, toB b o2 e2 (old b o e)⟩
  have hC' : H' ce.locals = none := un.free _ _ ho hC.1 (by simp)
  have hok' : HOk X.prog X.w H' (PySem.W.hideAll B [ce.locals]) := fun a o e => by
    have q : ObjOk X.prog X.w H' B a o := hok a o e
    refine q.stay (fun c u hc e' => toB c u e' fun z => ?_) (fun c e' => e') fun c zs e' => e'
    rw [← z] at hC'
    rcases hc with hc | hc
    · rw [hc, e] at hC'; cases hC'
    · rw [hc] at hC'; cases hC'
  have tup7 : h7.TupAt t vs := by
    obtain ⟨o, n, q, c, d⟩ := tup
    have nd : ∀ ws, o.data ≠ .fields ws := fun ws z => by rw [d] at z; cases z
    have nc : t ≠ ce.locals := fun z => by rw [z, bC] at tn; cases tn
    obtain ⟨sl, e⟩ := sl7 up6 up7 t o q nd nc
    exact ⟨_, n, e, c, d⟩
  have fslots : ∀ b o, s'.heap.get? b = some o → b ∈ frs X.outer → ∃ sl, h7.get? b = some { o with slots := sl } := fun b o e hb => by
    have hb' : b ∈ frs (X.env :: X.outer) := (frs_cons hfr).mpr (.inr hb)
    obtain ⟨_, o', ho', hd'⟩ := fly.2.2.1.mem (show b ∈ (X.env :: X.outer).filterMap (·.frame) from hb')
    rw [e] at ho'
    cases ho'
    exact sl7 up6 up7 b o e hd' fun z => hCf (by rw [← z]; exact hb')
  refine ⟨ea, t, cl, vs, _, H', rfl, by rw [os]; exact I.os, bare, ⟨k1, k2, k3, k4⟩, tup7, PySem.W.fresh_of_stays hS tn, hok', keepB, thereB, ?_, hE⟩
  refine ⟨fun b o e n nf _ => k1 _ _ (keepB b o e n nf), fun b o e n hb _ => ?_, fun b o e n _ => ?_, fun b o e _ => ?_, fun b zs e => un.tups b zs (u.tups b zs e), fun b o v e => un.frzs b o v (u.frzs b o v e), fun b ps e => ?_⟩
  · obtain ⟨sl, e1⟩ := u.slot b o e n hb (by simp)
    have n1 := u.free b o e n (by simp)
    obtain ⟨sl2, e2⟩ := un.slot b _ e1 n1 ((frs_cons hfr).mpr (.inr hb)) (by simp)
    obtain ⟨sl3, e3⟩ := fslots b _ e2 hb
    exact ⟨sl3, e3⟩
  · have n1 := u.free b o e n (by simp)
    obtain ⟨o', e1⟩ := u.there b o e (by simp)
    exact un.free b o' e1 n1 (by simp)
  · obtain ⟨o', e1⟩ := u.there b o e (by simp)
    obtain ⟨o2, e2⟩ := un.there b o' e1 (by simp)
    by_cases hb : b ∈ frs X.outer
    · obtain ⟨sl, e3⟩ := fslots b _ e2 hb
      exact ⟨_, e3⟩
    · obtain ⟨o3, e3⟩ := thereB b o e hb
      exact ⟨o3, k1 _ _ e3⟩
  · obtain ⟨m1, e1⟩ := u.tbls b ps e
    obtain ⟨m2, e2⟩ := un.tbls b _ e1
    exact ⟨m1 ++ m2, by rw [e2, Array.append_assoc]⟩
end
section
variable {prog : Program} {w : World} {A : Around} {R : Result → Shared → Prop} {s : Shared}
theorem comp_loopE {elt target iter : Expr} {ifs : List Expr} {scope : Scope} {pos : Pos} {it acc : Value} {env : Env} (I : Nat → Shared → Prop)
    (turn : ∀ n s, I n s → wpAny (model prog w) A (pyNext it) (fun r s₁ => match r with
      | none => R (.ok .next) s₁
      | some v => wpAny (model prog w) A (letOwnedTupleGo target it v) (fun _ s₁ => wpAny (model prog w) A (assign target env v) (fun _ s₂ =>
          wpAny (model prog w) A (forIn ifs true fun c r => if r = true then do let ok ← isTrue c env (eval c env); pure (ForInStep.yield ok) else pure (ForInStep.yield r)) (fun ok s₃ =>
            if ok = true then wpAny (model prog w) A (eval elt env) (fun x s₄ =>
              wpAny (model prog w) A (call (.builtin "list.append") [acc, x]) (fun _ s₅ => ∃ m, m < n ∧ I m s₅) (fun _ _ => False) s₄) (notedBy (model prog w) A env fun x s' => R (.error x) s') s₃
            else ∃ m, m < n ∧ I m s₃) (fun _ _ => False) s₂) (fun _ _ => False) s₁) (fun _ _ => False) s₁) (fun _ _ => False) s)
    (n : Nat) (h : I n s) :
    codeAny (model prog w) A (.compLoop (.ListComp elt [⟨target, iter, ifs, 0⟩] scope pos) 0 it acc env) R s := by
  refine codeAny_loop rfl I (fun n s hI => ?_) n h
  show wpAny _ A ((compTurn (.ListComp elt [⟨target, iter, ifs, 0⟩] scope pos) 0 it acc env).onRaise (fun x => do noteFrame x env; theTreesLotGoes x)) _ _ s
  refine wpAny_noted ?_
  rw [compTurn_list]
  refine wpAny_bind (wpAny_standAt (wpAny_bind (wpAny_mono (turn n s hI) (fun r s₁ h₁ => ?_) fun _ _ h' => h'.elim)))
  cases r with
  | none => exact wpAny_pure h₁
  | some v =>
    refine wpAny_bind (wpAny_mono h₁ (fun _ s₁ h₁ => ?_) fun _ _ h' => h'.elim)
    refine wpAny_bind (wpAny_mono h₁ (fun _ s₂ h₂ => wpAny_bind (wpAny_mono h₂ (fun ok s₃ h₃ => ?_) fun _ _ h' => h'.elim)) fun _ _ h' => h'.elim)
    cases ok with
    | false => exact wpAny_pure ⟨rfl, h₃⟩
    | true =>
      exact wpAny_bind (wpAny_bind (wpAny_mono h₃ (fun x s₄ h₄ => wpAny_bind (wpAny_mono h₄ (fun _ s₅ h₅ => wpAny_pure (wpAny_pure ⟨rfl, h₅⟩)) fun _ _ h' => h'.elim)) fun _ _ h' => h'))
end
section
variable {X : Cx}
theorem comp_blockE {E : XK} (hst : X.stack = X.env :: X.outer) {elt iter : Expr} {x : Str} {px pos : Pos} {ifs : List Expr} {scope : Scope} {cl : List (Str × Addr)} {caps : List Nat} {xs : List Str} {tt : TT} {te : TE}
    (hc : X.calm = true) (hcl : ClOk X.env.cells cl) (hcap : CapsOk X (relabel scope X.env) cl caps xs) (hlen : caps.length = xs.length)
    (hkind : scope.kind = .function) (hcell : ∀ y ∈ scope.names, y.2 ≠ .cell)
    (hhas : ((relabel scope X.env).names.all fun y => !(y.2 == .cell || y.2 == .free) || (cl.lookup y.1).isSome) = true)
    (hx : (relabel scope X.env).names.lookup x = some .local) (hN : (x :: xs).Nodup)
    (ht : ∀ C s H fp, PTs (compCx X (x :: xs) scope cl C s H fp) ifs tt) (he : ∀ C s H fp XE, Passes (CXE X.prog X.w) ((compCx X (x :: xs) scope cl C s H fp).wish XE) E → PE ((compCx X (x :: xs) scope cl C s H fp).wish XE) elt te)
    {pins : List (Addr × Obj)} {σ : St} {H1 : Hp} {s2 : Shared} {it : Addr} {fp : List Addr} {tn : Nat → Heap → Prop} {J : It} {Q : VK}
    (I2 : Inv X pins σ H1 s2) (T : Turn X.prog X.w X.K (.Name x px) J fp it tn) (st0 : tn 0 s2.heap) (hfp : ∀ b ∈ fp, FpOk X pins H1 b)
    (hq : ∃ (n : Nat) (W : Nat → List V → Hp → Prop), n ≤ sizeLine ∧ W 0 [] H1 ∧ ∀ i ys H2, W i ys H2 →
      (J.stop i H2 ∧ ∀ p, H2 p = none → Q (.ref p) (upd H2 p (.lst ys))) ∨
      (J.go i H2 ∧ i < n ∧ ∀ x H3, J.yld i H2 x H3 → tt (some x :: capV caps σ) H3 fun b H4 => if b = true then te (some x :: capV caps σ) H4 fun v H5 => W (i + 1) (ys ++ [v]) H5 else W (i + 1) ys H4))
    {RR : Value → Env → Result → Shared → Prop}
    (hRR : ∀ s1 D C m H', Inv X pins σ H' s1 → s1.heap.Ns C m → Loose X pins H' C → Q (.ref D) H' → RR (.ref D) (compEnvC scope cl C X.env) (.ok .next) s1)
    (hRE : ∀ s1 acc C m H' e s', Inv X pins σ H' s1 → s1.heap.Ns C m → Loose X pins H' C → C ∉ frs X.stack → CXE X.prog X.w X.stack H' s1 E e s' → notedBy (model X.prog X.w) X.A X.env (fun x s'' => RR acc (compEnvC scope cl C X.env) (.error x) s'') e s') :
    wpAny (model X.prog X.w) X.A (newList []) (fun acc s₃ => wpAny (model X.prog X.w) X.A (newFunctionEnv scope X.env.globals cl [] X.env.qual none .none (some X.env)) (fun cenv s₄ =>
      codeAny (model X.prog X.w) X.A (.compStart (.ListComp elt [⟨.Name x px, iter, ifs, 0⟩] scope pos) 0 (.ref it) acc { cenv with scope := relabel scope X.env }) (RR acc { cenv with scope := relabel scope X.env }) s₄) X.xe s₃) X.xe s2 := by
  obtain ⟨n, W, hn, w0, hW⟩ := hq
  have hlt : ∀ b ∈ fp, b < s2.heap.objs.size := fun b hb => by
    obtain ⟨o, ho, _⟩ := T.obj 0 s2.heap st0 b hb
    exact Heap.lt_size ho
  refine wpAny_newObj_type (wpAny_newFunctionEnv hcell (by intro y hy; simp at hy) (fun h₁ hns₁ hsb₁ => ?_) hkind)
  dsimp only at hns₁ hsb₁ ⊢
  generalize hH2 : s2.heap.push { cls := .type "list", dict := none, data := .seq ([] : List Value).toArray } = G at hns₁ hsb₁ ⊢
  have hC : G.objs.size = s2.heap.objs.size + 1 := by rw [← hH2, Heap.size_push]
  have hDC : s2.heap.objs.size ≠ G.objs.size := by omega
  have old : ∀ b o, s2.heap.get? b = some o → h₁.get? b = some o := fun b o e => hsb₁.extBut b o (adr (by have h1 : @LT.lt Nat _ b s2.heap.objs.size := Heap.lt_size e; omega)) (Heap.get?_push_of_some _ (hH2 ▸ Heap.get?_push_of_some _ e))
  have hacc : h₁.get? s2.heap.objs.size = some { cls := .type "list", dict := none, data := .seq ([] : List Value).toArray } :=
    hsb₁.extBut _ _ hDC (Heap.get?_push_of_some _ (hH2 ▸ Heap.get?_push_size _ rfl))
  have I3 : Inv (compCx X (x :: xs) scope cl G.objs.size s2 H1 fp) [] (none :: capV caps σ) H1 { s2 with heap := h₁, toks := s2.toks + ([] : List (Str × Value)).length } :=
    comp_start I2 hcl hkind hfp hlt hhas (by omega) hcap hlen hns₁ old
  have st1 : tn 0 h₁ := T.keep 0 _ _ st0 fun b hb o e => old b o e
  have fpX : ∀ {pins' : List (Addr × Obj)} {H' : Hp} (b : Addr), b ∈ fp → H' b = none → (∀ p ∈ pins', p.1 ≠ b) → FpOk (compCx X (x :: xs) scope cl G.objs.size s2 H1 fp) pins' H' b := fun b hb hh hp =>
    ⟨hh, fun z => by have h1 : @LT.lt Nat _ b s2.heap.objs.size := hlt b hb; have z' : @Eq Nat b G.objs.size := z; omega, fun z => by
      rcases List.mem_cons.mp (I2.stkSub b z) with q | q
      · exact (hfp b hb).2.1 q
      · exact (hfp b hb).2.2.1 q, .inl hb, fun y c e => (hfp b hb).2.2.2.2.1 y c (hcl.get e), fun p hp' => hp p hp'⟩
  let XC := compCx X (x :: xs) scope cl G.objs.size s2 H1 fp
  have CnF : G.objs.size ∉ frs X.stack := fun z => by
    rcases List.mem_cons.mp (I2.stkSub _ z) with q | q
    · have h1 : @LT.lt Nat instLTNat X.env.locals s2.heap.objs.size := I2.lt
      have z' : @Eq Nat G.objs.size X.env.locals := q
      omega
    · exact I2.nofs (by omega) q
  have loose : ∀ {H' : Hp}, H' G.objs.size = none → Loose X pins H' G.objs.size := fun hHC => by
    refine ⟨hHC, fun z => ?_, by have := I2.sz; omega, fun y c e z => ?_, fun p hp z => ?_⟩
    · have h1 : @LT.lt Nat instLTNat X.env.locals s2.heap.objs.size := I2.lt
      have z' : @Eq Nat G.objs.size X.env.locals := z
      omega
    · obtain ⟨v', o', ho', _⟩ := I2.cell y c e
      have h1 := ltN ho'
      have z' : @Eq Nat c G.objs.size := z
      omega
    · have h1 := ltN (I2.pin p hp).1
      have z' : @Eq Nat p.1 G.objs.size := z
      omega
  obtain ⟨XE, hXE⟩ : ∃ XE : Value → Shared → Prop, ∀ e s', XE e s' ↔ ∃ Hn s1, Inv X pins σ Hn s1 ∧ (∃ m, s1.heap.Ns G.objs.size m) ∧ Loose X pins Hn G.objs.size ∧ G.objs.size ∉ frs X.stack ∧ CXE X.prog X.w X.stack Hn s1 E e s' := ⟨_, fun _ _ => Iff.rfl⟩
  have passes : Passes (CXE X.prog X.w) (XC.wish XE) E := fun pins' σ' H' s1 e s' J hc => by
    have J1 := J.unwish
    obtain ⟨mC, hnC, _⟩ := J1.loc
    exact (hXE _ _).mpr ⟨H', s1, I2.call' (ch := fp) J1.os J1.base J1.hok J1.bare fun b hb => ⟨(hfp b hb).2.2.2.1, (hfp b hb).2.1, (hfp b hb).2.2.2.2.1, (hfp b hb).2.2.2.2.2⟩, ⟨mC, hnC⟩, loose J1.free, CnF, hc⟩
  have loop : ∀ s3 : Shared, s3 = { s2 with heap := h₁, toks := s2.toks + ([] : List (Str × Value)).length } →
      codeAny (model X.prog X.w) X.A (.compLoop (.ListComp elt [⟨.Name x px, iter, ifs, 0⟩] scope pos) 0 (.ref it) (.ref s2.heap.objs.size) (compEnvC scope cl G.objs.size X.env))
        (RR (.ref s2.heap.objs.size) (compEnvC scope cl G.objs.size X.env)) s3 := by
    rintro s3 rfl
    refine comp_loopE (fun m s' => ∃ (i : Nat) (ys : List V) (Hn : Hp) (its : List Value) (k : Nat) (v0 : Option V), m = n + 1 - i ∧ i ≤ n ∧ ys.length ≤ i ∧ W i ys Hn ∧ Vals ys its ∧ tn i s'.heap ∧ (∀ b ∈ fp, Hn b = none) ∧
      Inv XC [(s2.heap.objs.size, { cls := .type "list", data := .seq its.toArray k })] (v0 :: capV caps σ) Hn s') ?_ (n + 1) ?_
    · rintro m s' ⟨i, ys, Hn, its, k, v0, rfl, hin, hyl, w, rv, st, hfn, J'⟩
      have pD := J'.pin _ (List.mem_append_right _ (List.mem_singleton.mpr rfl))
      have neD : ∀ b ∈ fp, ∀ p ∈ [((s2.heap.objs.size, ({ cls := .type "list", data := .seq its.toArray k } : Obj)))], p.1 ≠ b := fun b hb p hp z => by
        have h1 : @LT.lt Nat instLTNat b s2.heap.objs.size := hlt b hb
        rw [List.mem_singleton.mp hp] at z
        have z' : @Eq Nat s2.heap.objs.size b := z
        omega
      rcases hW i ys Hn w with ⟨hstop, fin⟩ | ⟨hgo, hi', hgo'⟩
      · -- it stops
        refine wpAny_mono (T.done XC rfl rfl rfl hc i _ s' _ Hn (fun _ _ => False) J' (fun b hb => fpX b hb (hfn b hb) (neD b hb)) st hstop) (fun r s1 hr => ?_) fun _ _ z => z
        obtain ⟨rfl, J1⟩ := hr
        obtain ⟨mC, hnC, _⟩ := J1.loc
        have pD1 := J1.pin _ (List.mem_append_right _ (List.mem_singleton.mpr rfl))
        have hD' : s1.heap.get? s2.heap.objs.size = some { cls := .type "list", data := .seq its.toArray k } := pD1.1
        have hHD : Hn s2.heap.objs.size = none := pD1.2.1
        have hHC : Hn G.objs.size = none := J1.free
        have un : Un (frs X.stack) fp H1 (upd Hn s2.heap.objs.size (.lst ys)) s2.heap s1.heap := by
          have u := J1.base
          have lt2 : ∀ b o, s2.heap.get? b = some o → b ≠ G.objs.size ∧ b ≠ s2.heap.objs.size := fun b o e => by
            have h1 := ltN e
            exact ⟨adr (by omega), adr (by omega)⟩
          refine ⟨u.keep, u.slot, fun b o e n1 n2 => ?_, u.there, fun b zs e => ?_, fun b o u' e => ?_, fun b ps e => ?_⟩
          · rw [upd_ne (lt2 b o e).2]
            exact u.free b o e n1 n2
          · have q := u.tups b zs e
            rw [upd_ne (fun z => by rw [z, hHD] at q; cases q)]
            exact q
          · have q := u.frzs b o u' e
            rw [upd_ne (fun z => by rw [z, hHD] at q; cases q)]
            exact q
          · obtain ⟨more, q⟩ := u.tbls b ps e
            refine ⟨more, ?_⟩
            rw [upd_ne (fun z => by rw [z, hHD] at q; cases q)]
            exact q
        have hok : HOk X.prog X.w (upd Hn s2.heap.objs.size (.lst ys)) s1.heap := fun a o e => by
          by_cases ha : a = s2.heap.objs.size
          · subst ha
            rw [upd_same] at e
            cases e
            exact ⟨by omega, its, k, rv, hD'⟩
          · rw [upd_ne ha] at e
            have q : ObjOk X.prog X.w Hn s1.heap a o := J1.hok a o e
            refine q.stay (fun b u' hb e' => e') (fun b e' => ?_) fun b zs e' => ?_
            · rw [upd_ne (fun z => by rw [z, hHD] at e'; cases e')]; exact e'
            · rw [upd_ne (fun z => by rw [z, hHD] at e'; cases e')]; exact e'
        have I4 : Inv X pins σ (upd Hn s2.heap.objs.size (.lst ys)) s1 :=
          I2.call' (ch := fp) J1.os un hok J1.bare fun b hb => ⟨(hfp b hb).2.2.2.1, (hfp b hb).2.1, (hfp b hb).2.2.2.2.1, (hfp b hb).2.2.2.2.2⟩
        refine hRR s1 _ _ mC _ I4 hnC ⟨by rw [upd_ne (Ne.symm hDC)]; exact hHC, fun z => ?_, by have := I2.sz; omega, fun y c e z => ?_, fun p hp z => ?_⟩ (fin _ hHD)
        · have h1 : @LT.lt Nat instLTNat X.env.locals s2.heap.objs.size := I2.lt
          have z' : @Eq Nat G.objs.size X.env.locals := z
          omega
        · obtain ⟨v', o', ho', _⟩ := I2.cell y c e
          have h1 := ltN ho'
          have z' : @Eq Nat c G.objs.size := z
          omega
        · have h1 := ltN (I2.pin p hp).1
          have z' : @Eq Nat p.1 G.objs.size := z
          omega
      · -- a turn
        refine wpAny_mono (T.item XC rfl rfl rfl hc i _ s' _ Hn (fun _ _ => False) J' (fun b hb => fpX b hb (hfn b hb) (neD b hb)) st hgo) (fun r s1 hr => ?_) fun _ _ z => z
        obtain ⟨u, rfl, hr⟩ := hr
        refine wpAny_mono hr (fun _ s2' h2 => ?_) fun _ _ z => z
        obtain ⟨v, H3, J1, ru, hy, st1', hf3⟩ := h2
        refine wpAny_assign_Name ?_
        refine store_ok2 (v := v) J1 hN (i := 0) rfl (.inl hx) ru (fun s4 J2 hsb => ?_) (.inr hx)
        have st4 : tn (i + 1) s4.heap := by
          obtain ⟨a, hsa, ha⟩ := hsb
          refine T.keep _ _ _ st1' fun b hb o e => hsa.extBut b o (fun z => ?_) e
          rcases ha with ha | ha
          · have h1 : @LT.lt Nat instLTNat b s2.heap.objs.size := hlt b hb
            have ha' : @Eq Nat a G.objs.size := ha
            have z' : @Eq Nat b a := z
            omega
          · exact (hfp b hb).2.2.2.2.1 x a (hcl.get ha) z.symm
        have J2' : Inv XC [(s2.heap.objs.size, { cls := .type "list", data := .seq its.toArray k })] (some v :: capV caps σ) H3 s4 := J2
        have ob4 : ∀ b ∈ fp, ∃ o, s4.heap.get? b = some o ∧ ∀ v, o.data ≠ .cell v := fun b hb => T.obj _ _ st4 b hb
        have J3 := J2'.pinned (fun b hb => fpX b hb (hf3 b hb) (neD b hb)) ob4
        have tnAt : ∀ {σ' : St} {H' : Hp} {s'' : Shared}, Inv XC ([(s2.heap.objs.size, ({ cls := .type "list", data := .seq its.toArray k } : Obj))] ++ pinsAt fp s4.heap) σ' H' s'' → tn (i + 1) s''.heap ∧ ∀ b ∈ fp, H' b = none := fun J4 =>
          ⟨T.keep _ _ _ st4 fun b hb o e => (J4.pin (b, o) (List.mem_append_right _ (List.mem_append_right _ (mem_pinsAt hb e)))).1, fun b hb => by
            obtain ⟨o, e, _⟩ := ob4 b hb
            exact (J4.pin (b, o) (List.mem_append_right _ (List.mem_append_right _ (mem_pinsAt hb e)))).2.1⟩
        refine thn (ht _ _ _ _ _ s4 _ H3 _ J3 (hgo' v H3 hy)) fun ok s5 ⟨H4, J4, q4⟩ => ?_
        cases ok with
        | false =>
          rw [if_neg (by simp)]
          have q4' : W (i + 1) ys H4 := q4
          obtain ⟨a1, a2⟩ := tnAt J4
          exact ⟨n + 1 - (i + 1), by omega, i + 1, ys, H4, its, k, some v, rfl, by omega, by omega, q4', rv, a1, a2, J4.unpinned⟩
        | true =>
          rw [if_pos rfl]
          have q4' : te (some v :: capV caps σ) H4 fun v H5 => W (i + 1) (ys ++ [v]) H5 := q4
          refine wpAny_mono (he _ _ _ _ _ passes _ s5 _ H4 _ (J4.wish _) q4') (fun uv s6 ⟨y, H5, J5, ry, q5⟩ => ?_) (fun e s6 hx => ?_)
          case refine_2 =>
            obtain ⟨Hn', s1', I', ⟨m', hm'⟩, l', f', c'⟩ := (hXE _ _).mp hx
            exact hRE s1' _ _ m' Hn' e s6 I' hm' l' f' c'
          have J5 := J5.unwish
          obtain ⟨a1, a2⟩ := tnAt J5
          have pD6 := J5.pin _ (List.mem_append_right _ (List.mem_append_left _ (List.mem_singleton.mpr rfl)))
          have hl6 := rv.length
          refine call_meets F.slot_list_append ⟨_, pD6.1, rfl⟩ F.entry_list_append (F.args_list_append_2 _ _) (PySem.list_append s2.heap.objs.size its.toArray k uv (by rw [List.size_toArray]; omega)) ⟨pD6.1, ?_⟩
          have J6 : Inv XC [] (some v :: capV caps σ) H5 s6 := J5.pins_of fun p hp => by cases hp
          have ne6 : s2.heap.objs.size ∉ fp := fun z => by have h1 : @LT.lt Nat instLTNat s2.heap.objs.size s2.heap.objs.size := hlt _ z; omega
          have J7 : Inv XC [] (some v :: capV caps σ) H5 { s6 with heap := s6.heap.update s2.heap.objs.size (Obj.mapSeq fun xs => xs.push uv), toks := s6.toks } :=
            J6.turned (it := s2.heap.objs.size) (fun b o hb e => by rw [Heap.get?_update_other _ _ (Ne.symm hb)]; exact e) pD6.2.1 (fun z => hDC z) (.inr (Nat.le_refl _)) (fun y c e z => by
              have e1 := I2.cell y c (hcl.get e)
              obtain ⟨v', o', ho', _⟩ := e1
              have h1 := ltN ho'
              have z' : @Eq Nat c s2.heap.objs.size := z
              omega) (fun p hp => by cases hp)
          refine ⟨n + 1 - (i + 1), by omega, i + 1, ys ++ [y], H5, its ++ [uv], k + 1, some v, rfl, by omega, by rw [List.length_append, List.length_singleton]; omega, q5, rv.append (.cons ry .nil), ?_, a2, ?_⟩
          · refine T.keep _ _ _ a1 fun b hb o e => ?_
            show (s6.heap.update s2.heap.objs.size _).get? b = some o
            rw [Heap.get?_update_other _ _ (fun z => ne6 (by rw [z]; exact hb))]
            exact e
          · refine J7.pins_of fun p hp => ?_
            rw [List.mem_singleton.mp hp]
            refine ⟨?_, pD6.2.1, fun z => hDC z, pD6.2.2.2.1, fun v' z => ?_⟩
            · show (s6.heap.update s2.heap.objs.size _).get? s2.heap.objs.size = _
              rw [Heap.get?_update_self _ pD6.1 rfl]
              simp only [Obj.mapSeq, List.push_toArray]
              rw [if_neg (by simp)]
            · have z' : Data.seq _ _ = Data.cell v' := z
              cases z'
    · exact ⟨0, [], H1, [], 0, none, by omega, by omega, by simp, w0, .nil, st1, fun b hb => (hfp b hb).1, I3.pins_of fun p hp => by
        rw [List.mem_singleton.mp hp]
        refine ⟨hacc, I2.hok.fresh (Nat.le_refl _), fun z => hDC z, fun z => ?_, fun v' z => ?_⟩
        · have := I2.stkFree _ z
          rcases List.mem_cons.mp (I2.stkSub _ z) with q | q
          · have h1 : @LT.lt Nat instLTNat X.env.locals s2.heap.objs.size := I2.lt
            have z' : @Eq Nat s2.heap.objs.size X.env.locals := q
            omega
          · exact I2.nofs (Nat.le_refl _) q
        · have z' : Data.seq _ _ = Data.cell v' := z
          cases z'⟩
  exact codeAny_compStart_list (loop _ rfl) (T.self X.A 0 _ _ _ st1 (loop _ rfl))
theorem pe_compE {elt iter : Expr} {x : Str} {px pos : Pos} {ifs : List Expr} {scope : Scope} {cl : List (Str × Addr)} {E : XK} {EE : Value → Shared → Prop} (hst : X.stack = X.env :: X.outer) (hfr : X.env.frame = some X.env.locals) (hex : X.ex = []) (hxe : X.xe = fun e s' => wpAny (model X.prog X.w) X.A (leaving X.env e) (fun _ s'' => CXE X.prog X.w X.outer X.H₀ X.s₀ E e s'') EE s')
    (caps : List Nat) (xs : List Str) {wi : TI} {tt : TT} {te : TE}
    (hc : X.calm = true) (hclos : closureFor scope X.env = pure cl) (hcl : ClOk X.env.cells cl) (hcap : CapsOk X (relabel scope X.env) cl caps xs) (hlen : caps.length = xs.length)
    (hkind : scope.kind = .function) (hcell : ∀ y ∈ scope.names, y.2 ≠ .cell) (hnames : ∀ y ∈ scope.names, y.2 = .local → scope.names.lookup y.1 = some .local)
    (hhas : ((relabel scope X.env).names.all fun y => !(y.2 == .cell || y.2 == .free) || (cl.lookup y.1).isSome) = true)
    (hx : (relabel scope X.env).names.lookup x = some .local) (hN : (x :: xs).Nodup)
    (hi : PI X (.Name x px) iter wi) (ht : ∀ C s H fp, PTs (compCx X (x :: xs) scope cl C s H fp) ifs tt) (he : ∀ C s H fp XE, Passes (CXE X.prog X.w) ((compCx X (x :: xs) scope cl C s H fp).wish XE) E → PE ((compCx X (x :: xs) scope cl C s H fp).wish XE) elt te)
    (hs : ∀ v, foldedSetIterable iter X.env v = pure v := by intro _; rfl) : PE X (.ListComp elt [⟨.Name x px, iter, ifs, 0⟩] scope pos) (tComp caps wi tt te) := by
  intro pins s σ H Q I h
  rw [eval_ListComp]
  refine comp_freeE rfl hs hclos hkind hnames (wpAny_mono (hi pins s σ H _ I h) (fun v s1 h1 => wpAny_mono h1 (fun itv s2 h2 => ?_) fun _ _ e => e) fun _ _ e => e)
  obtain ⟨it, fp, tn, J, H1, rfl, I2, T, st0, hfp, hq⟩ := h2
  refine comp_blockE (E := E) hst (RR := fun acc ce => cPost (model X.prog X.w) X.A X.xe (EP X pins σ Q) acc ce) hc hcl hcap hlen hkind hcell hhas hx hN ht he I2 T st0 hfp hq ?_ ?_
  · intro s1 D C m H' I4 hn l q
    exact ⟨m, hn, fun h' hsb => ⟨.ref D, H', I4.letGo l hsb, rfl, q⟩⟩
  · intro s1 acc C m H' e s' I4 hn l hf hcx
    have := pasC (EE := EE) (EE' := fun x s'' => cPost (model X.prog X.w) X.A X.xe (EP X pins σ Q) acc (compEnvC scope cl C X.env) (.error x) s'') (M := model X.prog X.w) (ce := compEnvC scope cl C X.env) hst hfr hex I4 hcx l hn hf rfl rfl
    rw [← hxe] at this
    exact this
end
end L2
namespace Tx
open PySem PySem.NumText
def neg (l : List Nat) : Bool := match l with
  | 45 :: _ => true
  | _ => false
def figs (l : List Nat) : List Nat := match l with
  | 45 :: r => r
  | _ => l
theorem figs_of_neg {l : List Nat} (h : neg l = true) : l = 45 :: figs l := by
  unfold neg at h
  split at h
  · rfl
  · cases h
theorem figs_of_not {l : List Nat} (h : neg l = false) : figs l = l := by
  unfold neg at h
  unfold figs
  split at h
  · cases h
  · rfl
structure Wr (l : List Nat) : Prop where
  one : 1 ≤ (figs l).length
  most : (figs l).length ≤ 60
  all : ∀ c ∈ figs l, 48 ≤ c ∧ c ≤ 57
  head : ∀ r, figs l = 48 :: r → r = [] ∧ neg l = false
noncomputable instance (l : List Nat) : Decidable (Wr l) := Classical.propDecidable _
def valOf (l : List Nat) : Int := if neg l then -((digitsVal (figs l) : Nat) : Int) else ((digitsVal (figs l) : Nat) : Int)
noncomputable def num (z : Str) : Option Int := if Wr z.cps.toList then some (valOf z.cps.toList) else none
theorem num_some {z : Str} {n : Int} (h : num z = some n) : Wr z.cps.toList ∧ n = valOf z.cps.toList := by
  unfold num at h
  split at h
  · rename_i w
    exact ⟨w, (Option.some.inj h).symm⟩
  · cases h
theorem num_none {z : Str} (h : num z = none) : ¬ Wr z.cps.toList := fun w => by
  unfold num at h
  rw [if_pos w] at h
  cases h
theorem Wr.len {z : Str} (w : Wr z.cps.toList) : z.length ≤ 61 := by
  have h1 : z.length = z.cps.toList.length := by simp [Str.length]
  have h2 := w.most
  cases h : neg z.cps.toList with
  | true => rw [h1, figs_of_neg h]; simp only [List.length_cons]; omega
  | false => rw [h1, ← figs_of_not h]; omega
theorem Wr.reads {z : Str} (w : Wr z.cps.toList) : intText? z = some (valOf z.cps.toList) := by
  have hl := w.len
  have ne : figs z.cps.toList ≠ [] := fun e => by
    have := w.one
    rw [e] at this
    simp at this
  unfold valOf
  cases h : neg z.cps.toList with
  | true => exact intText_neg (figs_of_neg h) w.all ne (by omega)
  | false =>
    have e := figs_of_not h
    have hd := w.all
    rw [e] at hd ne ⊢
    exact intText_digits hd ne (by omega)
theorem Wr.shows {z : Str} (w : Wr z.cps.toList) : Str.ofString (toString (valOf z.cps.toList)) = z := by
  have h1 := w.one
  have dg : Nat.toDigits 10 (digitsVal (figs z.cps.toList)) = (figs z.cps.toList).map Char.ofNat := by
    refine toDigits_digitsVal ((figs z.cps.toList).length - 1) _ (by omega) w.all ?_
    cases hf : figs z.cps.toList with
    | nil => rw [hf] at h1; simp at h1
    | cons c r =>
      by_cases hc : c = 48
      · subst hc
        exact .inl (by rw [(w.head r hf).1]; rfl)
      · refine .inr ⟨c, r, rfl, ?_⟩
        have := w.all c (by rw [hf]; exact .head _)
        omega
  have back : ((figs z.cps.toList).map Char.ofNat).map Char.toNat = figs z.cps.toList := by
    rw [List.map_map]
    refine (List.map_congr_left fun c hc => ?_).trans (List.map_id _)
    have := w.all c hc
    show (Char.ofNat c).toNat = c
    have hv : c.isValidChar := .inl (by omega)
    simp [Char.ofNat, hv, Char.toNat, Char.ofNatAux]
  have nat : (Str.ofString (toString ((digitsVal (figs z.cps.toList) : Nat) : Int))).cps.toList = figs z.cps.toList := by
    rw [PySem.W.KIN.signs_num, dg, back]
  have ext : ∀ {a b : Str}, a.cps.toList = b.cps.toList → a = b := fun {a b} e => by
    obtain ⟨x⟩ := a
    obtain ⟨y⟩ := b
    exact congrArg Str.mk (Array.toList_inj.mp e)
  apply ext
  unfold valOf
  cases h : neg z.cps.toList with
  | false => rw [if_neg (by simp), nat, figs_of_not h]
  | true =>
    have nz : digitsVal (figs z.cps.toList) ≠ 0 := fun e => by
      cases hf : figs z.cps.toList with
      | nil => rw [hf] at h1; simp at h1
      | cons c r =>
        by_cases hc : c = 48
        · subst hc
          have := (w.head r hf).2
          rw [h] at this
          cases this
        · have := w.all c (by rw [hf]; exact .head _)
          have p := digitsVal_pos (c := c) (cs := r) (by omega)
          rw [hf] at e
          omega
    rw [if_pos rfl]
    obtain ⟨k, ek⟩ : ∃ k, digitsVal (figs z.cps.toList) = k + 1 := ⟨digitsVal (figs z.cps.toList) - 1, by omega⟩
    have e1 : toString (-((digitsVal (figs z.cps.toList) : Nat) : Int)) = "-" ++ toString ((digitsVal (figs z.cps.toList) : Nat) : Int) := by
      rw [ek]
      rfl
    rw [e1]
    have e2 : (Str.ofString ("-" ++ toString ((digitsVal (figs z.cps.toList) : Nat) : Int))).cps.toList = 45 :: (Str.ofString (toString ((digitsVal (figs z.cps.toList) : Nat) : Int))).cps.toList := by
      simp [Str.ofString_eq_toList]
    rw [e2, nat, ← figs_of_neg h]
end Tx
namespace L2
open PySem PySem.Spec PyProof.Rows
theorem w_tys {K : PySem.W.Frag} {z : Str} {H : Hp} : tyV K "str" (.str z) H = True := eq_true rfl
end L2
namespace Tx
open PySem
theorem ext {a b : Str} (e : a.cps.toList = b.cps.toList) : a = b := by
  obtain ⟨x⟩ := a
  obtain ⟨y⟩ := b
  exact congrArg Str.mk (Array.toList_inj.mp e)
theorem len_list (z : Str) : z.length = z.cps.toList.length := by simp [Str.length]
theorem sl_from {z : Str} {i : Int} (h0 : 0 ≤ i) (h : i ≤ z.length) : (Txt.slice z (some i) none).cps.toList = z.cps.toList.drop i.toNat := by
  rw [PyProof.Rows.slice_from_eq h0 h rfl]
  show List.take _ _ = _
  rw [List.take_of_length_le]
  rw [List.length_drop, ← len_list]
  omega
theorem sl_to {z : Str} {j : Int} (h0 : 0 ≤ j) (h : j ≤ z.length) : (Txt.slice z none (some j)).cps.toList = z.cps.toList.take j.toNat := by
  have := eq_of_beq (PyProof.Rows.slice_closes_to (x := z) (j := j) ⟨h0, by rw [← len_list]; exact h⟩)
  rw [this]
  show List.take _ _ = _
  simp
theorem starts_one {z : Str} {c : Nat} : Txt.startswith z ⟨#[c]⟩ = decide (z.cps.toList.head? = some c) := by
  obtain ⟨⟨l⟩⟩ := z
  cases l with
  | nil => simp [Txt.startswith, Str.length]
  | cons a r =>
    unfold Txt.startswith Builtin.Str.subAt
    simp only [Str.length, List.size_toArray, List.length_cons, List.length_nil, Nat.zero_add, List.head?_cons, Option.some.injEq]
    rw [Bool.eq_iff_iff]
    simp
theorem minus : (Str.ofString "-") = ⟨#[45]⟩ := by decide +kernel
theorem nought : (Str.ofString "0") = ⟨#[48]⟩ := by decide +kernel
theorem neg_head {l : List Nat} : neg l = decide (l.head? = some 45) := by
  cases l with
  | nil => rfl
  | cons a r =>
    by_cases h : a = 45
    · subst h
      simp [neg]
    · simp only [List.head?_cons, Option.some.injEq, h, decide_false]
      unfold neg
      split
      · rename_i z
        cases z
        exact absurd rfl h
      · rfl
theorem starts_minus {z : Str} : Txt.startswith z (Str.ofString "-") = neg z.cps.toList := by rw [minus, starts_one, neg_head]
theorem digits : (Str.ofString "0123456789").cps.toList = [48, 49, 50, 51, 52, 53, 54, 55, 56, 57] := by decide +kernel
theorem find_fig {c : Nat} : Txt.find (Str.ofString "0123456789") ⟨#[c]⟩ = if 48 ≤ c ∧ c ≤ 57 then (c : Int) - 48 else -1 := by
  by_cases h : 48 ≤ c ∧ c ≤ 57
  · rw [if_pos h]
    have : c = 48 ∨ c = 49 ∨ c = 50 ∨ c = 51 ∨ c = 52 ∨ c = 53 ∨ c = 54 ∨ c = 55 ∨ c = 56 ∨ c = 57 := by omega
    rcases this with rfl | rfl | rfl | rfl | rfl | rfl | rfl | rfl | rfl | rfl <;> decide +kernel
  · rw [if_neg h]
    have e := StrLaws.found_one (Str.ofString "0123456789") c
    rw [digits, decide_eq_false (fun z => h (by
      simp only [List.mem_cons, List.not_mem_nil, or_false] at z
      omega))] at e
    unfold Txt.find
    cases q : Builtin.Str.occurrences (Str.ofString "0123456789") ⟨#[c]⟩ 0 (Str.ofString "0123456789").length 1 with
    | nil => rfl
    | cons i r =>
      rw [q] at e
      cases e
end Tx
namespace Tx
open PySem
def words (z : Str) : List Str := Txt.split z (Str.ofString ",")
noncomputable def poly (z : Str) : Option (List Int) := if (words z).length ≤ 13 ∧ ∀ w, w ∈ words z → Wr w.cps.toList then some ((words z).map fun w => valOf w.cps.toList) else none
theorem poly_some {z : Str} {ms : List Int} (h : poly z = some ms) : (words z).length ≤ 13 ∧ (∀ w, w ∈ words z → Wr w.cps.toList) ∧ ms = (words z).map fun w => valOf w.cps.toList := by
  unfold poly at h
  split at h
  · rename_i c
    exact ⟨c.1, c.2, (Option.some.inj h).symm⟩
  · cases h
theorem poly_of {z : Str} (h1 : (words z).length ≤ 13) (h2 : ∀ w, w ∈ words z → Wr w.cps.toList) : poly z = some ((words z).map fun w => valOf w.cps.toList) := if_pos ⟨h1, h2⟩
theorem words_or (z : Str) : words z = [z] ∨ words z = Builtin.Str.partsBetween z (Builtin.Str.occurrences z (Str.ofString ",") 0 z.length (z.length + 1)) (Str.ofString ",").length := by
  unfold words Txt.split
  split
  · exact .inl rfl
  · split
    · exact .inl rfl
    · exact .inr rfl
theorem word_le {z w : Str} (h : w ∈ words z) : w.length ≤ z.length := by
  rcases words_or z with e | e
  · rw [e] at h
    rw [List.mem_singleton.mp h]
    exact Nat.le_refl _
  · rw [e] at h
    unfold Builtin.Str.partsBetween at h
    obtain ⟨x, _, rfl⟩ := List.mem_map.mp h
    show (Array.extract _ _ _).size ≤ z.cps.size
    rw [Array.size_extract]
    omega
theorem words_len (z : Str) : (words z).length ≤ z.length + 2 := by
  rcases words_or z with e | e
  · rw [e]; simp
  · rw [e, PyProof.Rows.len_partsBetween]
    have := StrLaws.occ_length_le_len z (Str.ofString ",") 0 z.length (z.length + 1)
    omega
theorem words_join (z : Str) : Txt.join (Str.ofString ",") (words z) = z := by
  rcases words_or z with e | e
  · rw [e]
    rfl
  · rw [e]
    exact PySem.StrLaws.glued_between_self z _ _
end Tx
namespace Tx
open PySem PySem.NumText
theorem fold_lt : ∀ (l : List Nat) (a : Nat), (∀ c ∈ l, 48 ≤ c ∧ c ≤ 57) → l.foldl (fun acc c => acc * 10 + (c - 48)) a < (a + 1) * 10 ^ l.length
  | [], a, _ => by simp
  | c :: l, a, h => by
    have hc := h c (.head _)
    have ih := fold_lt l (a * 10 + (c - 48)) fun x hx => h x (.tail _ hx)
    refine Nat.lt_of_lt_of_le ih ?_
    rw [List.length_cons, Nat.pow_succ, Nat.mul_comm (10 ^ l.length) 10, ← Nat.mul_assoc]
    exact Nat.mul_le_mul_right _ (by omega)
theorem Wr.small {l : List Nat} (w : Wr l) : (valOf l).natAbs < 10 ^ 60 := by
  have h1 : digitsVal (figs l) < 10 ^ (figs l).length := by
    have := fold_lt (figs l) 0 w.all
    rw [Nat.zero_add, Nat.one_mul] at this
    exact this
  have h2 : 10 ^ (figs l).length ≤ 10 ^ 60 := Nat.pow_le_pow_right (by decide) w.most
  have h3 : (valOf l).natAbs = digitsVal (figs l) := by
    unfold valOf
    split <;> simp
  rw [h3]
  exact Nat.lt_of_lt_of_le h1 h2
theorem str_len {x : Int} (h : x.natAbs < 10 ^ 60) : (Str.ofString (toString x)).length ≤ 61 := by
  rw [ofString_length]
  exact int_text_length_le10 (by decide) h
theorem log_lt {x : Int} (h : x.natAbs < 10 ^ 60) : x.natAbs.log2 < 1920 := by
  by_cases z : x.natAbs = 0
  · rw [z]; decide
  · exact (Nat.log2_lt z).mpr (Nat.lt_of_lt_of_le h (by decide +kernel))
theorem texts_sum : ∀ (ms : List Int), (∀ x, x ∈ ms → x.natAbs < 10 ^ 60) → ((ms.map fun x => Str.ofString (toString x)).map (·.length)).sum ≤ 61 * ms.length
  | [], _ => Nat.le_refl _
  | x :: ms, h => by
    have ih := texts_sum ms fun y hy => h y (.tail _ hy)
    have hx := str_len (h x (.head _))
    simp only [List.map_cons, List.sum_cons, List.length_cons]
    omega
theorem comma : (Str.ofString ",").length = 1 := by decide +kernel
theorem join_ok {ms : List Int} (hl : ms.length ≤ 14) (h : ∀ x, x ∈ ms → x.natAbs < 10 ^ 60) : JoinOk (Str.ofString ",") (ms.map fun x => Str.ofString (toString x)) = true := by
  have := texts_sum ms h
  refine PyProof.Rows.joinOk_of ?_
  rw [comma, List.length_map]
  omega
theorem join_len {ms : List Int} (hl : ms.length ≤ 14) (h : ∀ x, x ∈ ms → x.natAbs < 10 ^ 60) : (Txt.join (Str.ofString ",") (ms.map fun x => Str.ofString (toString x))).length ≤ 868 := by
  have h1 := texts_sum ms h
  have h2 := StrLaws.join_length_le (Str.ofString ",") (ms.map fun x => Str.ofString (toString x))
  rw [comma, List.length_map] at h2
  unfold Txt.join
  rw [StrLaws.glued_eq_join]
  omega
theorem figs_len (l : List Nat) : (figs l).length ≤ l.length := by
  cases hn : neg l with
  | true =>
    have e := figs_of_neg hn
    generalize figs l = r at e
    rw [e]
    simp
  | false => rw [figs_of_not hn]; exact Nat.le_refl _
theorem figs_le (z y : Str) (h : y.cps.toList = figs z.cps.toList) : y.length ≤ z.length := by
  rw [len_list, len_list, h]
  exact figs_len _
theorem slice_one (z : Str) : Txt.slice z none (some 1) = Str.ofString "-" ↔ neg z.cps.toList = true := by
  rw [minus, neg_head, decide_eq_true_eq]
  by_cases h : z.length = 0
  · have h1 := Txt.slice_le z none (some 1)
    have h2 : z.cps.toList = [] := List.eq_nil_of_length_eq_zero (by rw [← len_list]; exact h)
    rw [h2]
    constructor
    · intro e
      rw [e] at h1
      rw [h] at h1
      exact absurd h1 (by decide)
    · intro e
      cases e
  · have h1 := sl_to (z := z) (j := 1) (by decide) (by omega)
    rw [len_list] at h
    generalize z.cps.toList = l at h h1
    cases l with
    | nil => exact absurd rfl h
    | cons a r =>
      constructor
      · intro e
        rw [e] at h1
        cases h1
        rfl
      · intro e
        cases e
        exact ext h1
theorem dv_next {l : List Nat} {i c : Nat} (h : l[i]? = some c) : digitsVal (l.take (i + 1)) = digitsVal (l.take i) * 10 + (c - 48) := by
  rw [List.take_add_one, h]
  exact digitsVal_snoc _ _
theorem same_not (z y : Str) (h : y.cps.toList = figs z.cps.toList) : z = y ↔ neg z.cps.toList = false := by
  constructor
  · intro e
    subst e
    cases hn : neg z.cps.toList with
    | false => rfl
    | true =>
      have e := figs_of_neg hn
      rw [← h] at e
      exact absurd (congrArg List.length e) (by simp)
  · intro hn
    exact ext (by rw [h, figs_of_not hn])
end Tx
namespace L2
open PySem PySem.Spec PyProof.Rows
def cStrs : List Expr → Option (List Str)
  | [] => some []
  | .Constant (.str z) _ _ :: r => (cStrs r).map (z :: ·)
  | _ => none
theorem pa_strs {X : Cx} : ∀ {es : List Expr} {zs : List Str}, cStrs es = some zs → PA X es (fun _ H Q => Q (zs.map V.str) H)
  | [], zs, h => by
    simp only [cStrs, Option.some.injEq] at h
    subst h
    exact pa_nil
  | e :: es, zs, h => by
    cases e with
    | Constant c k p =>
      cases c with
      | str z =>
        simp only [cStrs, Option.map_eq_some_iff] at h
        obtain ⟨ms, h1, rfl⟩ := h
        have q := pa_cons (X := X) (e := .Constant (.str z) k p) pe_str (pa_strs h1) rfl
        exact q
      | _ => simp [cStrs] at h
    | _ => simp [cStrs] at h
@[irreducible] def PAj (X : Cx) (es : List Expr) (ta : TA) : Prop := PA X es ta
theorem PAj.of {X : Cx} {es : List Expr} {ta : TA} (h : PA X es ta) : PAj X es ta := by unfold PAj; exact h
theorem PAj.to {X : Cx} {es : List Expr} {ta : TA} (h : PAj X es ta) : PA X es ta := by unfold PAj at h; exact h
theorem paj_cons {X : Cx} {e : Expr} {es : List Expr} {te : TE} {t : TA} (ha : PE X e te) (hr : PAj X es t) (hs : starEach (e :: es) X.env = (false, eval e X.env) :: starEach es X.env) : PAj X (e :: es) (tCons te t) := PAj.of (pa_cons ha hr.to hs)
theorem sej_c {c k p es} {env : Env} : starEach (.Constant c k p :: es) env = (false, eval (.Constant c k p) env) :: starEach es env := rfl
theorem sej_t {xs k p es} {env : Env} : starEach (.Tuple xs k p :: es) env = (false, eval (.Tuple xs k p) env) :: starEach es env := rfl
theorem sej_l {xs p es} {env : Env} : starEach (.List xs p :: es) env = (false, eval (.List xs p) env) :: starEach es env := rfl
theorem sej_d {ks vs p es} {env : Env} : starEach (.Dict ks vs p :: es) env = (false, eval (.Dict ks vs p) env) :: starEach es env := rfl
theorem ps_setStrs {X : Cx} {st : Stmt} {i : Nat} {x : Str} {es : List Expr} {zs : List Str} {p1 p2 pos : Pos} (e : st = .Assign [.Name x p1] (.List es p2) pos) (hc : cStrs es = some zs) (hN : X.N.Nodup) (hi : X.N[i]? = some x) (hx : Loc X.env.scope x)
    (hf : X.fn x = true ∨ X.env.scope.names.lookup x = some .local) : PS X st (tAsg (tLst fun _ H Q => Q (zs.map V.str) H) (gName i)) := by
  subst e
  exact ps_set hN hi hx (pe_lst (pa_strs hc)) rfl hf
theorem pe_strs {X : Cx} {es : List Expr} {ta : TA} {p : Pos} (h : PAj X es ta) : PE X (.List es p) (tLst ta) := pe_lst h.to
theorem one_tup {X : Cx} {z : Str} {q p : Pos} : PE X (.Tuple [.Constant (.str z) 0 q] 0 p) (tTup (tCons (tC (.str z)) tNil)) := pe_tup (pa_cons pe_str pa_nil sej_c)
theorem one_lst {X : Cx} {z : Str} {q p : Pos} : PE X (.List [.Constant (.str z) 0 q] p) (tLst (tCons (tC (.str z)) tNil)) := pe_lst (pa_cons pe_str pa_nil sej_c)
theorem atI_some {α : Type} {xs : List α} {i : Int} (h0 : 0 ≤ i) (h1 : i < (xs.length : Int)) : ∃ v, atI xs i = some v ∧ v ∈ xs := by
  have hk : i.toNat < xs.length := by omega
  have g := atI_nat (j := i.toNat) (List.getElem?_eq_getElem hk)
  rw [show ((i.toNat : Nat) : Int) = i by omega] at g
  exact ⟨_, g, List.getElem_mem hk⟩
end L2
namespace K81
open PySem L2
set_option maxHeartbeats 1000000
section
def top (i : Nat) : Stmt := PySem.Challenge.pw_deeprests_k81_polynomials_read.main.body.getD i (.Pass ⟨0, 0, 0, 0⟩)
abbrev s_is_made_of : Stmt := top 10
theorem S_is_made_of : FnScope ["text", "signs"] ["text", "signs"] (defScope s_is_made_of) := ⟨rfl, rfl, rfl, by decide +kernel, rfl, by decide +kernel, by decide +kernel⟩
abbrev s_is_written_number : Stmt := top 11
theorem S_is_written_number : FnScope ["text", "below", "figures"] ["text"] (defScope s_is_written_number) := ⟨rfl, rfl, rfl, by decide +kernel, rfl, by decide +kernel, by decide +kernel⟩
abbrev s_read_number : Stmt := top 12
theorem S_read_number : FnScope ["text"] ["text"] (defScope s_read_number) := ⟨rfl, rfl, rfl, by decide +kernel, rfl, by decide +kernel, by decide +kernel⟩
abbrev s_read_poly : Stmt := top 13
theorem S_read_poly : FnScope ["text", "words"] ["text"] (defScope s_read_poly) := ⟨rfl, rfl, rfl, by decide +kernel, rfl, by decide +kernel, by decide +kernel⟩
abbrev s_show_poly : Stmt := top 14
theorem S_show_poly : FnScope ["f"] ["f"] (defScope s_show_poly) := ⟨rfl, rfl, rfl, by decide +kernel, rfl, by decide +kernel, by decide +kernel⟩
abbrev s__law_whole : Stmt := top 16
theorem S__law_whole : FnScope ["thing"] ["thing"] (defScope s__law_whole) := ⟨rfl, rfl, rfl, by decide +kernel, rfl, by decide +kernel, by decide +kernel⟩
abbrev s__law_sign : Stmt := top 17
theorem S__law_sign : FnScope ["cell", "signs"] ["cell"] (defScope s__law_sign) := ⟨rfl, rfl, rfl, by decide +kernel, rfl, by decide +kernel, by decide +kernel⟩
abbrev s__law_number : Stmt := top 18
theorem S__law_number : FnScope ["word", "figures", "number", "sign"] ["word"] (defScope s__law_number) := ⟨rfl, rfl, rfl, by decide +kernel, rfl, by decide +kernel, by decide +kernel⟩
abbrev s__law_great : Stmt := top 19
theorem S__law_great : FnScope ["cell"] ["cell"] (defScope s__law_great) := ⟨rfl, rfl, rfl, by decide +kernel, rfl, by decide +kernel, by decide +kernel⟩
abbrev s__law_odd : Stmt := top 20
theorem S__law_odd : FnScope ["cell", "some"] ["cell"] (defScope s__law_odd) := ⟨rfl, rfl, rfl, by decide +kernel, rfl, by decide +kernel, by decide +kernel⟩
abbrev s__law_changed : Stmt := top 21
theorem S__law_changed : FnScope ["word", "cell", "way", "place"] ["word", "cell"] (defScope s__law_changed) := ⟨rfl, rfl, rfl, by decide +kernel, rfl, by decide +kernel, by decide +kernel⟩
abbrev s__law_refused : Stmt := top 22
theorem S__law_refused : FnScope ["thing", "poly", "some", "plain", "e"] ["thing", "poly"] (defScope s__law_refused) := ⟨rfl, rfl, rfl, by decide +kernel, rfl, by decide +kernel, by decide +kernel⟩
abbrev s__law_one : Stmt := top 23
theorem S__law_one : FnScope ["word", "due", "found"] ["word"] (defScope s__law_one) := ⟨rfl, rfl, rfl, by decide +kernel, rfl, by decide +kernel, by decide +kernel⟩
abbrev s__law_poly : Stmt := top 24
theorem S__law_poly : FnScope ["text", "due", "found"] ["text"] (defScope s__law_poly) := ⟨rfl, rfl, rfl, by decide +kernel, rfl, by decide +kernel, by decide +kernel⟩
abbrev s_law : Stmt := top 25
theorem S_law : FnScope ["script", "cells", "k", "cell", "many", "numbers"] ["script"] (defScope s_law) := ⟨rfl, rfl, rfl, by decide +kernel, rfl, by decide +kernel, by decide +kernel⟩
structure Bi (mg : Str → Option Value) (K : PySem.W.Frag) : Prop where
  b_ValueError : mg "ValueError" = none
  b_all : mg "all" = none
  b_bool : mg "bool" = none
  b_int : mg "int" = none
  b_isinstance : mg "isinstance" = none
  b_len : mg "len" = none
  b_list : mg "list" = none
  b_range : mg "range" = none
  b_str : mg "str" = none
  g_FIGURES : ∃ t, mg "FIGURES" = some (.str "0123456789" t)
  g_MOST_FIGURES : ∃ t, mg "MOST_FIGURES" = some (.int 60 t)
  g_MOST_NUMBERS : ∃ t, mg "MOST_NUMBERS" = some (.int 13 t)
  c_NoName : mg "NoName" = some (.ref (clK K "NoName"))
  c_NoRow : mg "NoRow" = some (.ref (clK K "NoRow"))
  c_NoText : mg "NoText" = some (.ref (clK K "NoText"))
  c_RestError : mg "RestError" = some (.ref (clK K "RestError"))
  c_TooDeep : mg "TooDeep" = some (.ref (clK K "TooDeep"))
  x_NoText : ExcK K (clK K "NoText")
  m_NoText_RestError : PySem.W.exmOne K (.ref (clK K "NoText")) (.ref (clK K "RestError")) = some true
  f_NoText : Xc.ExcC K (clK K "NoText")
  i_NoText_NoName : PySem.W.kitOne K (.ref (clK K "NoText")) (.ref (clK K "NoName")) = some false
  i_NoText_NoRow : PySem.W.kitOne K (.ref (clK K "NoText")) (.ref (clK K "NoRow")) = some false
  i_NoText_NoText : PySem.W.kitOne K (.ref (clK K "NoText")) (.ref (clK K "NoText")) = some true
  i_NoText_RestError : PySem.W.kitOne K (.ref (clK K "NoText")) (.ref (clK K "RestError")) = some true
  i_NoText_TooDeep : PySem.W.kitOne K (.ref (clK K "NoText")) (.ref (clK K "TooDeep")) = some false
  i_NoText_ValueError : PySem.W.kitOne K (.ref (clK K "NoText")) (.type "ValueError") = some true
variable {P : Program} {w : World} {K : PySem.W.Frag} {mg : Str → Option Value} {base : Heap} {f : Addr} {fd : FuncData}
theorem log_small {p : Int} (h : 2 ≤ p ∧ p < 1000) : CDivW 0 p := ⟨by omega, by
  have h1 : p.natAbs < 1000 := by omega
  have h2 : p.natAbs.log2 < 10 := (Nat.log2_lt (by omega)).mpr (Nat.lt_trans h1 (by decide))
  omega⟩
theorem atI_ints {ns : List Int} {i : Int} (h0 : 0 ≤ i) (h1 : i < (ns.length : Int)) : atI (ns.map V.int) i = some (.int (ns.getD i.toNat 0)) := by
  have hk : i.toNat < ns.length := by omega
  have ek : i = ((i.toNat : Nat) : Int) := by omega
  have g : atI (ns.map V.int) ((i.toNat : Nat) : Int) = some (.int (ns.getD i.toNat 0)) := atI_nat (by rw [List.getElem?_map, List.getElem?_eq_getElem hk, List.getD_eq_getElem?_getD, List.getElem?_eq_getElem hk]; rfl)
  rw [← ek] at g
  exact g
theorem getD_in {ns : List Int} {i : Int} (h0 : 0 ≤ i) (h1 : i < (ns.length : Int)) : ns.getD i.toNat 0 ∈ ns := by
  rw [List.getD_eq_getElem?_getD, List.getElem?_eq_getElem (by omega)]
  exact List.getElem_mem _
theorem mod_in (x : Int) {m : Int} (h : 0 < m) : 0 ≤ x % m ∧ x % m < m := ⟨Int.emod_nonneg x (by omega), Int.emod_lt_of_pos x h⟩
def Sh (n : Int) : Prop := Builtin.Int.intBits n ≤ 2 ^ 20 + 64
theorem sh_div {n m : Int} (h : Sh n) (hm : 0 < m) : Sh (n / m) := by
  unfold Sh at *
  have : n / m = n.fdiv m := (Int.fdiv_eq_ediv_of_nonneg n (by omega)).symm
  rw [this]
  exact PyProof.Rows.bits_fdiv h
theorem pow_bits {p : Int} (hp : 2 ≤ p ∧ p < 1000) (n : Nat) : (p ^ n).natAbs < 2 ^ (10 * n + 1) := by
  have h1 : p ^ n ≤ 1024 ^ n := int_pow_le (by omega) (by omega) _
  have h2 : (1024 : Int) ^ n = ((2 ^ (10 * n) : Nat) : Int) := by
    rw [Nat.pow_mul]
    simp
  have h3 := Dr.pow_pos hp.1 n
  rw [Nat.pow_succ]
  omega
theorem add_bits {p r : Int} (hp : 2 ≤ p ∧ p < 1000) (n : Nat) (h0 : 0 ≤ r) (h1 : r < p ^ n) : Builtin.Int.intBits (r + p ^ n) ≤ 10 * n + 2 := PyProof.Rows.intBits_le (by
  have := pow_bits hp n
  rw [show 10 * n + 2 = (10 * n + 1) + 1 from rfl, Nat.pow_succ]
  omega)
theorem eqv_ball (r e : Int) : (if false = true then !PyData.eqv (.tuple [.int r, .int e]) (.tuple [.int r, .int e]) else PyData.eqv (.tuple [.int r, .int e]) (.tuple [.int r, .int e])) = true := by
  simp [PyData.eqv, PyData.eqvAll]
theorem atI_last (x : Int) (ms : List Int) : ∃ y, y ∈ x :: ms ∧ atI ((x :: ms).map V.int) (-1) = some (.int y) := by
  have h : ms.length < (x :: ms).length := by simp
  refine ⟨(x :: ms)[ms.length], List.getElem_mem h, ?_⟩
  unfold atI ixN
  have e1 : ¬ (0 : Int) ≤ -1 := by decide
  have e2 : -(((x :: ms).map V.int).length : Int) ≤ -1 := by
    simp only [List.length_map, List.length_cons]
    omega
  have e3 : (-1 + (((x :: ms).map V.int).length : Int)).toNat = ms.length := by
    simp only [List.length_map, List.length_cons]
    omega
  rw [if_neg e1, if_pos e2, e3]
  show ((x :: ms).map V.int)[ms.length]? = _
  rw [List.getElem?_map, List.getElem?_eq_getElem h]
  rfl
theorem us0 {us : List Value} (h : us.length = 0) : us = [] := List.eq_nil_of_length_eq_zero h
theorem us1 {us : List Value} (h : us.length = 1) : ∃ a0, us = [a0] := List.length_eq_one_iff.mp h
theorem us2 : ∀ {us : List Value}, us.length = 2 → ∃ a0 a1, us = [a0, a1]
  | [], h => (by cases h)
  | a0 :: r, h => by
    obtain ⟨a1, rfl⟩ := us1 (us := r) (by simpa using h)
    exact ⟨a0, a1, rfl⟩
theorem us3 : ∀ {us : List Value}, us.length = 3 → ∃ a0 a1 a2, us = [a0, a1, a2]
  | [], h => (by cases h)
  | a0 :: r, h => by
    obtain ⟨a1, a2, rfl⟩ := us2 (us := r) (by simpa using h)
    exact ⟨a0, a1, a2, rfl⟩
theorem us4 : ∀ {us : List Value}, us.length = 4 → ∃ a0 a1 a2 a3, us = [a0, a1, a2, a3]
  | [], h => (by cases h)
  | a0 :: r, h => by
    obtain ⟨a1, a2, a3, rfl⟩ := us3 (us := r) (by simpa using h)
    exact ⟨a0, a1, a2, a3, rfl⟩
theorem us5 : ∀ {us : List Value}, us.length = 5 → ∃ a0 a1 a2 a3 a4, us = [a0, a1, a2, a3, a4]
  | [], h => (by cases h)
  | a0 :: r, h => by
    obtain ⟨a1, a2, a3, a4, rfl⟩ := us4 (us := r) (by simpa using h)
    exact ⟨a0, a1, a2, a3, a4, rfl⟩
theorem us6 : ∀ {us : List Value}, us.length = 6 → ∃ a0 a1 a2 a3 a4 a5, us = [a0, a1, a2, a3, a4, a5]
  | [], h => (by cases h)
  | a0 :: r, h => by
    obtain ⟨a1, a2, a3, a4, a5, rfl⟩ := us5 (us := r) (by simpa using h)
    exact ⟨a0, a1, a2, a3, a4, a5, rfl⟩
theorem us7 : ∀ {us : List Value}, us.length = 7 → ∃ a0 a1 a2 a3 a4 a5 a6, us = [a0, a1, a2, a3, a4, a5, a6]
  | [], h => (by cases h)
  | a0 :: r, h => by
    obtain ⟨a1, a2, a3, a4, a5, a6, rfl⟩ := us6 (us := r) (by simpa using h)
    exact ⟨a0, a1, a2, a3, a4, a5, a6, rfl⟩
def sp_is_made_of (_ : PySem.W.Frag) : Sp := fun vs H Q _ => ∃ z : Str, vs = [.str z, .str "0123456789"] ∧ z.length ≤ 2000 ∧ ∀ (b : Bool) (H' : Hp), Same H H' → (b = true ↔ ∀ c, c ∈ z.cps.toList → 48 ≤ c ∧ c ≤ 57) → Q (.bl b) H'
theorem take_next {α : Type} {l : List α} {i : Nat} {c : α} (h : l[i]? = some c) : l.take (i + 1) = l.take i ++ [c] := by
  rw [List.take_add_one, h]
  rfl
theorem strs_at {l : List Str} {i : Nat} {x : V} (h : (l.map V.str)[i]? = some x) : ∃ w, l[i]? = some w ∧ x = .str w := by
  rw [List.getElem?_map] at h
  cases e : l[i]? with
  | none => rw [e] at h; cases h
  | some w =>
    rw [e] at h
    exact ⟨w, rfl, (Option.some.inj h).symm⟩
theorem none_of {H H' : Hp} {l : Addr} (g : Same H H') (n : H' l = none) : H l = none := by
  cases e : H l with
  | none => rfl
  | some o =>
    have := g _ _ e
    rw [n] at this
    cases this
theorem newS {H : Hp} {l : Addr} {o : _} (n : H l = none) : Same H (upd H l o) := (newH rfl n).1
theorem figure_in {c : Nat} : decide (c ∈ (Str.ofString "0123456789").cps.toList) = decide (48 ≤ c ∧ c ≤ 57) := by
  rw [show (Str.ofString "0123456789").cps.toList = [48, 49, 50, 51, 52, 53, 54, 55, 56, 57] by decide +kernel]
  rw [decide_eq_decide]
  simp only [List.mem_cons, List.not_mem_nil, or_false]
  omega
local macro_rules | `(tactic| walk_at "dr1") => `(tactic| simp only [tSeq, tNext, tRet, tRetN, tDrop, tIfS, tIf, tTest, tB, tAnd, tOr, tNot, tAndV, tOrV, tNotV, tAsg, gName, gTup, gLst, gCons, gNil, tPar, tAug, tVar, tC, tOp, tUn, rI, rI0, rU, rEq, rNe, rAdd, rSub, ipI, tCons, tNil, tTup, tLst, tCall, tCB, tSl, tNoPart, tPart, gSub, tAugS, rGetL, iEnum, tSlK, tListRng, rExtend, rClear, tDNewT, tDGet, tDGet2, sDPut, iDict, rSlL, rSlT, rIxL, rIxT, rSetL, rIn, tBM, tBM0, rAppend, rCat, rRep, tNever, tRaise, tTry, tTryAs, Ends.gone, tCallX, cx_K, cc_K, w_tyl, Int.reduceLT, Int.reduceLE, Nat.reduceLT, Nat.reduceLeDiff, tChain, w_for, w_comp, capV, Option.getD_some, iRng1, iRng2, iRng3, iList, iTup, iRev, tListRev, L2.start, sc_ii, sc_bb, sc_in, sc_ni, sc_ss, sc_nn, sc_bn, sc_is, isv_int_int, isv_int_bool, isv_int_str, isv_int_list, isv_int_tuple, isv_int_dict, isv_bool_int, isv_bool_bool, isv_bool_str, isv_bool_list, isv_bool_tuple, isv_bool_dict, isv_NoneType_int, isv_NoneType_bool, isv_NoneType_str, isv_NoneType_list, isv_NoneType_tuple, isv_NoneType_dict, isv_str_int, isv_str_bool, isv_str_str, isv_str_list, isv_str_tuple, isv_str_dict, iso_list_int, iso_list_bool, iso_list_str, iso_list_list, iso_list_tuple, iso_list_dict, iso_tuple_int, iso_tuple_bool, iso_tuple_str, iso_tuple_list, iso_tuple_tuple, iso_tuple_dict, iso_dict_int, iso_dict_bool, iso_dict_str, iso_dict_list, iso_dict_tuple, iso_dict_dict, isCls, clsV, List.getElem?_cons_zero, List.getElem?_cons_succ, List.set_cons_zero, List.set_cons_succ, List.map_cons, List.map_nil, List.cons_append, List.nil_append, List.append_nil, List.replicate_succ, List.replicate_zero, List.length_cons, List.length_nil, Option.some.injEq, exists_eq, exists_eq', exists_eq_left, exists_eq_left', exists_and_left, exists_and_right, List.cons.injEq, V.int.injEq, V.bl.injEq, V.ref.injEq, V.str.injEq, V.ty.injEq, reduceCtorEq, and_true, true_and, and_assoc, false_and, and_false, or_false, false_or, exists_false, decide_eq_true_eq, Bool.not_eq_true', decide_eq_false_iff_not, Bool.not_eq_false', Bool.not_eq_true, Bool.false_eq_true, Bool.true_eq_false, ite_true, ite_false, if_true, if_false, Bool.not_true, Bool.not_false, Bool.true_eq, Bool.or_true, Bool.or_false, Bool.true_or, Bool.false_or, Bool.and_true, Bool.and_false, beq_self_eq_true, decide_true, decide_false, eq_self_iff_true, not_true_eq_false, not_false_eq_true])
theorem ok_is_made_of (B : Bi mg K) (F : Fun K "is_made_of" "is_made_of" s_is_made_of f fd) : FnOk P w K mg base CX0 1 f fd ["text", "signs"] (sp_is_made_of K) := by
  refine F.ok S_is_made_of (fun vs H Q E h => ?_) (fun cdv A outer s H vs Q E hr h => ?_)
  · obtain ⟨z, rfl, _⟩ := h
    rfl
  obtain ⟨z, rfl, hz, q⟩ := h
  have S := S_is_made_of
  refine ⟨_, ((pss_one (ps_ret (pe_callB (call_allB rfl) rfl B.b_all bt_all (pa_cons (pe_comp [1] ["signs"] rfl rfl ⟨rfl, trivial⟩ ⟨rfl, rfl, rfl, rfl, trivial⟩ rfl rfl (by decide) (by decide) rfl rfl (by decide) (pi_str (pv 0)) (fun _ _ _ _ => pts_nil) (fun _ _ _ _ => (pe_cmpR op_in_str (pv 0) (pv 1) rfl))) pa_nil))))), ?_⟩
  try walk_at "dr1"; (try simp only [iStr]); try walk_at "dr1"
  obtain ⟨Pv, hPv⟩ : ∃ Pv : Nat → List V → Hp → Prop, ∀ i ys H', Pv i ys H' ↔ (H' = H ∧ ys = (((z.cps.toList.take i).map fun c => decide (48 ≤ c ∧ c ≤ 57)).map V.bl)) := ⟨_, fun _ _ _ => Iff.rfl⟩
  have hz' : z.cps.toList.length ≤ 2000 := by simpa [Str.length] using hz
  refine compS z Pv (Nat.le_trans hz' (by decide)) ((hPv _ _ _).mpr ⟨rfl, by simp⟩) (fun i c ys H2 hc p => ?_) (fun ys H2 p l n_l => ?_)
  · obtain ⟨rfl, rfl⟩ := (hPv _ _ _).mp p
    try walk_at "dr1"
    refine (hPv _ _ _).mpr ⟨rfl, ?_⟩
    rw [StrLaws.found_one, take_next hc, List.map_append, List.map_append, figure_in]
    rfl
  · obtain ⟨rfl, rfl⟩ := (hPv _ _ _).mp p
    refine ⟨l, rfl, _, SqL.of upd_same, ?_⟩
    refine q _ _ (newS n_l) ?_
    rw [List.take_length, List.all_map, List.all_eq_true]
    simp
def sp_is_written_number (_ : PySem.W.Frag) : Sp := fun vs H Q _ => ∃ z : Str, vs = [.str z] ∧ z.length ≤ 2000 ∧ ∀ (b : Bool) (H' : Hp), Same H H' → (b = true ↔ Tx.Wr z.cps.toList) → Q (.bl b) H'
local macro_rules | `(tactic| walk_at "dr2") => `(tactic| simp only [tNext, tRet, tRetN, tDrop, tIfS, tIf, tTest, tB, tAnd, tOr, tNot, tAndV, tOrV, tNotV, tAsg, gName, gTup, gLst, gCons, gNil, tPar, tAug, tVar, tC, tOp, tUn, rI, rI0, rU, rEq, rNe, rAdd, rSub, ipI, tCons, tNil, tTup, tLst, tCall, tCB, tSl, tNoPart, tPart, gSub, tAugS, rGetL, iEnum, tSlK, tListRng, rExtend, rClear, tDNewT, tDGet, tDGet2, sDPut, iDict, rSlL, rSlT, rIxL, rIxT, rSetL, rIn, tBM, tBM0, rAppend, rCat, rRep, tNever, tRaise, tTry, tTryAs, Ends.gone, tCallX, cx_K, cc_K, w_tyl, Int.reduceLT, Int.reduceLE, Nat.reduceLT, Nat.reduceLeDiff, tChain, w_for, w_comp, capV, Option.getD_some, iRng1, iRng2, iRng3, iList, iTup, iRev, tListRev, L2.start, sc_ii, sc_bb, sc_in, sc_ni, sc_ss, sc_nn, sc_bn, sc_is, isv_int_int, isv_int_bool, isv_int_str, isv_int_list, isv_int_tuple, isv_int_dict, isv_bool_int, isv_bool_bool, isv_bool_str, isv_bool_list, isv_bool_tuple, isv_bool_dict, isv_NoneType_int, isv_NoneType_bool, isv_NoneType_str, isv_NoneType_list, isv_NoneType_tuple, isv_NoneType_dict, isv_str_int, isv_str_bool, isv_str_str, isv_str_list, isv_str_tuple, isv_str_dict, iso_list_int, iso_list_bool, iso_list_str, iso_list_list, iso_list_tuple, iso_list_dict, iso_tuple_int, iso_tuple_bool, iso_tuple_str, iso_tuple_list, iso_tuple_tuple, iso_tuple_dict, iso_dict_int, iso_dict_bool, iso_dict_str, iso_dict_list, iso_dict_tuple, iso_dict_dict, isCls, clsV, List.getElem?_cons_zero, List.getElem?_cons_succ, List.set_cons_zero, List.set_cons_succ, List.map_cons, List.map_nil, List.cons_append, List.nil_append, List.append_nil, List.replicate_succ, List.replicate_zero, List.length_cons, List.length_nil, Option.some.injEq, exists_eq, exists_eq', exists_eq_left, exists_eq_left', exists_and_left, exists_and_right, List.cons.injEq, V.int.injEq, V.bl.injEq, V.ref.injEq, V.str.injEq, V.ty.injEq, reduceCtorEq, and_true, true_and, and_assoc, false_and, and_false, or_false, false_or, exists_false, decide_eq_true_eq, Bool.not_eq_true', decide_eq_false_iff_not, Bool.not_eq_false', Bool.not_eq_true, Bool.false_eq_true, Bool.true_eq_false, ite_true, ite_false, if_true, if_false, Bool.not_true, Bool.not_false, Bool.true_eq, Bool.or_true, Bool.or_false, Bool.true_or, Bool.false_or, Bool.and_true, Bool.and_false, beq_self_eq_true, decide_true, decide_false, eq_self_iff_true, not_true_eq_false, not_false_eq_true])
theorem ok_is_written_number (B : Bi mg K) (d_is_made_of : Def P w K mg base "is_made_of" 1 ["text", "signs"] (sp_is_made_of K)) (F : Fun K "is_written_number" "is_written_number" s_is_written_number f fd) : FnOk P w K mg base CX0 2 f fd ["text"] (sp_is_written_number K) := by
  refine F.ok S_is_written_number (fun vs H Q E h => ?_) (fun cdv A outer s H vs Q E hr h => ?_)
  · obtain ⟨z, rfl, _⟩ := h
    rfl
  obtain ⟨z, rfl, hz, q⟩ := h
  have S := S_is_written_number
  obtain ⟨t1, g_FIGURES⟩ := B.g_FIGURES
  obtain ⟨t2, g_MOST_FIGURES⟩ := B.g_MOST_FIGURES
  refine ⟨_, ((pss_cons (ps_set (i := 1) S.nd rfl (Or.inl rfl) (pe_bm PySem.F.plainAttrs_str PySem.F.slot_str_startswith PySem.F.type_str_startswith mt_starts (pv 0) (pa_cons pe_str pa_nil)))
    (pss_cons (ps_join (ps_set (i := 2) S.nd rfl (Or.inl rfl) (pe_ifExp (pt_val (pv 1)) (pe_slice sl_str (pv 0) (po_some pe_int) po_none) (pv 0))))
    (pss_cons (ps_if (PW.pt (pw_or (pt_cmpR op_lt (pe_callB call_len_str rfl B.b_len PySem.boot_len (pa_cons (pv 2) pa_nil)) pe_int (nomark _)) (pw_or (pt_cmpR op_gt (pe_callB call_len_str rfl B.b_len PySem.boot_len (pa_cons (pv 2) pa_nil)) (pe_glob (v := .int 60) rfl g_MOST_FIGURES ⟨_, rfl⟩) (nomark _)) (pw_or1 (pt_not (pt_val (pe_def d_is_made_of hr rfl (pa_cons (pv 2) (pa_cons (pe_glob (v := .str "0123456789") rfl g_FIGURES ⟨_, rfl⟩) pa_nil))))))))) (pss_one (ps_ret pe_bl)) pss_nil)
    (pss_cons (ps_if (pt_cmpR op_eq (pv 2) pe_str (nomark _)) (pss_one (ps_ret (pe_not (pv 1)))) pss_nil)
    (pss_one (ps_ret (pe_not (pe_bm PySem.F.plainAttrs_str PySem.F.slot_str_startswith PySem.F.type_str_startswith mt_starts (pv 2) (pa_cons pe_str pa_nil)))))))))), ?_⟩
  (try dsimp only); (first | refine seqI ?_ | skip); try walk_at "dr2"; (try simp only [sp_is_made_of]); try walk_at "dr2"
  refine ⟨rfl, z, _, rfl, rfl, ?_⟩
  rw [Tx.starts_minus]
  have hz' := Tx.len_list z
  obtain ⟨R, hR⟩ : ∃ R : St → Hp → Prop, ∀ σ' H2, R σ' H2 ↔ (∃ y : Str, y.cps.toList = Tx.figs z.cps.toList ∧ H2 = H ∧ σ' = [some (.str z), some (.bl (Tx.neg z.cps.toList)), some (.str y)]) := ⟨_, fun _ _ => Iff.rfl⟩
  dsimp only
  refine seqI ?_
  refine joinB R ?_ ?_
  · try walk_at "dr1"; (try simp only [sp_is_made_of]); try walk_at "dr1"
    cases hn : Tx.neg z.cps.toList with
    | true =>
      rw [if_pos rfl]
      have e := Tx.figs_of_neg hn
      have l1 : 1 ≤ z.length := by rw [hz', e]; simp
      refine ⟨z, rfl, Nat.le_trans hz (by decide), (hR _ _).mpr ⟨_, ?_, rfl, by rw [hn]⟩⟩
      rw [Tx.sl_from (by decide) (by omega), e]
      rfl
    | false =>
      rw [if_neg (by decide)]
      exact (hR _ _).mpr ⟨z, (Tx.figs_of_not hn).symm, rfl, by rw [hn]⟩
  intro σ' H2 w0
  obtain ⟨y, hy, rfl, rfl⟩ := (hR _ _).mp w0
  clear hR w0
  have hyl : y.length ≤ 2000 := by
    rw [Tx.len_list, hy]
    rw [hz'] at hz
    cases hn : Tx.neg z.cps.toList with
    | true =>
      rw [Tx.figs_of_neg hn] at hz
      simp only [List.length_cons] at hz
      omega
    | false => rw [Tx.figs_of_not hn]; exact hz
  have hyn := Tx.len_list y
  rw [hy] at hyn
  (try dsimp only); (first | refine seqI ?_ | skip); try walk_at "dr2"; (try simp only [sp_is_made_of]); try walk_at "dr2"
  refine ⟨Nat.le_trans hyl (by decide), ite2 (fun c1 => q false _ (Same.refl _) ⟨nofun, fun w => absurd w.one (by omega)⟩) (fun c1 => ⟨Nat.le_trans hyl (by decide), ite2 (fun c2 => q false _ (Same.refl _) ⟨nofun, fun w => absurd w.most (by omega)⟩) (fun c2 => ⟨hyl, fun b H' g hb => ?_⟩)⟩)⟩
  rw [hy] at hb
  cases b with
  | false => exact q false _ g ⟨nofun, fun w => absurd (hb.mpr w.all) (by decide)⟩
  | true =>
    rw [if_neg (by decide)]
    have hall := hb.mp rfl
    try walk_at "dr1"; (try simp only [sp_is_made_of, rStarts, w_tys]); try walk_at "dr1"
    refine ite2 (fun c3 => q _ _ g ?_) (fun c3 => q _ _ g ?_)
    · have e : Tx.figs z.cps.toList = [48] := by rw [← hy, c3, Tx.nought]
      constructor
      · intro hn
        refine ⟨by omega, by omega, hall, fun r hr => ?_⟩
        rw [e] at hr
        cases hr
        exact ⟨rfl, by simpa using hn⟩
      · intro w
        rw [(w.head [] e).2]
        rfl
    · rw [Tx.nought, Tx.starts_one, hy]
      constructor
      · intro hn
        refine ⟨by omega, by omega, hall, fun r hr => ?_⟩
        rw [hr] at hn
        simp at hn
      · intro w
        have : (Tx.figs z.cps.toList).head? ≠ some 48 := fun hh => by
          cases hf : Tx.figs z.cps.toList with
          | nil => rw [hf] at hh; cases hh
          | cons a r =>
            rw [hf] at hh
            cases hh
            have := (w.head r hf).1
            subst this
            exact c3 (Tx.ext (by rw [hy, hf, Tx.nought]))
        simpa using this
def sp_read_number (K : PySem.W.Frag) : Sp := fun vs H Q E => ∃ (v : V) (t : String), vs = [v] ∧ TN H v t ∧ (∀ z, v = .str z → z.length ≤ 2000) ∧ ∀ H', Same H H' → ((∀ z, v = .str z → Tx.Wr z.cps.toList → Q (.int (Tx.valOf z.cps.toList)) H') ∧ ((∀ z, v = .str z → ¬ Tx.Wr z.cps.toList) → E (.ref (clK K "NoText")) none H'))
theorem ok_read_number (B : Bi mg K) (d_is_written_number : Def P w K mg base "is_written_number" 2 ["text"] (sp_is_written_number K)) (F : Fun K "read_number" "read_number" s_read_number f fd) : FnOk P w K mg base (CXE P w) 3 f fd ["text"] (sp_read_number K) := by
  refine F.okE S_read_number (fun vs H Q E h => ?_) (fun cdv A outer s H vs Q E hr h => ?_)
  · obtain ⟨v, t, rfl, _⟩ := h
    rfl
  obtain ⟨v, t, rfl, ht, hz, q⟩ := h
  have S := S_read_number
  refine ⟨_, ((pss_cons (ps_if (PW.pt (pw_or (pt_not (pt_val (pe_callB call_isiA rfl B.b_isinstance L2.bt_isinstance (pa_cons (pv 0) (pa_cons (pe_bltn (v := .ty "str") rfl B.b_str L2.bt_str rfl) pa_nil))))) (pw_or1 (pt_not (pt_val (pe_def d_is_written_number hr rfl (pa_cons (pv 0) pa_nil))))))) (pss_one (ps_raise thrE rfl rfl B.c_NoText B.x_NoText (pa_cons pe_str pa_nil))) pss_nil)
    (pss_one (ps_ret (pe_callTy call_intS rfl B.b_int L2.bt_int (pa_cons (pv 0) pa_nil)))))), ?_⟩
  try walk_at "dr1"; (try simp only [sp_is_written_number, rIntS]); try walk_at "dr1"
  refine ⟨t, ht, ?_⟩
  have no : (∀ z, v ≠ .str z) → E (.ref (clK K "NoText")) none H := fun n => (q H (Same.refl _)).2 fun z e => absurd e (n z)
  cases ht with
  | non => exact ⟨false, rfl, by rw [if_pos rfl]; exact ⟨by decide, no nofun⟩⟩
  | bl b => exact ⟨false, rfl, by rw [if_pos rfl]; exact ⟨by decide, no nofun⟩⟩
  | int i => exact ⟨false, rfl, by rw [if_pos rfl]; exact ⟨by decide, no nofun⟩⟩
  | lst e => exact ⟨false, rfl, by rw [if_pos rfl]; exact ⟨by decide, no nofun⟩⟩
  | tup e => exact ⟨false, rfl, by rw [if_pos rfl]; exact ⟨by decide, no nofun⟩⟩
  | dK e => exact ⟨false, rfl, by rw [if_pos rfl]; exact ⟨by decide, no nofun⟩⟩
  | str z =>
    refine ⟨true, rfl, ?_⟩
    rw [if_neg (by decide)]
    refine ⟨z, rfl, hz z rfl, fun b H' g hb => ?_⟩
    cases b with
    | false =>
      rw [if_pos rfl]
      exact ⟨by decide, (q H' g).2 fun y e w => absurd (hb.mpr (by cases e; exact w)) (by decide)⟩
    | true =>
      rw [if_neg (by decide)]
      have w := hb.mp rfl
      have wl := w.len
      exact ⟨z, rfl, _, w.reads, by omega, (q H' g).1 z rfl w⟩
def sp_read_poly (K : PySem.W.Frag) : Sp := fun vs H Q E => ∃ (v : V) (t : String), vs = [v] ∧ TN H v t ∧ (∀ z, v = .str z → z.length ≤ 2000) ∧
  (∀ z ms, v = .str z → Tx.poly z = some ms → ∀ c H', Same H H' → H c = none → H' c = some (.lst (ms.map V.int)) → Q (.ref c) H') ∧
  ((∀ z ms, v = .str z → Tx.poly z ≠ some ms) → ∀ H', Same H H' → E (.ref (clK K "NoText")) none H')
theorem ok_read_poly (B : Bi mg K) (d_read_number : DefE P w K mg base "read_number" 3 ["text"] (sp_read_number K)) (F : Fun K "read_poly" "read_poly" s_read_poly f fd) : FnOk P w K mg base (CXE P w) 4 f fd ["text"] (sp_read_poly K) := by
  refine F.okE S_read_poly (fun vs H Q E h => ?_) (fun cdv A outer s H vs Q E hr h => ?_)
  · obtain ⟨v, t, rfl, _⟩ := h
    rfl
  obtain ⟨v, t, rfl, ht, hz, q, qe⟩ := h
  have S := S_read_poly
  obtain ⟨t1, g_MOST_NUMBERS⟩ := B.g_MOST_NUMBERS
  refine ⟨_, ((pss_cons (ps_if (pt_not (pt_val (pe_callB call_isiA rfl B.b_isinstance L2.bt_isinstance (pa_cons (pv 0) (pa_cons (pe_bltn (v := .ty "str") rfl B.b_str L2.bt_str rfl) pa_nil))))) (pss_one (ps_raise thrE rfl rfl B.c_NoText B.x_NoText (pa_cons pe_str pa_nil))) pss_nil)
    (pss_cons (ps_set (i := 1) S.nd rfl (Or.inl rfl) (pe_bm PySem.F.plainAttrs_str PySem.F.slot_str_split PySem.F.type_str_split mt_split (pv 0) (pa_cons pe_str pa_nil)))
    (pss_cons (ps_if (pt_cmpR op_gt (pe_callB call_len_seq rfl B.b_len PySem.boot_len (pa_cons (pv 1) pa_nil)) (pe_glob (v := .int 13) rfl g_MOST_NUMBERS ⟨_, rfl⟩) (nomark _)) (pss_one (ps_raise thrE rfl rfl B.c_NoText B.x_NoText (pa_cons pe_str pa_nil))) pss_nil)
    (pss_one (ps_ret (pe_compE rfl rfl rfl rfl [] [] rfl rfl trivial trivial rfl rfl (by decide) (by decide) rfl rfl (by decide) (pi_list (pv 1)) (fun _ _ _ _ => pts_nil) (fun _ _ _ _ _ hx => (pe_defE hx d_read_number hr rfl (pa_cons (pv 0) pa_nil)))))))))), ?_⟩
  (try dsimp only); (first | refine seqI ?_ | skip); try walk_at "dr2"; (try simp only [sp_read_number]); try walk_at "dr2"
  refine ⟨t, ht, ?_⟩
  have no : (∀ z, v ≠ .str z) → E (.ref (clK K "NoText")) none H := fun n => qe (fun z ms e => absurd e (n z)) H (Same.refl _)
  cases ht with
  | non => exact ⟨false, rfl, by rw [if_pos rfl]; exact ⟨by decide, no nofun⟩⟩
  | bl b => exact ⟨false, rfl, by rw [if_pos rfl]; exact ⟨by decide, no nofun⟩⟩
  | int i => exact ⟨false, rfl, by rw [if_pos rfl]; exact ⟨by decide, no nofun⟩⟩
  | lst e => exact ⟨false, rfl, by rw [if_pos rfl]; exact ⟨by decide, no nofun⟩⟩
  | tup e => exact ⟨false, rfl, by rw [if_pos rfl]; exact ⟨by decide, no nofun⟩⟩
  | dK e => exact ⟨false, rfl, by rw [if_pos rfl]; exact ⟨by decide, no nofun⟩⟩
  | str z =>
    refine ⟨true, rfl, ?_⟩
    rw [if_neg (by decide)]
    clear no
    have hz := hz z rfl
    (try dsimp only); (first | refine seqI ?_ | skip); try walk_at "dr2"; (try simp only [sp_read_number]); try walk_at "dr2"
    refine ⟨rfl, z, _, rfl, rfl, by decide +kernel, Nat.le_trans (Nat.add_le_add_right hz 2) (by decide), ?_⟩
    intro l1 n_l1; generalize e_l1 : upd _ l1 _ = H1; obtain ⟨g1, k1⟩ := newH e_l1 n_l1; clear e_l1
    have k1 : H1 l1 = some (.lst ((Tx.words z).map V.str)) := k1
    have hw := Tx.words_len z
    (try dsimp only); (first | refine seqI ?_ | skip); try walk_at "dr2"; (try simp only [sp_read_number]); try walk_at "dr2"
    refine ⟨_, .inl (SqL.of k1), ite2 (fun c => ⟨by decide, qe (fun y ms e p => ?_) _ g1⟩) (fun c => ?_)⟩
    · cases e
      have := (Tx.poly_some p).1
      rw [List.length_map] at c
      omega
    rw [List.length_map] at c
    obtain ⟨Pv, hPv⟩ : ∃ Pv : Nat → List V → Hp → Prop, ∀ i ys H', Pv i ys H' ↔ (Same H1 H' ∧ (∀ w, w ∈ (Tx.words z).take i → Tx.Wr w.cps.toList) ∧ ys = ((((Tx.words z).take i).map fun w => Tx.valOf w.cps.toList).map V.int)) := ⟨_, fun _ _ _ => Iff.rfl⟩
    refine ⟨⟨_, SqL.of k1⟩, ?_⟩
    refine compL ((Tx.words z).map V.str) Pv (by rw [List.length_map]; exact Nat.le_trans (show (Tx.words z).length ≤ 13 by omega) (by decide)) ((hPv _ _ _).mpr ⟨Same.refl _, fun w hw => (by simp at hw), rfl⟩) (fun i ys H2 p => ?_) (fun i x ys H2 hx p => ?_) (fun ys H2 p l n_l => ?_)
    · exact SqL.of (((hPv _ _ _).mp p).1 _ _ k1)
    · obtain ⟨g2, ha, rfl⟩ := (hPv _ _ _).mp p
      obtain ⟨w, hw', rfl⟩ := strs_at hx
      have hm := List.mem_of_getElem? hw'
      have wl := Tx.word_le hm
      try walk_at "dr1"; (try simp only [sp_read_number]); try walk_at "dr1"
      refine ⟨⟨_, .str w⟩, fun y e => by subst e; omega, fun H3 g3 => ⟨fun y e hwr => ?_, fun n => qe (fun y ms e p => ?_) _ (g1.trans (g2.trans g3))⟩⟩
      · subst e
        refine (hPv _ _ _).mpr ⟨g2.trans g3, fun u hu => ?_, ?_⟩
        · rw [take_next hw', List.mem_append, List.mem_singleton] at hu
          rcases hu with hu | rfl
          · exact ha u hu
          · exact hwr
        · rw [take_next hw', List.map_append, List.map_append]
          rfl
      · cases e
        exact n w rfl ((Tx.poly_some p).2.1 w hm)
    · rw [List.length_map] at p
      obtain ⟨g2, ha, rfl⟩ := (hPv _ _ _).mp p
      rw [List.take_length] at ha ⊢
      exact q z _ rfl (Tx.poly_of (by omega) ha) l _ (g1.trans (g2.trans (newS n_l))) (none_of (g1.trans g2) n_l) upd_same
def sp_show_poly (K : PySem.W.Frag) : Sp := fun vs H Q _ => ∃ (a : Addr) (ms : List Int), vs = [.ref a] ∧ SqL K H a (ms.map V.int) ∧ ms.length ≤ 14 ∧ (∀ x, x ∈ ms → x.natAbs < 10 ^ 60) ∧ ∀ H', Same H H' → Q (.str (Txt.join (Str.ofString ",") (ms.map fun x => Str.ofString (toString x)))) H'
theorem ok_show_poly (B : Bi mg K) (F : Fun K "show_poly" "show_poly" s_show_poly f fd) : FnOk P w K mg base CX0 1 f fd ["f"] (sp_show_poly K) := by
  refine F.ok S_show_poly (fun vs H Q E h => ?_) (fun cdv A outer s H vs Q E hr h => ?_)
  · obtain ⟨a, ms, rfl, _⟩ := h
    rfl
  obtain ⟨a, ms, rfl, hS, hl, hb, q⟩ := h
  have S := S_show_poly
  refine ⟨_, ((pss_one (ps_ret (pe_bm PySem.F.plainAttrs_str PySem.F.slot_str_join PySem.F.type_str_join mt_join pe_str (pa_cons (pe_comp [] [] rfl rfl trivial trivial rfl rfl (by decide) (by decide) rfl rfl (by decide) (pi_list (pv 0)) (fun _ _ _ _ => pts_nil) (fun _ _ _ _ => (pe_callTy call_str_int rfl B.b_str L2.bt_str (pa_cons (pv 0) pa_nil)))) pa_nil))))), ?_⟩
  try walk_at "dr1"
  refine ⟨rfl, ⟨_, hS⟩, ?_⟩
  obtain ⟨Pv, hPv⟩ : ∃ Pv : Nat → List V → Hp → Prop, ∀ i ys H', Pv i ys H' ↔ (H' = H ∧ ys = (((ms.take i).map fun x => Str.ofString (toString x)).map V.str)) := ⟨_, fun _ _ _ => Iff.rfl⟩
  refine compI ms Pv (Nat.le_trans hl (by decide)) ((hPv _ _ _).mpr ⟨rfl, rfl⟩) (fun i ys H2 p => ?_) (fun i x ys H2 hx p => ?_) (fun ys H2 p l n_l => ?_)
  · obtain ⟨rfl, _⟩ := (hPv _ _ _).mp p
    exact hS
  · obtain ⟨rfl, rfl⟩ := (hPv _ _ _).mp p
    try walk_at "dr1"
    refine ⟨Tx.log_lt (hb x (List.mem_of_getElem? hx)), (hPv _ _ _).mpr ⟨rfl, ?_⟩⟩
    rw [take_next hx, List.map_append, List.map_append]
    rfl
  · obtain ⟨rfl, rfl⟩ := (hPv _ _ _).mp p
    rw [List.take_length]
    exact ⟨_, l, _, rfl, rfl, SqL.of upd_same, Tx.join_ok hl hb, q _ (newS n_l)⟩
def sp__law_whole (_ : PySem.W.Frag) : Sp := fun vs H Q _ => ∃ (i : Int), vs = [.int i] ∧ Q (.bl true) H
theorem ok__law_whole (B : Bi mg K) (F : Fun K "_law_whole" "_law_whole" s__law_whole f fd) : FnOk P w K mg base CX0 1 f fd ["thing"] (sp__law_whole K) := by
  refine F.ok S__law_whole (fun vs H Q E h => ?_) (fun cdv A outer s H vs Q E hr h => ?_)
  · obtain ⟨i, rfl, _⟩ := h
    rfl
  obtain ⟨i, rfl, q⟩ := h
  have S := S__law_whole
  refine ⟨_, ((pss_one (ps_ret (pe_and (pe_callB call_isiS rfl B.b_isinstance L2.bt_isinstance (pa_cons (pv 0) (pa_cons (pe_bltn (v := .ty "int") rfl B.b_int L2.bt_int rfl) pa_nil))) (pe_one (pe_not (pe_callB call_isiS rfl B.b_isinstance L2.bt_isinstance (pa_cons (pv 0) (pa_cons (pe_bltn (v := .ty "bool") rfl B.b_bool L2.bt_bool rfl) pa_nil))))))))), ?_⟩
  try walk_at "dr1"
  exact q
def sp__law_sign (_ : PySem.W.Frag) : Sp := fun vs H Q _ => ∃ cell : Int, vs = [.int cell] ∧ ∀ z : Str, z.length = 1 → Q (.str z) H
theorem ok__law_sign (B : Bi mg K) (F : Fun K "_law_sign" "_law_sign" s__law_sign f fd) : FnOk P w K mg base CX0 1 f fd ["cell"] (sp__law_sign K) := by
  refine F.ok S__law_sign (fun vs H Q E h => ?_) (fun cdv A outer s H vs Q E hr h => ?_)
  · obtain ⟨c, rfl, _⟩ := h
    rfl
  obtain ⟨c, rfl, q⟩ := h
  have S := S__law_sign
  refine ⟨_, ((pss_cons (ps_set (i := 1) S.nd rfl (Or.inl rfl) pe_str)
    (pss_cons (ps_set (i := 1) S.nd rfl (Or.inl rfl) (pe_op op_add_str (pv 1) pe_str))
    (pss_one (ps_ret (pe_ix ix_str (pv 1) (pe_op op_mod (pv 0) pe_int) (fun _ _ => rfl))))))), ?_⟩
  try walk_at "dr1"; (try simp only [rIxS]); try walk_at "dr1"
  refine ⟨by decide +kernel, by decide +kernel, ?_⟩
  have hl : (Str.ofString " !\"#$&'()*+,-./0123456789:;<=>?@ABCDEFGHIJKLMNOPQRSTUVWXYZ[\\]^_`" ++ Str.ofString "abcdefghijklmnopqrstuvwxyz{|}~\n\t").cps.toList.length = 96 := by decide +kernel
  generalize (Str.ofString " !\"#$&'()*+,-./0123456789:;<=>?@ABCDEFGHIJKLMNOPQRSTUVWXYZ[\\]^_`" ++ Str.ofString "abcdefghijklmnopqrstuvwxyz{|}~\n\t").cps.toList = l at hl ⊢
  have m := mod_in c (show (0 : Int) < 96 by decide)
  have hk : (c % 96).toNat < l.length := by omega
  have g := atI_nat (j := (c % 96).toNat) (List.getElem?_eq_getElem hk)
  rw [show (((c % 96).toNat : Nat) : Int) = c % 96 by omega] at g
  exact ⟨_, g, q _ rfl⟩
def sp__law_great (_ : PySem.W.Frag) : Sp := fun vs H Q _ => ∃ cell : Int, vs = [.int cell] ∧ Sh cell ∧ ∀ n : Int, n.natAbs < 10 ^ 60 → Q (.int n) H
theorem ok__law_great (B : Bi mg K) (F : Fun K "_law_great" "_law_great" s__law_great f fd) : FnOk P w K mg base CX0 1 f fd ["cell"] (sp__law_great K) := by
  refine F.ok S__law_great (fun vs H Q E h => ?_) (fun cdv A outer s H vs Q E hr h => ?_)
  · obtain ⟨c, rfl, _⟩ := h
    rfl
  obtain ⟨c, rfl, hc, q⟩ := h
  have S := S__law_great
  refine ⟨_, ((pss_cons (ps_if (pt_cmpR op_eq (pe_op op_mod (pv 0) pe_int) pe_int (nomark _)) (pss_one (ps_ret (pe_op op_sub (pe_op op_mod (pe_op op_fdivW (pv 0) pe_int) pe_int) pe_int))) pss_nil)
    (pss_one (ps_ret (pe_op op_add (pe_op op_sub (pe_op op_mod (pe_op op_mulW (pe_op op_fdivW (pv 0) pe_int) (pe_op op_add (pe_op op_add (pe_op op_mulW pe_int (pe_op op_pow pe_int pe_int)) (pe_op op_mulW pe_int (pe_op op_pow pe_int pe_int))) pe_int)) (pe_op op_sub (pe_op op_mulW pe_int (pe_op op_pow pe_int pe_int)) pe_int)) (pe_op op_pow pe_int pe_int)) pe_int))))), ?_⟩
  try walk_at "dr1"
  have big : IntMulOk (c / 2) (7 * 10 ^ Int.toNat 59 + 982451653 * 10 ^ Int.toNat 29 + 48271) := by
    refine PyProof.Rows.mulOk_of_bits (m := 2 ^ 20 + 64) (n := 210) ?_ (by decide +kernel) (by decide)
    have : c / 2 = c.fdiv 2 := (Int.fdiv_eq_ediv_of_nonneg c (by decide)).symm
    rw [this]
    exact PyProof.Rows.bits_fdiv hc
  have e60 : (10 : Int) ^ Int.toNat 60 = 1000000000000000000000000000000000000000000000000000000000000 := by decide +kernel
  have n60 : (10 : Nat) ^ 60 = 1000000000000000000000000000000000000000000000000000000000000 := by decide +kernel
  refine ite2 (fun _ => ⟨⟨by decide, by decide⟩, q _ ?_⟩) (fun _ => ⟨⟨by decide, by decide⟩, ⟨by decide, by decide, by decide⟩, IntMulOk.of_left (by decide), ⟨by decide, by decide, by decide⟩, IntMulOk.of_left (by decide), big, ⟨by decide, by decide, by decide⟩, IntMulOk.of_left (by decide), by decide +kernel, ⟨by decide, by decide, by decide⟩, q _ ?_⟩)
  · have m := mod_in (c / 2) (show (0 : Int) < 2001 by decide)
    rw [n60]
    omega
  · generalize c / 2 * (7 * 10 ^ Int.toNat 59 + 982451653 * 10 ^ Int.toNat 29 + 48271) = X
    rw [e60, n60]
    have m := mod_in X (show (0 : Int) < 2 * 1000000000000000000000000000000000000000000000000000000000000 - 1 by decide)
    generalize X % (2 * 1000000000000000000000000000000000000000000000000000000000000 - 1) = r at m ⊢
    omega
def sp__law_number (_ : PySem.W.Frag) : Sp := fun vs H Q _ => ∃ z : Str, vs = [.str z] ∧ z.length ≤ 2000 ∧ (∀ n, Tx.num z = some n → Q (.int n) H) ∧ (Tx.num z = none → Q .non H)
theorem ok__law_number (B : Bi mg K) (F : Fun K "_law_number" "_law_number" s__law_number f fd) : FnOk P w K mg base CX0 1 f fd ["word"] (sp__law_number K) := by
  refine F.ok S__law_number (fun vs H Q E h => ?_) (fun cdv A outer s H vs Q E hr h => ?_)
  · obtain ⟨z, rfl, _⟩ := h
    rfl
  obtain ⟨z, rfl, hz, q1, q2⟩ := h
  have S := S__law_number
  have no : ¬ Tx.Wr z.cps.toList → Q .non H := fun n => q2 (if_neg n)
  have hz' := Tx.len_list z
  refine ⟨_, ((pss_cons (ps_set (i := 1) S.nd rfl (Or.inl rfl) (pv 0))
    (pss_cons (ps_join (ps_if (pt_cmpR op_eq (pe_slice sl_str (pv 0) po_none (po_some pe_int)) pe_str (nomark _)) (pss_one (ps_set (i := 1) S.nd rfl (Or.inl rfl) (pe_slice sl_str (pv 0) (po_some pe_int) po_none))) pss_nil))
    (pss_cons (ps_if (PW.pt (pw_or (pt_cmpR op_lt (pe_callB call_len_str rfl B.b_len PySem.boot_len (pa_cons (pv 1) pa_nil)) pe_int (nomark _)) (pw_or1 (pt_cmpR op_gt (pe_callB call_len_str rfl B.b_len PySem.boot_len (pa_cons (pv 1) pa_nil)) pe_int (nomark _))))) (pss_one (ps_ret pe_non)) pss_nil)
    (pss_cons (ps_set (i := 2) S.nd rfl (Or.inl rfl) pe_int)
    (pss_cons (ps_for PassesOwn.never rfl (pi_str (pv 1)) (pg_name (i := 3) S.nd rfl (Or.inl rfl)) (pss_cons (ps_if (pt_cmpR op_lt (pe_bm PySem.F.plainAttrs_str PySem.F.slot_str_find PySem.F.type_str_find mt_find pe_str (pa_cons (pv 3) pa_nil)) pe_int (nomark _)) (pss_one (ps_ret pe_non)) pss_nil)
    (pss_one (ps_set (i := 2) S.nd rfl (Or.inl rfl) (pe_op op_add (pe_op op_mulW pe_int (pv 2)) (pe_bm PySem.F.plainAttrs_str PySem.F.slot_str_find PySem.F.type_str_find mt_find pe_str (pa_cons (pv 3) pa_nil)))))))
    (pss_cons (ps_if (PW.pt (pw_and (pt_cmpR op_eq (pe_ix ix_str (pv 1) pe_int (fun _ _ => rfl)) pe_str (nomark _)) (pw_and1 (PW.pt (pw_or (pt_cmpR op_gt (pe_callB call_len_str rfl B.b_len PySem.boot_len (pa_cons (pv 1) pa_nil)) pe_int (nomark _)) (pw_or1 (pt_cmpR op_ne (pv 0) (pv 1) (nomark _)))))))) (pss_one (ps_ret pe_non)) pss_nil)
    (pss_cons (ps_if (pt_cmpR op_ne (pv 0) (pv 1) (nomark _)) (pss_one (ps_ret (pe_un un_neg (pv 2)))) pss_nil)
    (pss_one (ps_ret (pv 2))))))))))), ?_⟩
  (try dsimp only); (first | refine seqI ?_ | skip); try walk_at "dr2"
  obtain ⟨R, hR⟩ : ∃ R : St → Hp → Prop, ∀ σ' H2, R σ' H2 ↔ (∃ y : Str, y.cps.toList = Tx.figs z.cps.toList ∧ H2 = H ∧ σ' = [some (.str z), some (.str y), none, none]) := ⟨_, fun _ _ => Iff.rfl⟩
  refine seqI ?_
  refine joinB R ?_ ?_
  · try walk_at "dr1"; (try simp only [rSlS]); try walk_at "dr1"
    refine ⟨Nat.le_trans hz (by decide), ite2 (fun c => ?_) (fun c => ?_)⟩
    · have hn := (Tx.slice_one z).mp c
      have e := Tx.figs_of_neg hn
      refine ⟨Nat.le_trans hz (by decide), (hR _ _).mpr ⟨_, ?_, rfl, rfl⟩⟩
      have l1 : 1 ≤ z.length := by rw [hz', e]; simp
      rw [Tx.sl_from (by decide) (by omega), e]
      rfl
    · have hn : Tx.neg z.cps.toList = false := by
        cases hn : Tx.neg z.cps.toList with
        | false => rfl
        | true => exact absurd ((Tx.slice_one z).mpr hn) c
      exact (hR _ _).mpr ⟨z, (Tx.figs_of_not hn).symm, rfl, rfl⟩
  intro σ' H2 w0
  obtain ⟨y, hy, rfl, rfl⟩ := (hR _ _).mp w0
  clear hR w0
  have hyl := Tx.figs_le z y hy
  have hyn := Tx.len_list y
  rw [hy] at hyn
  (try dsimp only); (first | refine seqI ?_ | skip); try walk_at "dr2"
  refine ⟨by unfold sizeLine; omega, ite2 (fun c1 => no fun w => absurd w.one (by omega)) (fun c1 => ⟨by unfold sizeLine; omega, ite2 (fun c2 => no fun w => absurd w.most (by omega)) (fun c2 => ?_)⟩)⟩
  (try dsimp only); (first | refine seqI ?_ | skip); try walk_at "dr2"
  refine seqI ?_
  try walk_at "dr1"; (try simp only [iStr]); try walk_at "dr1"
  obtain ⟨Pv, hPv⟩ : ∃ Pv : Nat → St → Hp → Prop, ∀ i σ H', Pv i σ H' ↔ (H' = H2 ∧ (∀ c, c ∈ y.cps.toList.take i → 48 ≤ c ∧ c ≤ 57) ∧ ∃ t3, σ = [some (.str z), some (.str y), some (.int ((NumText.digitsVal (y.cps.toList.take i) : Nat) : Int)), t3]) := ⟨_, fun _ _ _ => Iff.rfl⟩
  refine forS y Pv ((hPv _ _ _).mpr ⟨rfl, fun c hc => (by simp at hc), _, rfl⟩) (fun i c σ H' hc p => ?_) (fun σ H' p => ?_)
  · obtain ⟨rfl, ha, t3, rfl⟩ := (hPv _ _ _).mp p
    try walk_at "dr1"; (try simp only [rFind, w_tys]); try walk_at "dr1"
    rw [Tx.find_fig]
    by_cases hd : 48 ≤ c ∧ c ≤ 57
    · rw [if_pos hd]
      refine ite2 (fun c0 => absurd c0 (by omega)) (fun _ => ⟨IntMulOk.of_left (by decide), (hPv _ _ _).mpr ⟨rfl, fun e he => ?_, some (.str ⟨#[c]⟩), ?_⟩⟩)
      · rw [take_next hc, List.mem_append, List.mem_singleton] at he
        rcases he with he | rfl
        · exact ha e he
        · exact hd
      · rw [Tx.dv_next hc, show ((NumText.digitsVal (List.take i y.cps.toList) * 10 + (c - 48) : Nat) : Int) = 10 * (NumText.digitsVal (List.take i y.cps.toList) : Nat) + ((c : Int) - 48) by omega]
    · rw [if_neg hd]
      exact ite2 (fun _ => no fun w => hd (w.all c (by rw [← hy]; exact List.mem_of_getElem? hc))) (fun c0 => absurd (by decide) c0)
  · obtain ⟨rfl, ha, t3, rfl⟩ := (hPv _ _ _).mp p
    rw [List.take_length] at ha ⊢
    try walk_at "dr1"; (try simp only [rIxS]); try walk_at "dr1"
    refine ⟨by unfold sizeLine; omega, ?_⟩
    have hsn := Tx.same_not z y hy
    cases hl : y.cps.toList with
    | nil =>
      rw [← hy, hl] at hyn
      exact absurd hyn (by simp; omega)
    | cons a r =>
      have hf : Tx.figs z.cps.toList = a :: r := hy.symm.trans hl
      rw [hf, List.length_cons] at hyn
      rw [hl] at ha
      have wr : (a = 48 → r = [] ∧ Tx.neg z.cps.toList = false) → Tx.Wr z.cps.toList := fun h => ⟨by rw [hf, List.length_cons]; omega, by rw [hf, List.length_cons]; omega, by rw [hf]; exact ha, fun r' e => by rw [hf] at e; cases e; exact h rfl⟩
      have fin : Tx.Wr z.cps.toList → (if ¬ z = y then Q (.int (-((NumText.digitsVal (a :: r) : Nat) : Int))) H' else Q (.int ((NumText.digitsVal (a :: r) : Nat) : Int)) H') := fun w => by
        have key : ∀ n, Tx.valOf z.cps.toList = n → Q (.int n) H' := fun n e => q1 n (by rw [← e]; exact if_pos w)
        refine ite2 (fun c => key _ ?_) (fun c => key _ ?_)
        · have hn : Tx.neg z.cps.toList = true := by
            cases hn : Tx.neg z.cps.toList with
            | true => rfl
            | false => exact absurd (hsn.mpr hn) c
          unfold Tx.valOf
          rw [hn, if_pos rfl, hf]
        · have hn := hsn.mp (Classical.not_not.mp c)
          unfold Tx.valOf
          rw [hn, if_neg (by decide), hf]
      refine ⟨a, atI_nat (j := 0) rfl, ite2 (fun c => ?_) (fun c => fin (wr fun z => absurd (by rw [z, Tx.nought]) c))⟩
      rw [Tx.nought] at c
      have a48 : a = 48 := by
        have := congrArg (fun s : Str => s.cps.toList) c
        exact (List.cons.inj this).1
      subst a48
      refine ⟨by unfold sizeLine; omega, ite2 (fun c1 => no fun w => ?_) (fun c1 => ite2 (fun c2 => no fun w => c2 (hsn.mpr (w.head r hf).2)) (fun c2 => fin (wr fun _ => ⟨List.eq_nil_of_length_eq_zero (by omega), hsn.mp (Classical.not_not.mp c2)⟩)))⟩
      rw [(w.head r hf).1] at hyn
      simp at hyn
      omega
def sp__law_odd (K : PySem.W.Frag) : Sp := fun vs H Q _ => ∃ (cell : Int), vs = [.int cell] ∧ ∀ (v : V) (t : String) (H' : Hp), Same H H' → TN H' v t → (∀ z, v = .str z → z.length ≤ 2000) → Q v H'
theorem body__law_odd : ∃ (s1 s2 : Stmt) (es1 es2 : List Expr) (zs1 zs2 : List Str) (z3 z4 : Str) (p1 p2 p3 p4 p5 p6 p7 p8 p9 p10 p11 p12 p13 p14 p15 p16 p17 p18 p19 : Pos), defBody s__law_odd = [s1, s2] ∧ s1 = .Assign [.Name "some" p1] (.List es1 p2) p3 ∧
    s2 = .Return (some (.Subscript (.BinOp (.Name "some" p4) .Add (.List (.Constant .none 0 p5 :: .Constant (.int 5) 0 p6 :: .Constant (.bool true) 0 p7 :: .Tuple [.Constant (.str z3) 0 p8] 0 p9 :: .List [.Constant (.str z4) 0 p10] p11 :: .Dict [] [] p12 :: es2) p13) p14) (.BinOp (.Name "cell" p15) .Mod (.Constant (.int 31) 0 p16) p17) p18)) p19 ∧
    cStrs es1 = some zs1 ∧ cStrs es2 = some zs2 ∧ zs1.length = 17 ∧ zs2.length = 8 ∧ (∀ z, z ∈ zs1 → z.length ≤ 2000) ∧ ∀ z, z ∈ zs2 → z.length ≤ 2000 :=
  ⟨_, _, _, _, _, _, _, _, _, _, _, _, _, _, _, _, _, _, _, _, _, _, _, _, _, _, _, rfl, rfl, rfl, rfl, rfl, rfl, rfl, by decide +kernel, by decide +kernel⟩
theorem ok__law_odd (B : Bi mg K) (F : Fun K "_law_odd" "_law_odd" s__law_odd f fd) : FnOk P w K mg base CX0 1 f fd ["cell"] (sp__law_odd K) := by
  refine F.ok S__law_odd (fun vs H Q E h => ?_) (fun cdv A outer s H vs Q E hr h => ?_)
  · obtain ⟨c, rfl, _⟩ := h
    rfl
  obtain ⟨c, rfl, q⟩ := h
  have S := S__law_odd
  obtain ⟨s1, s2, es1, es2, zs1, zs2, z3, z4, p1, p2, p3, p4, p5, p6, p7, p8, p9, p10, p11, p12, p13, p14, p15, p16, p17, p18, p19, hb, h1, h2, hs1, hs2, hl1, hl2, hz1, hz2⟩ := body__law_odd
  rw [hb]
  refine ⟨_, (pss_cons (ps_setStrs (i := 1) h1 hs1 S.nd rfl (Or.inl rfl) (Or.inr rfl)) (pss_one (ps_eq h2 (ps_ret (pe_ix ix_list (pe_op op_cat (pv 1) (pe_strs (paj_cons pe_non (paj_cons pe_int (paj_cons pe_bl (paj_cons one_tup (paj_cons one_lst (paj_cons pe_dnewK (PAj.of (pa_strs hs2)) sej_d) sej_l) sej_t) sej_c) sej_c) sej_c))) (pe_op op_mod (pv 0) pe_int) (fun _ _ => rfl)))))), ?_⟩
  try walk_at "dr1"; (try simp only [tDNewK]); try walk_at "dr1"
  refine ⟨by rw [List.length_map, hl1]; decide, ?_⟩
  intro l1 n_l1; generalize e_l1 : upd _ l1 _ = H1; obtain ⟨g1, k1⟩ := newH e_l1 n_l1; clear e_l1
  refine ⟨by decide, ?_⟩
  intro a1 n_a1; generalize e_a1 : upd _ a1 _ = H2; obtain ⟨g2, k2⟩ := newH e_a1 n_a1; clear e_a1
  refine ⟨by decide, ?_⟩
  intro a2 n_a2; generalize e_a2 : upd _ a2 _ = H3; obtain ⟨g3, k3⟩ := newH e_a2 n_a2; clear e_a2
  intro a3 n_a3; generalize e_a3 : upd _ a3 _ = H4; obtain ⟨g4, k4⟩ := newH e_a3 n_a3; clear e_a3
  refine ⟨by rw [List.length_map, hl2]; decide, ?_⟩
  intro l5 n_l5; generalize e_l5 : upd _ l5 _ = H5; obtain ⟨g5, k5⟩ := newH e_l5 n_l5; clear e_l5
  refine ⟨_, g5 _ _ (g4 _ _ (g3 _ _ (g2 _ _ k1))), _, k5, by simp only [List.length_cons, List.length_map, hl1, hl2]; decide, ?_⟩
  intro l6 n_l6; generalize e_l6 : upd _ l6 _ = H6; obtain ⟨g6, k6⟩ := newH e_l6 n_l6; clear e_l6
  have m := mod_in c (show (0 : Int) < 31 by decide)
  obtain ⟨v, ev, hv⟩ := atI_some (xs := zs1.map V.str ++ (V.non :: V.int 5 :: V.bl true :: V.ref a1 :: V.ref a2 :: V.ref a3 :: zs2.map V.str)) (i := c % 31) m.1 (by simp only [List.length_append, List.length_cons, List.length_map, hl1, hl2]; omega)
  refine ⟨_, SqL.of k6, v, ev, ?_⟩
  have G : Same H H6 := g1.trans (g2.trans (g3.trans (g4.trans (g5.trans g6))))
  simp only [List.mem_append, List.mem_cons, List.mem_map] at hv
  rcases hv with ⟨z, hz, rfl⟩ | rfl | rfl | rfl | rfl | rfl | rfl | ⟨z, hz, rfl⟩
  · exact q _ _ _ G (.str z) fun y e => by cases e; exact hz1 _ hz
  · exact q _ _ _ G .non nofun
  · exact q _ _ _ G (.int 5) nofun
  · exact q _ _ _ G (.bl true) nofun
  · exact q _ _ _ G (.tup (g6 _ _ (g5 _ _ (g4 _ _ (g3 _ _ k2))))) nofun
  · exact q _ _ _ G (.lst (g6 _ _ (g5 _ _ (g4 _ _ k3)))) nofun
  · exact q _ _ _ G (.dK (g6 _ _ (g5 _ _ k4))) nofun
  · exact q _ _ _ G (.str z) fun y e => by cases e; exact hz2 _ hz
theorem str_app (a b : Str) : (a ++ b).length = a.length + b.length := by
  show (a.cps ++ b.cps).size = _
  rw [Array.size_append]
  rfl
def sp__law_changed (K : PySem.W.Frag) : Sp := fun vs H Q _ => ∃ (z : Str) (cell : Int), vs = [.str z, .int cell] ∧ z.length ≤ 900 ∧ Sh cell ∧ ∀ (v : V) (t : String) (H' : Hp), Same H H' → TN H' v t → (∀ z, v = .str z → z.length ≤ 2000) → Q v H'
theorem ok__law_changed (B : Bi mg K) (d__law_sign : Def P w K mg base "_law_sign" 1 ["cell"] (sp__law_sign K)) (d__law_odd : Def P w K mg base "_law_odd" 1 ["cell"] (sp__law_odd K)) (F : Fun K "_law_changed" "_law_changed" s__law_changed f fd) : FnOk P w K mg base CX0 2 f fd ["word", "cell"] (sp__law_changed K) := by
  refine F.ok S__law_changed (fun vs H Q E h => ?_) (fun cdv A outer s H vs Q E hr h => ?_)
  · obtain ⟨z, c, rfl, _⟩ := h
    rfl
  obtain ⟨z, c, rfl, hz, hc, q⟩ := h
  have S := S__law_changed
  refine ⟨_, ((pss_cons (ps_set (i := 2) S.nd rfl (Or.inl rfl) (pe_op op_mod (pv 1) pe_int))
    (pss_cons (ps_set (i := 1) S.nd rfl (Or.inl rfl) (pe_op op_fdivW (pv 1) pe_int))
    (pss_cons (ps_set (i := 3) S.nd rfl (Or.inl rfl) (pe_op op_mod (pv 1) (pe_op op_add (pe_callB call_len_str rfl B.b_len PySem.boot_len (pa_cons (pv 0) pa_nil)) pe_int)))
    (pss_cons (ps_if (pt_cmpR op_eq (pv 2) pe_int (nomark _)) (pss_one (ps_ret (pe_op op_add_str (pe_op op_add_str (pe_slice sl_str (pv 0) po_none (po_some (pv 3))) (pe_def d__law_sign hr rfl (pa_cons (pe_op op_fdivW (pv 1) pe_int) pa_nil))) (pe_slice sl_str (pv 0) (po_some (pv 3)) po_none)))) pss_nil)
    (pss_cons (ps_if (pt_cmpR op_eq (pv 2) pe_int (nomark _)) (pss_one (ps_ret (pe_op op_add_str (pe_slice sl_str (pv 0) po_none (po_some (pv 3))) (pe_slice sl_str (pv 0) (po_some (pe_op op_add (pv 3) pe_int)) po_none)))) pss_nil)
    (pss_cons (ps_if (pt_cmpR op_eq (pv 2) pe_int (nomark _)) (pss_one (ps_ret (pe_op op_add_str (pv 0) (pe_slice sl_str pe_str po_none (po_some (pe_op op_add pe_int (pe_op op_mod (pv 1) pe_int))))))) pss_nil)
    (pss_cons (ps_if (pt_cmpR op_eq (pv 2) pe_int (nomark _)) (pss_one (ps_ret (pe_def d__law_odd hr rfl (pa_cons (pv 1) pa_nil)))) pss_nil)
    (pss_one (ps_ret (pv 0))))))))))), ?_⟩
  try walk_at "dr1"; (try simp only [sp__law_sign, sp__law_odd, rSlS]); try walk_at "dr1"
  have ht : ∀ lo hi, (Txt.slice z lo hi).length ≤ 900 := fun lo hi => Nat.le_trans (Txt.slice_le z lo hi) hz
  have hf : ∀ lo hi, (Txt.slice (Str.ofString "1234") lo hi).length ≤ 900 := fun lo hi => Nat.le_trans (Txt.slice_le _ lo hi) (by decide +kernel)
  have z0 : z.length ≤ sizeLine := Nat.le_trans hz (by decide)
  have le : ∀ n : Nat, n ≤ 2000 → n ≤ sizeLine := fun n h => Nat.le_trans h (by decide)
  have fin : ∀ y : Str, y.length ≤ 2000 → Q (.str y) H := fun y hy => q _ _ _ (Same.refl _) (.str y) fun x e => by cases e; exact hy
  refine ⟨⟨by decide, by decide⟩, z0, by omega, ite2 (fun _ => ⟨z0, ⟨by decide, by decide⟩, fun y hy => ?_⟩) (fun _ => ite2 (fun _ => ?_) (fun _ => ite2 (fun _ => ?_) (fun _ => ite2 (fun _ => q) (fun _ => fin z (by omega)))))⟩
  · have h1 := ht none (some (c / 7 % (↑z.length + 1)))
    have h2 := ht (some (c / 7 % (↑z.length + 1))) none
    generalize Txt.slice z none (some (c / 7 % (↑z.length + 1))) = a at h1 ⊢
    generalize Txt.slice z (some (c / 7 % (↑z.length + 1))) none = b at h2 ⊢
    exact ⟨le _ (by omega), z0, le _ (by rw [str_app]; omega), fin _ (by rw [str_app, str_app]; omega)⟩
  · have h1 := ht none (some (c / 7 % (↑z.length + 1)))
    have h2 := ht (some (c / 7 % (↑z.length + 1) + 1)) none
    generalize Txt.slice z none (some (c / 7 % (↑z.length + 1))) = a at h1 ⊢
    generalize Txt.slice z (some (c / 7 % (↑z.length + 1) + 1)) none = b at h2 ⊢
    exact ⟨z0, z0, le _ (by omega), fin _ (by rw [str_app]; omega)⟩
  · have h2 := hf none (some (1 + c / 7 % 4))
    generalize Txt.slice (Str.ofString "1234") none (some (1 + c / 7 % 4)) = b at h2 ⊢
    exact ⟨by decide +kernel, le _ (by omega), fin _ (by rw [str_app]; omega)⟩
def sp__law_refused (K : PySem.W.Frag) : Sp := fun vs H Q _ => ∃ (v : V) (t : String) (b : Bool), vs = [v, .bl b] ∧ TN H v t ∧ (∀ z, v = .str z → z.length ≤ 2000) ∧ (b = true → ∀ z ms, v = .str z → Tx.poly z ≠ some ms) ∧ (b = false → ∀ z, v = .str z → ¬ Tx.Wr z.cps.toList) ∧ ∀ H', Same H H' → Q (.bl true) H'
theorem ok__law_refused (B : Bi mg K) (d_read_number : DefE P w K mg base "read_number" 3 ["text"] (sp_read_number K)) (d_read_poly : DefE P w K mg base "read_poly" 4 ["text"] (sp_read_poly K)) (F : Fun K "_law_refused" "_law_refused" s__law_refused f fd) : FnOk P w K mg base CX0 5 f fd ["thing", "poly"] (sp__law_refused K) := by
  refine F.ok S__law_refused (fun vs H Q E h => ?_) (fun cdv A outer s H vs Q E hr h => ?_)
  · obtain ⟨v, t, b, rfl, _⟩ := h
    rfl
  obtain ⟨v, t, b, rfl, ht, hz, hp, hn, q⟩ := h
  have S := S__law_refused
  refine ⟨_, ((pss_cons (ps_set (i := 2) S.nd rfl (Or.inl rfl) (pe_lst pa_nil))
    (pss_cons (ps_set (i := 3) S.nd rfl (Or.inl rfl) pe_bl)
    (pss_cons (ps_join (ps_tryAs rfl rfl rfl B.c_RestError S.nd (i := 4) rfl rfl (fun _ _ _ hx => (pss_one (ps_if (pt_val (pv 1)) (pss_one (ps_expr (pe_defX hx d_read_poly hr rfl (pa_cons (pv 0) pa_nil)))) (pss_one (ps_expr (pe_defX hx d_read_number hr rfl (pa_cons (pv 0) pa_nil))))))) (fun _ => (pss_cons (ps_set (i := 3) S.nd rfl (Or.inl rfl) (pe_callB (call_isiX (K := K) rfl) rfl B.b_isinstance L2.bt_isinstance (pa_cons (pv 4) (pa_cons (pe_bltn (v := .ty "ValueError") rfl B.b_ValueError L2.bt_ValueError rfl) pa_nil))))
    (pss_one (ps_set (i := 2) S.nd rfl (Or.inl rfl) (pe_lst (pa_cons (pe_callB (call_isiX (K := K) rfl) rfl B.b_isinstance L2.bt_isinstance (pa_cons (pv 4) (pa_cons (pe_glob (v := .ref _) rfl B.c_NoText rfl) pa_nil))) (pa_cons (pe_callB (call_isiX (K := K) rfl) rfl B.b_isinstance L2.bt_isinstance (pa_cons (pv 4) (pa_cons (pe_glob (v := .ref _) rfl B.c_NoRow rfl) pa_nil))) (pa_cons (pe_callB (call_isiX (K := K) rfl) rfl B.b_isinstance L2.bt_isinstance (pa_cons (pv 4) (pa_cons (pe_glob (v := .ref _) rfl B.c_NoName rfl) pa_nil))) (pa_cons (pe_callB (call_isiX (K := K) rfl) rfl B.b_isinstance L2.bt_isinstance (pa_cons (pv 4) (pa_cons (pe_glob (v := .ref _) rfl B.c_TooDeep rfl) pa_nil))) pa_nil)))))))))))
    (pss_one (ps_ret (pe_and (pv 3) (pe_one (pe_cmpR (op_eqD hr.units) (pv 2) (pe_lst (pa_cons pe_bl (pa_cons pe_bl (pa_cons pe_bl (pa_cons pe_bl pa_nil))))) (nomark _)))))))))), ?_⟩
  (try dsimp only); (first | refine seqI ?_ | skip); try walk_at "dr2"; (try simp only [sp_read_number, sp_read_poly]); try walk_at "dr2"
  refine ⟨by decide, ?_⟩
  intro l1 n_l1; generalize e_l1 : upd _ l1 _ = H1; obtain ⟨g1, k1⟩ := newH e_l1 n_l1; clear e_l1
  (try dsimp only); (first | refine seqI ?_ | skip); try walk_at "dr2"; (try simp only [sp_read_number, sp_read_poly]); try walk_at "dr2"
  refine seqI ?_
  obtain ⟨R, hR⟩ : ∃ R : St → Hp → Prop, ∀ σ' H2, R σ' H2 ↔ (Same H H2 ∧ ∃ (l : Addr) (t4 : Option V), H2 l = some (.lst ([true, false, false, false].map V.bl)) ∧ σ' = [some v, some (.bl b), some (.ref l), some (.bl true), t4]) := ⟨_, fun _ _ => Iff.rfl⟩
  refine joinB R ?_ ?_
  · (try dsimp only); (first | refine seqI ?_ | skip); try walk_at "dr2"; (try simp only [sp_read_number, sp_read_poly]); try walk_at "dr2"
    refine ite2 (fun c => ⟨⟨_, ht.same g1⟩, hz, fun z ms e p => absurd p (hp c z ms e), fun _ H2 g2 => ?_⟩) (fun c => ⟨⟨_, ht.same g1⟩, hz, fun H2 g2 => ⟨fun z e w => absurd w (hn (by simpa using c) z e), fun _ => ?_⟩⟩)
    · refine ⟨B.m_NoText_RestError, _, rfl, fun ea n_ea => ?_⟩
      generalize e_ea : upd _ ea _ = H3
      obtain ⟨g3, k3⟩ := newH e_ea n_ea
      clear e_ea
      (try dsimp only); (first | refine seqI ?_ | skip); try walk_at "dr2"; (try simp only [sp_read_number, sp_read_poly]); try walk_at "dr2"
      refine ⟨_, k3, B.f_NoText, _, B.i_NoText_ValueError, ?_⟩
      (try dsimp only); (first | refine seqI ?_ | skip); try walk_at "dr2"; (try simp only [sp_read_number, sp_read_poly]); try walk_at "dr2"
      refine ⟨_, k3, B.f_NoText, _, B.i_NoText_NoText, _, k3, B.f_NoText, _, B.i_NoText_NoRow, _, k3, B.f_NoText, _, B.i_NoText_NoName, _, k3, B.f_NoText, _, B.i_NoText_TooDeep, by decide, ?_⟩
      intro b1 n_b1; generalize e_b1 : upd _ b1 _ = H4; obtain ⟨g4, k4⟩ := newH e_b1 n_b1; clear e_b1
      try dsimp only [Ends.gone]
      exact (hR _ _).mpr ⟨g1.trans (g2.trans (g3.trans g4)), b1, _, k4, rfl⟩
    · refine ⟨B.m_NoText_RestError, _, rfl, fun ea n_ea => ?_⟩
      generalize e_ea : upd _ ea _ = H3
      obtain ⟨g3, k3⟩ := newH e_ea n_ea
      clear e_ea
      (try dsimp only); (first | refine seqI ?_ | skip); try walk_at "dr2"; (try simp only [sp_read_number, sp_read_poly]); try walk_at "dr2"
      refine ⟨_, k3, B.f_NoText, _, B.i_NoText_ValueError, ?_⟩
      (try dsimp only); (first | refine seqI ?_ | skip); try walk_at "dr2"; (try simp only [sp_read_number, sp_read_poly]); try walk_at "dr2"
      refine ⟨_, k3, B.f_NoText, _, B.i_NoText_NoText, _, k3, B.f_NoText, _, B.i_NoText_NoRow, _, k3, B.f_NoText, _, B.i_NoText_NoName, _, k3, B.f_NoText, _, B.i_NoText_TooDeep, by decide, ?_⟩
      intro b1 n_b1; generalize e_b1 : upd _ b1 _ = H4; obtain ⟨g4, k4⟩ := newH e_b1 n_b1; clear e_b1
      try dsimp only [Ends.gone]
      exact (hR _ _).mpr ⟨g1.trans (g2.trans (g3.trans g4)), b1, _, k4, rfl⟩
  intro σ' H2 w0
  obtain ⟨g2, l, t4, kl, rfl⟩ := (hR _ _).mp w0
  clear hR w0
  try walk_at "dr1"; (try simp only [sp_read_number, sp_read_poly]); try walk_at "dr1"
  refine ⟨by decide, ?_⟩
  intro c4 n_c4; generalize e_c4 : upd _ c4 _ = I4; obtain ⟨h4, e4⟩ := newH e_c4 n_c4; clear e_c4
  exact eqLB [true, false, false, false] (SqL.of (h4 _ _ kl)) (SqL.of e4) (q _ (g2.trans h4))
def sp__law_one (K : PySem.W.Frag) : Sp := fun vs H Q _ => ∃ (v : V) (t : String), vs = [v] ∧ TN H v t ∧ (∀ z, v = .str z → z.length ≤ 2000) ∧ ∀ H', Same H H' → Q (.bl true) H'
theorem ok__law_one (B : Bi mg K) (d_read_number : DefE P w K mg base "read_number" 3 ["text"] (sp_read_number K)) (d_show_poly : Def P w K mg base "show_poly" 1 ["f"] (sp_show_poly K)) (d__law_whole : Def P w K mg base "_law_whole" 1 ["thing"] (sp__law_whole K)) (d__law_number : Def P w K mg base "_law_number" 1 ["word"] (sp__law_number K)) (d__law_refused : Def P w K mg base "_law_refused" 5 ["thing", "poly"] (sp__law_refused K)) (F : Fun K "_law_one" "_law_one" s__law_one f fd) : FnOk P w K mg base CX0 6 f fd ["word"] (sp__law_one K) := by
  refine F.ok S__law_one (fun vs H Q E h => ?_) (fun cdv A outer s H vs Q E hr h => ?_)
  · obtain ⟨v, t, rfl, _⟩ := h
    rfl
  obtain ⟨v, t, rfl, ht, hz, q⟩ := h
  have S := S__law_one
  refine ⟨_, ((pss_cons (ps_set (i := 1) S.nd rfl (Or.inl rfl) pe_non)
    (pss_cons (ps_join (ps_if (pt_val (pe_callB call_isiA rfl B.b_isinstance L2.bt_isinstance (pa_cons (pv 0) (pa_cons (pe_bltn (v := .ty "str") rfl B.b_str L2.bt_str rfl) pa_nil)))) (pss_one (ps_set (i := 1) S.nd rfl (Or.inl rfl) (pe_def d__law_number hr rfl (pa_cons (pv 0) pa_nil)))) pss_nil))
    (pss_cons (ps_if (pt_cmpR op_isN (pv 1) pe_non (nomark _)) (pss_one (ps_ret (pe_def d__law_refused hr rfl (pa_cons (pv 0) (pa_cons pe_bl pa_nil))))) pss_nil)
    (pss_cons (ps_set (i := 2) S.nd rfl (Or.inl rfl) (pe_defE pass00 d_read_number hr rfl (pa_cons (pv 0) pa_nil)))
    (pss_one (ps_ret (pe_and (pe_def d__law_whole hr rfl (pa_cons (pv 2) pa_nil)) (pe_and (pe_cmpR op_eq (pv 2) (pv 1) (nomark _)) (pe_one (pe_cmpR op_eq (pe_def d_show_poly hr rfl (pa_cons (pe_lst (pa_cons (pv 1) pa_nil)) pa_nil)) (pv 0) (nomark _)))))))))))), ?_⟩
  (try dsimp only); (first | refine seqI ?_ | skip); try walk_at "dr2"; (try simp only [sp_read_number, sp_show_poly, sp__law_whole, sp__law_number, sp__law_refused]); try walk_at "dr2"
  refine seqI ?_
  obtain ⟨R, hR⟩ : ∃ R : St → Hp → Prop, ∀ σ' H2, R σ' H2 ↔ (H2 = H ∧ ((∃ z n, v = .str z ∧ Tx.num z = some n ∧ σ' = [some v, some (.int n), none]) ∨ ((∀ z, v = .str z → Tx.num z = none) ∧ σ' = [some v, some .non, none]))) := ⟨_, fun _ _ => Iff.rfl⟩
  refine joinB R ?_ ?_
  · try walk_at "dr1"; (try simp only [sp_read_number, sp_show_poly, sp__law_whole, sp__law_number, sp__law_refused]); try walk_at "dr1"
    refine ⟨_, ht, ?_⟩
    have no : (∀ z, v ≠ .str z) → R [some v, some .non, none] H := fun n => (hR _ _).mpr ⟨rfl, .inr ⟨fun z e => absurd e (n z), rfl⟩⟩
    cases ht with
    | non => exact ⟨false, rfl, no nofun⟩
    | bl b => exact ⟨false, rfl, no nofun⟩
    | int i => exact ⟨false, rfl, no nofun⟩
    | lst e => exact ⟨false, rfl, no nofun⟩
    | tup e => exact ⟨false, rfl, no nofun⟩
    | dK e => exact ⟨false, rfl, no nofun⟩
    | str z => exact ⟨true, rfl, z, rfl, hz z rfl, fun n e => (hR _ _).mpr ⟨rfl, .inl ⟨z, n, rfl, e, rfl⟩⟩, fun e => (hR _ _).mpr ⟨rfl, .inr ⟨fun y ey => by cases ey; exact e, rfl⟩⟩⟩
  intro σ' H2 w0
  obtain ⟨rfl, ⟨z, n, rfl, hn, rfl⟩ | ⟨hn, rfl⟩⟩ := (hR _ _).mp w0
  · clear hR w0
    obtain ⟨wr, en⟩ := Tx.num_some hn
    have sh := wr.shows
    rw [← en] at sh
    have sm := wr.small
    rw [← en] at sm
    (try dsimp only); (first | refine seqI ?_ | skip); try walk_at "dr2"; (try simp only [sp_read_number, sp_show_poly, sp__law_whole, sp__law_number, sp__law_refused]); try walk_at "dr2"
    refine seqI ?_
    try walk_at "dr1"; (try simp only [sp_read_number, sp_show_poly, sp__law_whole, sp__law_number, sp__law_refused]); try walk_at "dr1"
    refine ⟨⟨_, .str z⟩, fun y e => hz y (by rw [e]), fun H3 g3 => ⟨fun y e _ => ?_, fun f => absurd wr (f z rfl)⟩⟩
    subst e
    rw [← en, if_pos rfl]
    refine ⟨by decide, ?_⟩
    intro l4 n_l4; generalize e_l4 : upd _ l4 _ = H4; obtain ⟨g4, k4⟩ := newH e_l4 n_l4; clear e_l4
    refine ⟨[n], SqL.of k4, by simp, fun x hx => by rw [List.mem_singleton.mp hx]; exact sm, fun H5 g5 => ?_⟩
    rw [decide_eq_true (show Txt.join (Str.ofString ",") (List.map (fun x => Str.ofString (toString x)) [n]) = z from sh)]
    exact q _ (g3.trans (g4.trans g5))
  · clear hR w0
    (try dsimp only); (first | refine seqI ?_ | skip); try walk_at "dr2"; (try simp only [sp_read_number, sp_show_poly, sp__law_whole, sp__law_number, sp__law_refused]); try walk_at "dr2"
    exact ⟨⟨_, ht⟩, hz, fun f => f.elim, fun _ z e => Tx.num_none (hn z e), q⟩
noncomputable def dueV (z : Str) : V := match Tx.num z with
  | some n => .int n
  | none => .non
theorem due_some {z : Str} {n : Int} (h : Tx.num z = some n) : dueV z = .int n := by unfold dueV; rw [h]
theorem due_none {z : Str} (h : Tx.num z = none) : dueV z = .non := by unfold dueV; rw [h]
theorem in_due {l : List Str} : inV .non (l.map dueV) = true ↔ ∃ w, w ∈ l ∧ ¬ Tx.Wr w.cps.toList := by
  unfold inV
  rw [List.any_map, List.any_eq_true]
  have key : ∀ w : Str, eqV (dueV w) .non = true ↔ ¬ Tx.Wr w.cps.toList := fun w => by
    cases h : Tx.num w with
    | some n =>
      rw [due_some h]
      exact ⟨fun e => by simp [eqV] at e, fun e => absurd (Tx.num_some h).1 e⟩
    | none =>
      rw [due_none h]
      exact ⟨fun _ => Tx.num_none h, fun _ => by simp [eqV]⟩
  exact ⟨fun ⟨w, hw, e⟩ => ⟨w, hw, (key w).mp e⟩, fun ⟨w, hw, e⟩ => ⟨w, hw, (key w).mpr e⟩⟩
theorem flat_due {l : List Str} : (l.map dueV).all flatV = true := by
  rw [List.all_eq_true]
  intro v hv
  obtain ⟨w, _, rfl⟩ := List.mem_map.mp hv
  cases h : Tx.num w with
  | some n => rw [due_some h]; rfl
  | none => rw [due_none h]; rfl
theorem due_ints {l : List Str} (h : ∀ w, w ∈ l → Tx.Wr w.cps.toList) : l.map dueV = (l.map fun w => Tx.valOf w.cps.toList).map V.int := by
  rw [List.map_map]
  exact List.map_congr_left fun w hw => due_some (if_pos (h w hw))
def sp__law_poly (K : PySem.W.Frag) : Sp := fun vs H Q _ => ∃ (v : V) (t : String), vs = [v] ∧ TN H v t ∧ (∀ z, v = .str z → z.length ≤ 2000) ∧ ∀ H', Same H H' → Q (.bl true) H'
theorem ok__law_poly (B : Bi mg K) (d_read_poly : DefE P w K mg base "read_poly" 4 ["text"] (sp_read_poly K)) (d_show_poly : Def P w K mg base "show_poly" 1 ["f"] (sp_show_poly K)) (d__law_whole : Def P w K mg base "_law_whole" 1 ["thing"] (sp__law_whole K)) (d__law_number : Def P w K mg base "_law_number" 1 ["word"] (sp__law_number K)) (d__law_refused : Def P w K mg base "_law_refused" 5 ["thing", "poly"] (sp__law_refused K)) (F : Fun K "_law_poly" "_law_poly" s__law_poly f fd) : FnOk P w K mg base CX0 6 f fd ["text"] (sp__law_poly K) := by
  refine F.ok S__law_poly (fun vs H Q E h => ?_) (fun cdv A outer s H vs Q E hr h => ?_)
  · obtain ⟨v, t, rfl, _⟩ := h
    rfl
  obtain ⟨v, t, rfl, ht, hz, q⟩ := h
  have S := S__law_poly
  refine ⟨_, ((pss_cons (ps_set (i := 1) S.nd rfl (Or.inl rfl) (pe_lst (pa_cons pe_non pa_nil)))
    (pss_cons (ps_join (ps_if (pt_val (pe_callB call_isiA rfl B.b_isinstance L2.bt_isinstance (pa_cons (pv 0) (pa_cons (pe_bltn (v := .ty "str") rfl B.b_str L2.bt_str rfl) pa_nil)))) (pss_one (ps_comp [] [] rfl S.nd (k := 1) rfl rfl rfl rfl trivial trivial rfl rfl (by decide) (by decide) rfl rfl (by decide) (pi_list (pe_bm PySem.F.plainAttrs_str PySem.F.slot_str_split PySem.F.type_str_split mt_split (pv 0) (pa_cons pe_str pa_nil))) (fun _ _ _ _ => pts_nil) (fun _ _ _ _ => (pe_def d__law_number hr rfl (pa_cons (pv 0) pa_nil))))) pss_nil))
    (pss_cons (ps_if (PW.pt (pw_or (pt_cmpR op_in_seq pe_non (pv 1) rfl) (pw_or1 (pt_cmpR op_gt (pe_callB call_len_seq rfl B.b_len PySem.boot_len (pa_cons (pv 1) pa_nil)) pe_int (nomark _))))) (pss_one (ps_ret (pe_def d__law_refused hr rfl (pa_cons (pv 0) (pa_cons pe_bl pa_nil))))) pss_nil)
    (pss_cons (ps_set (i := 2) S.nd rfl (Or.inl rfl) (pe_defE pass00 d_read_poly hr rfl (pa_cons (pv 0) pa_nil)))
    (pss_cons (ps_if (PW.pt (pw_or (pt_not (pt_val (pe_callB call_isiO rfl B.b_isinstance L2.bt_isinstance (pa_cons (pv 2) (pa_cons (pe_bltn (v := .ty "list") rfl B.b_list L2.bt_list rfl) pa_nil))))) (pw_or (pt_cmpR (op_neD hr.units) (pv 2) (pv 1) (nomark _)) (pw_or1 (pt_cmpR op_ne (pe_callB call_len_seq rfl B.b_len PySem.boot_len (pa_cons (pe_comp [] [] rfl rfl trivial trivial rfl rfl (by decide) (by decide) rfl rfl (by decide) (pi_list (pv 2)) (fun _ _ _ _ => (pts_one (pt_val (pe_def d__law_whole hr rfl (pa_cons (pv 0) pa_nil))))) (fun _ _ _ _ => (pv 0))) pa_nil)) (pe_callB call_len_seq rfl B.b_len PySem.boot_len (pa_cons (pv 1) pa_nil)) (nomark _)))))) (pss_one (ps_ret pe_bl)) pss_nil)
    (pss_cons (ps_expr (pe_bm PySem.F.plainAttrs_list PySem.F.slot_list_append PySem.F.type_list_append mt_append (pv 2) (pa_cons pe_int pa_nil)))
    (pss_one (ps_ret (pe_and (pe_cmpR (op_eqD hr.units) (pe_defE pass00 d_read_poly hr rfl (pa_cons (pv 0) pa_nil)) (pv 1) (nomark _)) (pe_one (pe_cmpR op_eq (pe_def d_show_poly hr rfl (pa_cons (pe_callTy call_list_of rfl B.b_list L2.bt_list (pa_cons (pv 1) pa_nil)) pa_nil)) (pv 0) (nomark _))))))))))))), ?_⟩
  (try dsimp only); (first | refine seqI ?_ | skip); try walk_at "dr2"; (try simp only [sp_read_poly, sp_show_poly, sp__law_whole, sp__law_number, sp__law_refused]); try walk_at "dr2"
  refine ⟨by decide, ?_⟩
  intro l1 n_l1; generalize e_l1 : upd _ l1 _ = H1; obtain ⟨g1, k1⟩ := newH e_l1 n_l1; clear e_l1
  refine seqI ?_
  obtain ⟨R, hR⟩ : ∃ R : St → Hp → Prop, ∀ σ' H2, R σ' H2 ↔ (Same H H2 ∧ ∃ (c : Addr) (ds : List V), H2 c = some (.lst ds) ∧ ((∃ z, v = .str z ∧ ds = (Tx.words z).map dueV) ∨ ((∀ z, v ≠ .str z) ∧ ds = [.non])) ∧ σ' = [some v, some (.ref c), none]) := ⟨_, fun _ _ => Iff.rfl⟩
  refine joinB R ?_ ?_
  · try walk_at "dr1"; (try simp only [sp_read_poly, sp_show_poly, sp__law_whole, sp__law_number, sp__law_refused, rSplit]); try walk_at "dr1"
    refine ⟨_, ht.same g1, ?_⟩
    have no : (∀ z, v ≠ .str z) → R [some v, some (.ref l1), none] H1 := fun n => (hR _ _).mpr ⟨g1, l1, _, k1, .inr ⟨n, rfl⟩, rfl⟩
    cases ht with
    | non => exact ⟨false, rfl, no nofun⟩
    | bl b => exact ⟨false, rfl, no nofun⟩
    | int i => exact ⟨false, rfl, no nofun⟩
    | lst e => exact ⟨false, rfl, no nofun⟩
    | tup e => exact ⟨false, rfl, no nofun⟩
    | dK e => exact ⟨false, rfl, no nofun⟩
    | str z =>
      refine ⟨true, rfl, ?_⟩
      rw [if_pos rfl]
      have hz := hz z rfl
      refine ⟨rfl, z, rfl, by decide +kernel, Nat.le_trans (Nat.add_le_add_right hz 2) (by decide), ?_⟩
      intro l2 n_l2; generalize e_l2 : upd _ l2 _ = H2; obtain ⟨g2, k2⟩ := newH e_l2 n_l2; clear e_l2
      have k2 : H2 l2 = some (.lst ((Tx.words z).map V.str)) := k2
      have hw := Tx.words_len z
      refine ⟨⟨_, SqL.of k2⟩, ?_⟩
      obtain ⟨Pv, hPv⟩ : ∃ Pv : Nat → List V → Hp → Prop, ∀ i ys H', Pv i ys H' ↔ (H' = H2 ∧ ys = ((Tx.words z).take i).map dueV) := ⟨_, fun _ _ _ => Iff.rfl⟩
      refine compL ((Tx.words z).map V.str) Pv (by rw [List.length_map]; exact Nat.le_trans (show (Tx.words z).length ≤ 2002 by omega) (by decide)) ((hPv _ _ _).mpr ⟨rfl, rfl⟩) (fun i ys H3 p => ?_) (fun i x ys H3 hx p => ?_) (fun ys H3 p l n_l => ?_)
      · obtain ⟨rfl, _⟩ := (hPv _ _ _).mp p
        exact SqL.of k2
      · obtain ⟨rfl, rfl⟩ := (hPv _ _ _).mp p
        obtain ⟨w, hw', rfl⟩ := strs_at hx
        have wl := Tx.word_le (List.mem_of_getElem? hw')
        have nx : List.take (i + 1) (Tx.words z) = List.take i (Tx.words z) ++ [w] := take_next hw'
        try walk_at "dr1"; (try simp only [sp_read_poly, sp_show_poly, sp__law_whole, sp__law_number, sp__law_refused]); try walk_at "dr1"
        refine ⟨by omega, fun n e => (hPv _ _ _).mpr ⟨rfl, ?_⟩, fun e => (hPv _ _ _).mpr ⟨rfl, ?_⟩⟩
        · rw [nx, List.map_append, List.map_singleton, due_some e]
        · rw [nx, List.map_append, List.map_singleton, due_none e]
      · rw [List.length_map] at p
        obtain ⟨rfl, rfl⟩ := (hPv _ _ _).mp p
        rw [List.take_length]
        exact (hR _ _).mpr ⟨g1.trans (g2.trans (newS n_l)), l, _, upd_same, .inl ⟨z, rfl, rfl⟩, rfl⟩
  intro σ' H2 w0
  obtain ⟨g2, c, ds, kc, hds, rfl⟩ := (hR _ _).mp w0
  clear hR w0
  (try dsimp only); (first | refine seqI ?_ | skip); try walk_at "dr2"; (try simp only [sp_read_poly, sp_show_poly, sp__law_whole, sp__law_number, sp__law_refused]); try walk_at "dr2"
  rcases hds with ⟨z, rfl, rfl⟩ | ⟨n, rfl⟩
  case inr => exact ⟨_, .inl (SqL.of kc), rfl, rfl, ite2 (fun _ => ⟨⟨_, ht.same g2⟩, hz, fun _ z ms e => absurd e (n z), fun f => f.elim, fun H' g => q H' (g2.trans g)⟩) (fun f => absurd rfl f)⟩
  refine ⟨_, .inl (SqL.of kc), rfl, flat_due, ite2 (fun ci => ⟨⟨_, ht.same g2⟩, hz, fun _ y ms e p => ?_, fun f => f.elim, fun H' g => q H' (g2.trans g)⟩) (fun ci => ⟨_, .inl (SqL.of kc), ite2 (fun cl => ⟨⟨_, ht.same g2⟩, hz, fun _ y ms e p => ?_, fun f => f.elim, fun H' g => q H' (g2.trans g)⟩) (fun cl => ?_)⟩)⟩
  · cases e
    obtain ⟨w, hw, nw⟩ := in_due.mp ci
    exact nw ((Tx.poly_some p).2.1 w hw)
  · cases e
    have := (Tx.poly_some p).1
    rw [List.length_map] at cl
    omega
  have all : ∀ w, w ∈ Tx.words z → Tx.Wr w.cps.toList := fun w hw => Classical.byContradiction fun n => ci (in_due.mpr ⟨w, hw, n⟩)
  rw [List.length_map] at cl
  have hp := Tx.poly_of (z := z) (by omega) all
  have sm : ∀ x, x ∈ (Tx.words z).map (fun w => Tx.valOf w.cps.toList) → x.natAbs < 10 ^ 60 := fun x hx => by
    obtain ⟨w, hw, rfl⟩ := List.mem_map.mp hx
    exact (all w hw).small
  have sh : Txt.join (Str.ofString ",") (((Tx.words z).map fun w => Tx.valOf w.cps.toList).map fun x => Str.ofString (toString x)) = z := by
    rw [List.map_map]
    have e : List.map ((fun x => Str.ofString (toString x)) ∘ fun w => Tx.valOf w.cps.toList) (Tx.words z) = Tx.words z := (List.map_congr_left fun w hw => (all w hw).shows).trans (List.map_id _)
    rw [e]
    exact Tx.words_join z
  rw [due_ints all] at kc
  have ml : ((Tx.words z).map fun w => Tx.valOf w.cps.toList).length ≤ 13 := by rw [List.length_map]; omega
  generalize ((Tx.words z).map fun w => Tx.valOf w.cps.toList) = ms at hp sm sh kc ml
  clear ci cl all
  (try dsimp only); (first | refine seqI ?_ | skip); try walk_at "dr2"; (try simp only [sp_read_poly, sp_show_poly, sp__law_whole, sp__law_number, sp__law_refused]); try walk_at "dr2"
  refine ⟨⟨_, ht.same g2⟩, fun y e => hz y (by rw [e]), fun y ms' e p c2 H3 g3 nf k3 => ?_, fun f => absurd hp (f z ms rfl)⟩
  subst e
  rw [hp] at p
  cases p
  (try dsimp only); (first | refine seqI ?_ | skip); try walk_at "dr2"; (try simp only [sp_read_poly, sp_show_poly, sp__law_whole, sp__law_number, sp__law_refused]); try walk_at "dr2"
  refine ⟨_, k3, true, rfl, ?_⟩
  rw [if_neg (by decide)]
  refine neL1 (ns := ms) (SqL.of k3) (SqL.of (g3 _ _ kc)) ?_
  refine ⟨false, rfl, ?_⟩
  rw [if_neg (by decide)]
  refine ⟨⟨_, SqL.of k3⟩, ?_⟩
  obtain ⟨Pv, hPv⟩ : ∃ Pv : Nat → List V → Hp → Prop, ∀ i ys H', Pv i ys H' ↔ (H' = H3 ∧ ys = (ms.take i).map V.int) := ⟨_, fun _ _ _ => Iff.rfl⟩
  refine compI ms Pv (Nat.le_trans ml (by decide)) ((hPv _ _ _).mpr ⟨rfl, rfl⟩) (fun i ys H4 p => ?_) (fun i x ys H4 hx p => ?_) (fun ys H4 p l n_l => ?_)
  · obtain ⟨rfl, _⟩ := (hPv _ _ _).mp p
    exact SqL.of k3
  · obtain ⟨rfl, rfl⟩ := (hPv _ _ _).mp p
    try walk_at "dr1"; (try simp only [sp_read_poly, sp_show_poly, sp__law_whole, sp__law_number, sp__law_refused]); try walk_at "dr1"
    exact (hPv _ _ _).mpr ⟨rfl, by rw [take_next hx, List.map_append]; rfl⟩
  obtain ⟨rfl, rfl⟩ := (hPv _ _ _).mp p
  clear hPv p
  generalize e_l : upd H4 l _ = H5
  obtain ⟨g5, k5⟩ := newH e_l n_l
  clear e_l
  refine ⟨l, rfl, _, .inl (SqL.of k5), _, .inl (SqL.of (g5 _ _ (g3 _ _ kc))), ite2 (fun f => absurd (by simp) f) (fun _ => ?_)⟩
  (try dsimp only); (first | refine seqI ?_ | skip); try walk_at "dr2"; (try simp only [sp_read_poly, sp_show_poly, sp__law_whole, sp__law_number, sp__law_refused]); try walk_at "dr2"
  refine ⟨⟨_, SqL.of (g5 _ _ k3)⟩, _, g5 _ _ k3, by rw [List.length_map]; exact Nat.lt_of_le_of_lt ml (by decide), ?_⟩
  have g6 : Same H2 (upd H5 c2 (.lst (ms.map V.int ++ [V.int 1]))) := fun a o e => by
    rw [upd_ne (fun z => by rw [z, nf] at e; cases e)]
    exact g5 _ _ (g3 _ _ e)
  generalize upd H5 c2 (.lst (ms.map V.int ++ [V.int 1])) = H6 at g6 ⊢
  refine ⟨⟨_, .str z⟩, fun y e => hz y (by rw [e]), fun y ms' e p c7 H7 g7 _ k7 => ?_, fun f => absurd hp (f z ms rfl)⟩
  subst e
  rw [hp] at p
  cases p
  refine eqL1 (ns := ms) (SqL.of k7) (SqL.of (g7 _ _ (g6 _ _ kc))) ?_
  refine ⟨true, rfl, ?_⟩
  rw [if_pos rfl]
  refine ⟨_, .inl (SqL.of (g7 _ _ (g6 _ _ kc))), ?_⟩
  intro l8 n_l8; generalize e_l8 : upd _ l8 _ = H8; obtain ⟨g8, k8⟩ := newH e_l8 n_l8; clear e_l8
  refine ⟨ms, SqL.of k8, by omega, sm, fun H9 g9 => ?_⟩
  rw [decide_eq_true sh]
  exact q _ (g2.trans (g6.trans (g7.trans (g8.trans g9))))
structure Cells (K : PySem.W.Frag) (H : Hp) (c : Addr) (cs : List Int) (n : Nat) : Prop where
  at_ : H c = some (.lst (cs.map V.int))
  pos : 0 < cs.length
  len : cs.length ≤ n
  bits : ∀ x, x ∈ cs → Builtin.Int.intBits x ≤ 2 ^ 20
theorem Cells.same {K : PySem.W.Frag} {H H' : Hp} {c : Addr} {cs : List Int} {n : Nat} (h : Cells K H c cs n) (g : Same H H') : Cells K H' c cs n := ⟨g _ _ h.at_, h.pos, h.len, h.bits⟩
theorem Cells.ix {K : PySem.W.Frag} {H : Hp} {c : Addr} {cs : List Int} {n : Nat} (h : Cells K H c cs n) {i : Int} (h0 : 0 ≤ i) (h1 : i < (cs.length : Int)) : ∃ x, atI (cs.map V.int) i = some (.int x) ∧ Builtin.Int.intBits x ≤ 2 ^ 20 :=
  ⟨_, atI_ints h0 h1, h.bits _ (getD_in h0 h1)⟩
theorem sh_plus {x k : Int} {m : Int} (h : Builtin.Int.intBits x ≤ 2 ^ 20) (hm : 0 < m) (hk : 0 ≤ k ∧ k < 1000) : Sh (x / m + k) := by
  have h1 : Builtin.Int.intBits (x / m) ≤ 2 ^ 20 := by
    have : x / m = x.fdiv m := (Int.fdiv_eq_ediv_of_nonneg x (by omega)).symm
    rw [this]
    exact PySem.intBits_fdiv_le h
  have h2 : Builtin.Int.intBits k ≤ 64 := intBits_le_64 (by omega) (by omega)
  exact Nat.le_trans (PySem.intBits_add_le h1 h2) (by omega)
theorem sh_of {x : Int} (h : Builtin.Int.intBits x ≤ 2 ^ 20) : Sh x := Nat.le_trans h (by decide)
theorem bits_take {ns : List Int} (h : ∀ n, n ∈ ns → Builtin.Int.intBits n ≤ 2 ^ 20) (k : Nat) : ∀ n, n ∈ ns.take k → Builtin.Int.intBits n ≤ 2 ^ 20 := fun n hn => h n (List.mem_of_mem_take hn)
theorem ok_law (B : Bi mg K) (d__law_great : Def P w K mg base "_law_great" 1 ["cell"] (sp__law_great K)) (d__law_changed : Def P w K mg base "_law_changed" 2 ["word", "cell"] (sp__law_changed K)) (d__law_one : Def P w K mg base "_law_one" 6 ["word"] (sp__law_one K)) (d__law_poly : Def P w K mg base "_law_poly" 6 ["text"] (sp__law_poly K)) (F : Fun K "law" "law" s_law f fd) : FnOk P w K mg base CX0 7 f fd ["script"] (spLaw K) := by
  refine F.ok S_law (fun vs H Q E h => ?_) (fun cdv A outer s H vs Q E hr h => ?_)
  · obtain ⟨a, ns, rfl, _⟩ := h
    rfl
  obtain ⟨a, ns, rfl, hS, hl, hbits, q⟩ := h
  have S := S_law
  refine ⟨_, ((pss_cons (ps_set (i := 1) S.nd rfl (Or.inr rfl) (pe_slice sl_list (pv 0) po_none (po_some pe_int)))
    (pss_cons (ps_join (ps_if (pt_cmpR op_eq (pe_callB call_len_seq rfl B.b_len PySem.boot_len (pa_cons (pv 1) pa_nil)) pe_int (nomark _)) (pss_one (ps_set (i := 1) S.nd rfl (Or.inr rfl) (pe_lst (pa_cons pe_int pa_nil)))) pss_nil))
    (pss_cons (ps_for PassesOwn.never rfl (pi_range1 rfl B.b_range (pa_cons (pe_callB call_len_seq rfl B.b_len PySem.boot_len (pa_cons (pv 1) pa_nil)) pa_nil)) (pg_name (i := 2) S.nd rfl (Or.inr rfl)) (pss_cons (ps_set (i := 3) S.nd rfl (Or.inl rfl) (pe_ix ix_list (pv 1) (pv 2) (fun _ _ => rfl)))
    (pss_cons (ps_if (pt_not (pt_val (pe_def d__law_one hr rfl (pa_cons (pe_def d__law_changed hr rfl (pa_cons (pe_callTy call_str_int rfl B.b_str L2.bt_str (pa_cons (pe_def d__law_great hr rfl (pa_cons (pe_op op_add (pe_op op_fdivW (pv 3) pe_int) (pv 2)) pa_nil)) pa_nil)) (pa_cons (pv 3) pa_nil))) pa_nil)))) (pss_one (ps_ret pe_bl)) pss_nil)
    (pss_cons (ps_set (i := 4) S.nd rfl (Or.inl rfl) (pe_op op_add pe_int (pe_op op_mod (pv 3) pe_int)))
    (pss_cons (ps_join (ps_if (pt_cmpR op_eq (pe_op op_mod (pv 3) pe_int) pe_int (nomark _)) (pss_one (ps_set (i := 4) S.nd rfl (Or.inl rfl) pe_int)) pss_nil))
    (pss_cons (ps_comp [1, 2] ["cells", "k"] rfl S.nd (k := 5) rfl rfl rfl rfl ⟨rfl, rfl, trivial⟩ ⟨rfl, rfl, rfl, rfl, rfl, rfl, rfl, rfl, trivial⟩ rfl rfl (by decide) (by decide) rfl rfl (by decide) (pi_range1 rfl B.b_range (pa_cons (pv 4) pa_nil)) (fun _ _ _ _ => pts_nil) (fun _ _ _ _ => (pe_def d__law_great hr rfl (pa_cons (pe_op op_add (pe_op op_fdivW (pe_ix (ix_listK (K := K) rfl) (pv 1) (pe_op op_mod (pe_op op_add (pv 2) (pv 0)) (pe_callB (call_len_seqK (K := K) rfl) rfl B.b_len PySem.boot_len (pa_cons (pv 1) pa_nil))) (fun _ _ => rfl)) pe_int) (pe_op op_mulW (pv 0) (pv 0))) pa_nil))))
    (pss_one (ps_if (pt_not (pt_val (pe_def d__law_poly hr rfl (pa_cons (pe_def d__law_changed hr rfl (pa_cons (pe_bm PySem.F.plainAttrs_str PySem.F.slot_str_join PySem.F.type_str_join mt_join pe_str (pa_cons (pe_comp [] [] rfl rfl trivial trivial rfl rfl (by decide) (by decide) rfl rfl (by decide) (pi_list (pv 5)) (fun _ _ _ _ => pts_nil) (fun _ _ _ _ => (pe_callTy call_str_int rfl B.b_str L2.bt_str (pa_cons (pv 0) pa_nil)))) pa_nil)) (pa_cons (pe_op op_add (pe_op op_fdivW (pv 3) pe_int) (pv 2)) pa_nil))) pa_nil)))) (pss_one (ps_ret pe_bl)) pss_nil))))))))
    (pss_one (ps_ret pe_bl)))))), ?_⟩
  (try dsimp only); (first | refine seqI ?_ | skip); try walk_at "dr2"; (try simp only [sp__law_great, sp__law_changed, sp__law_one, sp__law_poly]); try walk_at "dr2"
  refine ⟨_, hS, ?_⟩
  intro c n_c; generalize e_c : upd _ c _ = H1; obtain ⟨g1, k1⟩ := newH e_c n_c; clear e_c
  rw [cut_to V.int _ (by decide)] at k1
  refine seqI ?_
  obtain ⟨R, hR⟩ : ∃ R : St → Hp → Prop, ∀ σ' H2, R σ' H2 ↔ (∃ (c : Addr) (cs : List Int), Cells K H2 c cs 60 ∧ σ' = [some (.ref a), some (.ref c), none, none, none, none]) := ⟨_, fun _ _ => Iff.rfl⟩
  refine joinB R ?_ ?_
  · try walk_at "dr1"; (try simp only [sp__law_great, sp__law_changed, sp__law_one, sp__law_poly]); try walk_at "dr1"
    refine ⟨_, .inl (SqL.of k1), ite2 (fun c0 => ⟨by decide, ?_⟩) (fun c0 => ?_)⟩
    · intro c2 n_c2; generalize e_c2 : upd _ c2 _ = H2; obtain ⟨g2, k2⟩ := newH e_c2 n_c2; clear e_c2
      exact (hR _ _).mpr ⟨c2, [0], ⟨k2, by decide, by decide, fun x hx => by rw [List.mem_singleton.mp hx]; decide⟩, rfl⟩
    · refine (hR _ _).mpr ⟨c, _, ⟨k1, ?_, ?_, bits_take hbits _⟩, rfl⟩
      · rw [List.length_map] at c0
        omega
      · rw [List.length_take]
        omega
  clear k1 g1 n_c
  intro σ' H2 z
  obtain ⟨c, cs, hC, rfl⟩ := (hR _ _).mp z
  clear hR z
  have cl := hC.len
  have cp := hC.pos
  have hlen : (((cs.map V.int).length : Nat) : Int) = (cs.length : Int) := by rw [List.length_map]
  (try dsimp only); (first | refine seqI ?_ | skip); try walk_at "dr2"; (try simp only [sp__law_great, sp__law_changed, sp__law_one, sp__law_poly]); try walk_at "dr2"
  refine ⟨_, .inl (SqL.of hC.at_), by rw [hlen]; omega, by rw [hlen]; omega, ?_⟩
  rw [hlen, Int.toNat_natCast]
  obtain ⟨Pv, hPv⟩ : ∃ Pv : Nat → St → Hp → Prop, ∀ i σ H', Pv i σ H' ↔ (Cells K H' c cs 60 ∧ ∃ t2 t3 t4 t5, σ = [some (.ref a), some (.ref c), t2, t3, t4, t5]) := ⟨_, fun _ _ _ => Iff.rfl⟩
  refine forR Pv ((hPv _ _ _).mpr ⟨hC, _, _, _, _, rfl⟩) ?_ (fun σ H' _ => ?_)
  case refine_2 =>
    try walk_at "dr1"; (try simp only [sp__law_great, sp__law_changed, sp__law_one, sp__law_poly]); try walk_at "dr1"
    exact q H'
  clear hC
  intro i σ H' hi z
  obtain ⟨hC, t2, t3, t4, t5, rfl⟩ := (hPv _ _ _).mp z
  have hk : (0 : Int) ≤ 0 + (i : Int) ∧ (0 : Int) + (i : Int) < (cs.length : Int) := by omega
  generalize (0 : Int) + (i : Int) = k at hk ⊢
  clear hi z
  obtain ⟨cell, hcell, bcell⟩ := hC.ix hk.1 hk.2
  (try dsimp only); (first | refine seqI ?_ | skip); try walk_at "dr2"; (try simp only [sp__law_great, sp__law_changed, sp__law_one, sp__law_poly]); try walk_at "dr2"
  refine ⟨_, SqL.of hC.at_, _, hcell, ?_⟩
  (try dsimp only); (first | refine seqI ?_ | skip); try walk_at "dr2"; (try simp only [sp__law_great, sp__law_changed, sp__law_one, sp__law_poly]); try walk_at "dr2"
  refine ⟨⟨by decide, by decide⟩, sh_plus bcell (by decide) (by omega), fun n hn => ⟨Tx.log_lt hn, Nat.le_trans (Tx.str_len hn) (by decide), sh_of bcell, fun v t H2 g2 ht hz => ⟨⟨_, ht⟩, hz, fun H3 g3 => ?_⟩⟩⟩
  have hC3 := hC.same (g2.trans g3)
  clear hC ht hz hn
  (try dsimp only); (first | refine seqI ?_ | skip); try walk_at "dr2"; (try simp only [sp__law_great, sp__law_changed, sp__law_one, sp__law_poly]); try walk_at "dr2"
  refine seqI ?_
  obtain ⟨R, hR⟩ : ∃ R : St → Hp → Prop, ∀ σ' H4, R σ' H4 ↔ (H4 = H3 ∧ ∃ m : Int, 1 ≤ m ∧ m ≤ 14 ∧ σ' = [some (.ref a), some (.ref c), some (.int k), some (.int cell), some (.int m), t5]) := ⟨_, fun _ _ => Iff.rfl⟩
  refine joinB R ?_ ?_
  · try walk_at "dr1"; (try simp only [sp__law_great, sp__law_changed, sp__law_one, sp__law_poly]); try walk_at "dr1"
    have m13 := mod_in cell (show (0 : Int) < 13 by decide)
    exact ite2 (fun _ => (hR _ _).mpr ⟨rfl, 14, by decide, by decide, rfl⟩) (fun _ => (hR _ _).mpr ⟨rfl, _, by omega, by omega, rfl⟩)
  intro σ' H4 z
  obtain ⟨rfl, m, m1, m14, rfl⟩ := (hR _ _).mp z
  clear hR z
  (try dsimp only); (first | refine seqI ?_ | skip); try walk_at "dr2"; (try simp only [sp__law_great, sp__law_changed, sp__law_one, sp__law_poly]); try walk_at "dr2"
  refine ⟨by omega, by omega, ?_⟩
  obtain ⟨Pw, hPw⟩ : ∃ Pw : Nat → List V → Hp → Prop, ∀ j ys H', Pw j ys H' ↔ (H' = H4 ∧ ∃ ms : List Int, ys = ms.map V.int ∧ ms.length = j ∧ ∀ x, x ∈ ms → x.natAbs < 10 ^ 60) := ⟨_, fun _ _ _ => Iff.rfl⟩
  refine compR Pw (by unfold sizeLine; omega) ((hPw _ _ _).mpr ⟨rfl, [], rfl, rfl, nofun⟩) (fun j ys H5 hj p => ?_) (fun ys H5 p l n_l => ?_)
  · obtain ⟨rfl, ms, rfl, hj', hm⟩ := (hPw _ _ _).mp p
    have hj0 : (0 : Int) ≤ 0 + (j : Int) ∧ (0 : Int) + (j : Int) < 14 := by omega
    generalize (0 : Int) + (j : Int) = u at hj0 ⊢
    have mm := mod_in (k + u) (show (0 : Int) < (cs.length : Int) by omega)
    obtain ⟨x, hx, bx⟩ := hC3.ix mm.1 mm.2
    have uu : 0 ≤ u * u ∧ u * u ≤ 14 * 14 := ⟨Int.mul_nonneg (by omega) (by omega), Int.mul_le_mul (by omega) (by omega) (by omega) (by omega)⟩
    try walk_at "dr1"; (try simp only [sp__law_great, sp__law_changed, sp__law_one, sp__law_poly]); try walk_at "dr1"
    refine ⟨_, .inl (SqL.of hC3.at_), by rw [hlen]; omega, _, SqL.of hC3.at_, _, by rw [hlen]; exact hx, x, rfl, ⟨by decide, by decide⟩, IntMulOk.of_left (intBits_le_64 (by omega) (by omega)), sh_plus bx (by decide) (by omega), fun n hn => (hPw _ _ _).mpr ⟨rfl, ms ++ [n], by rw [List.map_append]; rfl, by rw [List.length_append, List.length_singleton, hj'], fun y hy => ?_⟩⟩
    rcases List.mem_append.mp hy with hy | hy
    · exact hm y hy
    · rw [List.mem_singleton.mp hy]
      exact hn
  obtain ⟨rfl, ms, rfl, hj', hm⟩ := (hPw _ _ _).mp p
  clear hPw p
  generalize e_l : upd H5 l _ = H6
  obtain ⟨g6, k6⟩ := newH e_l n_l
  clear e_l
  have ml : ms.length ≤ 14 := by omega
  refine ⟨rfl, l, rfl, ⟨_, SqL.of k6⟩, ?_⟩
  obtain ⟨Px, hPx⟩ : ∃ Px : Nat → List V → Hp → Prop, ∀ i ys H', Px i ys H' ↔ (H' = H6 ∧ ys = (((ms.take i).map fun x => Str.ofString (toString x)).map V.str)) := ⟨_, fun _ _ _ => Iff.rfl⟩
  refine compI ms Px (Nat.le_trans ml (by decide)) ((hPx _ _ _).mpr ⟨rfl, rfl⟩) (fun i ys H7 p => ?_) (fun i x ys H7 hx p => ?_) (fun ys H7 p l2 n_l2 => ?_)
  · obtain ⟨rfl, _⟩ := (hPx _ _ _).mp p
    exact SqL.of k6
  · obtain ⟨rfl, rfl⟩ := (hPx _ _ _).mp p
    try walk_at "dr1"; (try simp only [sp__law_great, sp__law_changed, sp__law_one, sp__law_poly]); try walk_at "dr1"
    refine ⟨Tx.log_lt (hm x (List.mem_of_getElem? hx)), (hPx _ _ _).mpr ⟨rfl, ?_⟩⟩
    rw [take_next hx, List.map_append, List.map_append]
    rfl
  obtain ⟨rfl, rfl⟩ := (hPx _ _ _).mp p
  rw [List.take_length]
  refine ⟨_, l2, _, rfl, rfl, SqL.of upd_same, Tx.join_ok ml hm, ⟨by decide, by decide⟩, _, rfl, Nat.le_trans (Tx.join_len ml hm) (by decide), sh_plus bcell (by decide) (by omega), fun v t H8 g8 ht hz => ⟨⟨_, ht⟩, hz, fun H9 g9 => (hPv _ _ _).mpr ⟨hC3.same (g6.trans ((newS n_l2).trans (g8.trans g9))), _, _, _, _, rfl⟩⟩⟩
theorem all_mk {h : Heap} {fa f1 f2 f3 f4 f5 f6 f7 f8 f9 f10 f11 f12 f13 f14 f15 : Addr} (X : K.In h) (G : h.Ns mainGlobals mg) (hfa : mg "law" = some (.ref fa))
    {od1 an1 od2 an2 od3 an3 od4 an4 od5 an5 od6 an6 od7 an7 od8 an8 od9 an9 od10 an10 od11 an11 od12 an12 od13 an13 od14 an14 od15 an15 : Option Addr} {sl1 sl2 sl3 sl4 sl5 sl6 sl7 sl8 sl9 sl10 sl11 sl12 sl13 sl14 sl15 : Array (Option Value)} {oc1 kV1 dc1 pm1 cd1 ct1 oc2 kV2 dc2 pm2 cd2 ct2 oc3 kV3 dc3 pm3 cd3 ct3 oc4 kV4 dc4 pm4 cd4 ct4 oc5 kV5 dc5 pm5 cd5 ct5 oc6 kV6 dc6 pm6 cd6 ct6 oc7 kV7 dc7 pm7 cd7 ct7 oc8 kV8 dc8 pm8 cd8 ct8 oc9 kV9 dc9 pm9 cd9 ct9 oc10 kV10 dc10 pm10 cd10 ct10 oc11 kV11 dc11 pm11 cd11 ct11 oc12 kV12 dc12 pm12 cd12 ct12 oc13 kV13 dc13 pm13 cd13 ct13 oc14 kV14 dc14 pm14 cd14 ct14 oc15 kV15 dc15 pm15 cd15 ct15 : Value}
    (a1 : PySem.W.nsIn K mainGlobals "is_made_of" = some (some (.ref f1))) (l1 : K.lookup f1 = some ⟨oc1, od1, .func (PySem.W.fnOf "is_made_of" "is_made_of" (defArgs s_is_made_of) (defBody s_is_made_of) (defScope s_is_made_of) .none kV1 dc1 pm1 an1 cd1 ct1), sl1⟩) (c1 : PySem.W.codeIn K cd1 "is_made_of" = true) (k1 : PySem.W.keepIn K (.ref f1) = true)
    (a2 : PySem.W.nsIn K mainGlobals "is_written_number" = some (some (.ref f2))) (l2 : K.lookup f2 = some ⟨oc2, od2, .func (PySem.W.fnOf "is_written_number" "is_written_number" (defArgs s_is_written_number) (defBody s_is_written_number) (defScope s_is_written_number) .none kV2 dc2 pm2 an2 cd2 ct2), sl2⟩) (c2 : PySem.W.codeIn K cd2 "is_written_number" = true) (k2 : PySem.W.keepIn K (.ref f2) = true)
    (a3 : PySem.W.nsIn K mainGlobals "read_number" = some (some (.ref f3))) (l3 : K.lookup f3 = some ⟨oc3, od3, .func (PySem.W.fnOf "read_number" "read_number" (defArgs s_read_number) (defBody s_read_number) (defScope s_read_number) .none kV3 dc3 pm3 an3 cd3 ct3), sl3⟩) (c3 : PySem.W.codeIn K cd3 "read_number" = true) (k3 : PySem.W.keepIn K (.ref f3) = true)
    (a4 : PySem.W.nsIn K mainGlobals "read_poly" = some (some (.ref f4))) (l4 : K.lookup f4 = some ⟨oc4, od4, .func (PySem.W.fnOf "read_poly" "read_poly" (defArgs s_read_poly) (defBody s_read_poly) (defScope s_read_poly) .none kV4 dc4 pm4 an4 cd4 ct4), sl4⟩) (c4 : PySem.W.codeIn K cd4 "read_poly" = true) (k4 : PySem.W.keepIn K (.ref f4) = true)
    (a5 : PySem.W.nsIn K mainGlobals "show_poly" = some (some (.ref f5))) (l5 : K.lookup f5 = some ⟨oc5, od5, .func (PySem.W.fnOf "show_poly" "show_poly" (defArgs s_show_poly) (defBody s_show_poly) (defScope s_show_poly) .none kV5 dc5 pm5 an5 cd5 ct5), sl5⟩) (c5 : PySem.W.codeIn K cd5 "show_poly" = true) (k5 : PySem.W.keepIn K (.ref f5) = true)
    (a6 : PySem.W.nsIn K mainGlobals "_law_whole" = some (some (.ref f6))) (l6 : K.lookup f6 = some ⟨oc6, od6, .func (PySem.W.fnOf "_law_whole" "_law_whole" (defArgs s__law_whole) (defBody s__law_whole) (defScope s__law_whole) .none kV6 dc6 pm6 an6 cd6 ct6), sl6⟩) (c6 : PySem.W.codeIn K cd6 "_law_whole" = true) (k6 : PySem.W.keepIn K (.ref f6) = true)
    (a7 : PySem.W.nsIn K mainGlobals "_law_sign" = some (some (.ref f7))) (l7 : K.lookup f7 = some ⟨oc7, od7, .func (PySem.W.fnOf "_law_sign" "_law_sign" (defArgs s__law_sign) (defBody s__law_sign) (defScope s__law_sign) .none kV7 dc7 pm7 an7 cd7 ct7), sl7⟩) (c7 : PySem.W.codeIn K cd7 "_law_sign" = true) (k7 : PySem.W.keepIn K (.ref f7) = true)
    (a8 : PySem.W.nsIn K mainGlobals "_law_number" = some (some (.ref f8))) (l8 : K.lookup f8 = some ⟨oc8, od8, .func (PySem.W.fnOf "_law_number" "_law_number" (defArgs s__law_number) (defBody s__law_number) (defScope s__law_number) .none kV8 dc8 pm8 an8 cd8 ct8), sl8⟩) (c8 : PySem.W.codeIn K cd8 "_law_number" = true) (k8 : PySem.W.keepIn K (.ref f8) = true)
    (a9 : PySem.W.nsIn K mainGlobals "_law_great" = some (some (.ref f9))) (l9 : K.lookup f9 = some ⟨oc9, od9, .func (PySem.W.fnOf "_law_great" "_law_great" (defArgs s__law_great) (defBody s__law_great) (defScope s__law_great) .none kV9 dc9 pm9 an9 cd9 ct9), sl9⟩) (c9 : PySem.W.codeIn K cd9 "_law_great" = true) (k9 : PySem.W.keepIn K (.ref f9) = true)
    (a10 : PySem.W.nsIn K mainGlobals "_law_odd" = some (some (.ref f10))) (l10 : K.lookup f10 = some ⟨oc10, od10, .func (PySem.W.fnOf "_law_odd" "_law_odd" (defArgs s__law_odd) (defBody s__law_odd) (defScope s__law_odd) .none kV10 dc10 pm10 an10 cd10 ct10), sl10⟩) (c10 : PySem.W.codeIn K cd10 "_law_odd" = true) (k10 : PySem.W.keepIn K (.ref f10) = true)
    (a11 : PySem.W.nsIn K mainGlobals "_law_changed" = some (some (.ref f11))) (l11 : K.lookup f11 = some ⟨oc11, od11, .func (PySem.W.fnOf "_law_changed" "_law_changed" (defArgs s__law_changed) (defBody s__law_changed) (defScope s__law_changed) .none kV11 dc11 pm11 an11 cd11 ct11), sl11⟩) (c11 : PySem.W.codeIn K cd11 "_law_changed" = true) (k11 : PySem.W.keepIn K (.ref f11) = true)
    (a12 : PySem.W.nsIn K mainGlobals "_law_refused" = some (some (.ref f12))) (l12 : K.lookup f12 = some ⟨oc12, od12, .func (PySem.W.fnOf "_law_refused" "_law_refused" (defArgs s__law_refused) (defBody s__law_refused) (defScope s__law_refused) .none kV12 dc12 pm12 an12 cd12 ct12), sl12⟩) (c12 : PySem.W.codeIn K cd12 "_law_refused" = true) (k12 : PySem.W.keepIn K (.ref f12) = true)
    (a13 : PySem.W.nsIn K mainGlobals "_law_one" = some (some (.ref f13))) (l13 : K.lookup f13 = some ⟨oc13, od13, .func (PySem.W.fnOf "_law_one" "_law_one" (defArgs s__law_one) (defBody s__law_one) (defScope s__law_one) .none kV13 dc13 pm13 an13 cd13 ct13), sl13⟩) (c13 : PySem.W.codeIn K cd13 "_law_one" = true) (k13 : PySem.W.keepIn K (.ref f13) = true)
    (a14 : PySem.W.nsIn K mainGlobals "_law_poly" = some (some (.ref f14))) (l14 : K.lookup f14 = some ⟨oc14, od14, .func (PySem.W.fnOf "_law_poly" "_law_poly" (defArgs s__law_poly) (defBody s__law_poly) (defScope s__law_poly) .none kV14 dc14 pm14 an14 cd14 ct14), sl14⟩) (c14 : PySem.W.codeIn K cd14 "_law_poly" = true) (k14 : PySem.W.keepIn K (.ref f14) = true)
    (a15 : PySem.W.nsIn K mainGlobals "law" = some (some (.ref f15))) (l15 : K.lookup f15 = some ⟨oc15, od15, .func (PySem.W.fnOf "law" "law" (defArgs s_law) (defBody s_law) (defScope s_law) .none kV15 dc15 pm15 an15 cd15 ct15), sl15⟩) (c15 : PySem.W.codeIn K cd15 "law" = true) (k15 : PySem.W.keepIn K (.ref f15) = true)
    (z_ValueError : PySem.W.nsIn K mainGlobals "ValueError" = some none) (z_all : PySem.W.nsIn K mainGlobals "all" = some none) (z_bool : PySem.W.nsIn K mainGlobals "bool" = some none) (z_int : PySem.W.nsIn K mainGlobals "int" = some none) (z_isinstance : PySem.W.nsIn K mainGlobals "isinstance" = some none) (z_len : PySem.W.nsIn K mainGlobals "len" = some none) (z_list : PySem.W.nsIn K mainGlobals "list" = some none) (z_range : PySem.W.nsIn K mainGlobals "range" = some none) (z_str : PySem.W.nsIn K mainGlobals "str" = some none) {t_FIGURES : Tok} (z_FIGURES : PySem.W.nsIn K mainGlobals "FIGURES" = some (some (.str "0123456789" t_FIGURES))) {t_MOST_FIGURES : Tok} (z_MOST_FIGURES : PySem.W.nsIn K mainGlobals "MOST_FIGURES" = some (some (.int 60 t_MOST_FIGURES))) {t_MOST_NUMBERS : Tok} (z_MOST_NUMBERS : PySem.W.nsIn K mainGlobals "MOST_NUMBERS" = some (some (.int 13 t_MOST_NUMBERS))) {e_NoName : Addr} (z_NoName : PySem.W.nsIn K mainGlobals "NoName" = some (some (.ref e_NoName))) {e_NoRow : Addr} (z_NoRow : PySem.W.nsIn K mainGlobals "NoRow" = some (some (.ref e_NoRow))) {e_NoText : Addr} (z_NoText : PySem.W.nsIn K mainGlobals "NoText" = some (some (.ref e_NoText))) {e_RestError : Addr} (z_RestError : PySem.W.nsIn K mainGlobals "RestError" = some (some (.ref e_RestError))) {e_TooDeep : Addr} (z_TooDeep : PySem.W.nsIn K mainGlobals "TooDeep" = some (some (.ref e_TooDeep))) (x_NoText : ExcK K e_NoText) (m_NoText_RestError : PySem.W.exmOne K (.ref e_NoText) (.ref e_RestError) = some true) (f_NoText : Xc.ExcC K e_NoText) (i_NoText_NoName : PySem.W.kitOne K (.ref e_NoText) (.ref e_NoName) = some false) (i_NoText_NoRow : PySem.W.kitOne K (.ref e_NoText) (.ref e_NoRow) = some false) (i_NoText_NoText : PySem.W.kitOne K (.ref e_NoText) (.ref e_NoText) = some true) (i_NoText_RestError : PySem.W.kitOne K (.ref e_NoText) (.ref e_RestError) = some true) (i_NoText_TooDeep : PySem.W.kitOne K (.ref e_NoText) (.ref e_TooDeep) = some false) (i_NoText_ValueError : PySem.W.kitOne K (.ref e_NoText) (.type "ValueError") = some true) :
    ∃ fd : FuncData, (∀ (s : Shared) (v : Value), BindsTo s fd ⟨[v], []⟩ [("script", v)]) ∧ ∀ base : Heap, K.In base → base.Ns mainGlobals mg → FnOk P w K mg base CX0 7 fa fd ["script"] (spLaw K) := by
  have e := hfa.symm.trans (PySem.W.mg_of X G a15)
  cases e
  have F1 := fun_mk (st := s_is_made_of) l1 c1 k1
  have b1 := F1.binds (ps := ["text", "signs"]) fun _ _ _ _ _ _ us hl => by obtain ⟨_, _, rfl⟩ := us2 hl; rfl
  have F2 := fun_mk (st := s_is_written_number) l2 c2 k2
  have b2 := F2.binds (ps := ["text"]) fun _ _ _ _ _ _ us hl => by obtain ⟨_, rfl⟩ := us1 hl; rfl
  have F3 := fun_mk (st := s_read_number) l3 c3 k3
  have b3 := F3.binds (ps := ["text"]) fun _ _ _ _ _ _ us hl => by obtain ⟨_, rfl⟩ := us1 hl; rfl
  have F4 := fun_mk (st := s_read_poly) l4 c4 k4
  have b4 := F4.binds (ps := ["text"]) fun _ _ _ _ _ _ us hl => by obtain ⟨_, rfl⟩ := us1 hl; rfl
  have F5 := fun_mk (st := s_show_poly) l5 c5 k5
  have b5 := F5.binds (ps := ["f"]) fun _ _ _ _ _ _ us hl => by obtain ⟨_, rfl⟩ := us1 hl; rfl
  have F6 := fun_mk (st := s__law_whole) l6 c6 k6
  have b6 := F6.binds (ps := ["thing"]) fun _ _ _ _ _ _ us hl => by obtain ⟨_, rfl⟩ := us1 hl; rfl
  have F7 := fun_mk (st := s__law_sign) l7 c7 k7
  have b7 := F7.binds (ps := ["cell"]) fun _ _ _ _ _ _ us hl => by obtain ⟨_, rfl⟩ := us1 hl; rfl
  have F8 := fun_mk (st := s__law_number) l8 c8 k8
  have b8 := F8.binds (ps := ["word"]) fun _ _ _ _ _ _ us hl => by obtain ⟨_, rfl⟩ := us1 hl; rfl
  have F9 := fun_mk (st := s__law_great) l9 c9 k9
  have b9 := F9.binds (ps := ["cell"]) fun _ _ _ _ _ _ us hl => by obtain ⟨_, rfl⟩ := us1 hl; rfl
  have F10 := fun_mk (st := s__law_odd) l10 c10 k10
  have b10 := F10.binds (ps := ["cell"]) fun _ _ _ _ _ _ us hl => by obtain ⟨_, rfl⟩ := us1 hl; rfl
  have F11 := fun_mk (st := s__law_changed) l11 c11 k11
  have b11 := F11.binds (ps := ["word", "cell"]) fun _ _ _ _ _ _ us hl => by obtain ⟨_, _, rfl⟩ := us2 hl; rfl
  have F12 := fun_mk (st := s__law_refused) l12 c12 k12
  have b12 := F12.binds (ps := ["thing", "poly"]) fun _ _ _ _ _ _ us hl => by obtain ⟨_, _, rfl⟩ := us2 hl; rfl
  have F13 := fun_mk (st := s__law_one) l13 c13 k13
  have b13 := F13.binds (ps := ["word"]) fun _ _ _ _ _ _ us hl => by obtain ⟨_, rfl⟩ := us1 hl; rfl
  have F14 := fun_mk (st := s__law_poly) l14 c14 k14
  have b14 := F14.binds (ps := ["text"]) fun _ _ _ _ _ _ us hl => by obtain ⟨_, rfl⟩ := us1 hl; rfl
  have F15 := fun_mk (st := s_law) l15 c15 k15
  have k_NoName : clK K "NoName" = e_NoName := clK_of z_NoName
  have k_NoRow : clK K "NoRow" = e_NoRow := clK_of z_NoRow
  have k_NoText : clK K "NoText" = e_NoText := clK_of z_NoText
  have k_RestError : clK K "RestError" = e_RestError := clK_of z_RestError
  have k_TooDeep : clK K "TooDeep" = e_TooDeep := clK_of z_TooDeep
  have B : Bi mg K := ⟨PySem.W.mg_none_of X G z_ValueError, PySem.W.mg_none_of X G z_all, PySem.W.mg_none_of X G z_bool, PySem.W.mg_none_of X G z_int, PySem.W.mg_none_of X G z_isinstance, PySem.W.mg_none_of X G z_len, PySem.W.mg_none_of X G z_list, PySem.W.mg_none_of X G z_range, PySem.W.mg_none_of X G z_str, ⟨_, PySem.W.mg_of X G z_FIGURES⟩, ⟨_, PySem.W.mg_of X G z_MOST_FIGURES⟩, ⟨_, PySem.W.mg_of X G z_MOST_NUMBERS⟩, (by rw [k_NoName]; exact PySem.W.mg_of X G z_NoName), (by rw [k_NoRow]; exact PySem.W.mg_of X G z_NoRow), (by rw [k_NoText]; exact PySem.W.mg_of X G z_NoText), (by rw [k_RestError]; exact PySem.W.mg_of X G z_RestError), (by rw [k_TooDeep]; exact PySem.W.mg_of X G z_TooDeep), (by rw [k_NoText]; exact x_NoText), (by simp only [k_NoText, k_RestError]; exact m_NoText_RestError), (by rw [k_NoText]; exact f_NoText), (by simp only [k_NoText, k_NoName]; exact i_NoText_NoName), (by simp only [k_NoText, k_NoRow]; exact i_NoText_NoRow), (by simp only [k_NoText]; exact i_NoText_NoText), (by simp only [k_NoText, k_RestError]; exact i_NoText_RestError), (by simp only [k_NoText, k_TooDeep]; exact i_NoText_TooDeep), (by simp only [k_NoText]; exact i_NoText_ValueError)⟩
  refine ⟨PySem.W.fnOf "law" "law" (defArgs s_law) (defBody s_law) (defScope s_law) .none kV15 dc15 pm15 an15 cd15 ct15, fun s v => .of_eq rfl, fun base _ _ => ?_⟩
  have D_is_made_of := def_mk (P := P) (w := w) (base := base) F1 (ok_is_made_of B  F1) b1 (PySem.W.mg_of X G a1)
  have D_show_poly := def_mk (P := P) (w := w) (base := base) F5 (ok_show_poly B  F5) b5 (PySem.W.mg_of X G a5)
  have D__law_whole := def_mk (P := P) (w := w) (base := base) F6 (ok__law_whole B  F6) b6 (PySem.W.mg_of X G a6)
  have D__law_sign := def_mk (P := P) (w := w) (base := base) F7 (ok__law_sign B  F7) b7 (PySem.W.mg_of X G a7)
  have D__law_number := def_mk (P := P) (w := w) (base := base) F8 (ok__law_number B  F8) b8 (PySem.W.mg_of X G a8)
  have D__law_great := def_mk (P := P) (w := w) (base := base) F9 (ok__law_great B  F9) b9 (PySem.W.mg_of X G a9)
  have D__law_odd := def_mk (P := P) (w := w) (base := base) F10 (ok__law_odd B  F10) b10 (PySem.W.mg_of X G a10)
  have D_is_written_number := def_mk (P := P) (w := w) (base := base) F2 (ok_is_written_number B D_is_made_of F2) b2 (PySem.W.mg_of X G a2)
  have D__law_changed := def_mk (P := P) (w := w) (base := base) F11 (ok__law_changed B D__law_sign D__law_odd F11) b11 (PySem.W.mg_of X G a11)
  have D_read_number := defE_mk (P := P) (w := w) (base := base) F3 (ok_read_number B D_is_written_number F3) b3 (PySem.W.mg_of X G a3)
  have D_read_poly := defE_mk (P := P) (w := w) (base := base) F4 (ok_read_poly B D_read_number F4) b4 (PySem.W.mg_of X G a4)
  have D__law_refused := def_mk (P := P) (w := w) (base := base) F12 (ok__law_refused B D_read_number D_read_poly F12) b12 (PySem.W.mg_of X G a12)
  have D__law_one := def_mk (P := P) (w := w) (base := base) F13 (ok__law_one B D_read_number D_show_poly D__law_whole D__law_number D__law_refused F13) b13 (PySem.W.mg_of X G a13)
  have D__law_poly := def_mk (P := P) (w := w) (base := base) F14 (ok__law_poly B D_read_poly D_show_poly D__law_whole D__law_number D__law_refused F14) b14 (PySem.W.mg_of X G a14)
  exact ok_law B D__law_great D__law_changed D__law_one D__law_poly F15
end
end K81
open PySem PySem.W PyProof.Rows
set_option maxRecDepth 100000 in
set_option maxHeartbeats 0 in
theorem PySem.Challenge.cw_deeprests_k81_polynomials_read_holds : PySem.Challenge.rw_deeprests_k81_polynomials_read.Holds := by
  w_on; o_law; k_head; (case hw => w_witness2)
  k_fill
  refine L2.walk_law (l := PySem.Challenge.rw_deeprests_k81_polynomials_read) (k := 7) (CX := fun _ => L2.CX0) rfl rfl ⟨rfl, by decide, by decide⟩ (fun w h Y => PySem.W.kIn_of Y) (fun _ _ _ _ _ z => z) ?F
  case F =>
    intro w mg fa h KX G hmg
    refine' K81.all_mk KX G hmg ?a1 ?l1 ?c1 ?k1 ?a2 ?l2 ?c2 ?k2 ?a3 ?l3 ?c3 ?k3 ?a4 ?l4 ?c4 ?k4 ?a5 ?l5 ?c5 ?k5 ?a6 ?l6 ?c6 ?k6 ?a7 ?l7 ?c7 ?k7 ?a8 ?l8 ?c8 ?k8 ?a9 ?l9 ?c9 ?k9 ?a10 ?l10 ?c10 ?k10 ?a11 ?l11 ?c11 ?k11 ?a12 ?l12 ?c12 ?k12 ?a13 ?l13 ?c13 ?k13 ?a14 ?l14 ?c14 ?k14 ?a15 ?l15 ?c15 ?k15 ?z_ValueError ?z_all ?z_bool ?z_int ?z_isinstance ?z_len ?z_list ?z_range ?z_str ?z_FIGURES ?z_MOST_FIGURES ?z_MOST_NUMBERS ?z_NoName ?z_NoRow ?z_NoText ?z_RestError ?z_TooDeep ?x_NoText ?m_NoText_RestError ?f_NoText ?i_NoText_NoName ?i_NoText_NoRow ?i_NoText_NoText ?i_NoText_RestError ?i_NoText_TooDeep ?i_NoText_ValueError
    (case a1 => k_is)
    (case l1 => k_is)
    (case c1 => k_is)
    (case k1 => k_is)
    (case a2 => k_is)
    (case l2 => k_is)
    (case c2 => k_is)
    (case k2 => k_is)
    (case a3 => k_is)
    (case l3 => k_is)
    (case c3 => k_is)
    (case k3 => k_is)
    (case a4 => k_is)
    (case l4 => k_is)
    (case c4 => k_is)
    (case k4 => k_is)
    (case a5 => k_is)
    (case l5 => k_is)
    (case c5 => k_is)
    (case k5 => k_is)
    (case a6 => k_is)
    (case l6 => k_is)
    (case c6 => k_is)
    (case k6 => k_is)
    (case a7 => k_is)
    (case l7 => k_is)
    (case c7 => k_is)
    (case k7 => k_is)
    (case a8 => k_is)
    (case l8 => k_is)
    (case c8 => k_is)
    (case k8 => k_is)
    (case a9 => k_is)
    (case l9 => k_is)
    (case c9 => k_is)
    (case k9 => k_is)
    (case a10 => k_is)
    (case l10 => k_is)
    (case c10 => k_is)
    (case k10 => k_is)
    (case a11 => k_is)
    (case l11 => k_is)
    (case c11 => k_is)
    (case k11 => k_is)
    (case a12 => k_is)
    (case l12 => k_is)
    (case c12 => k_is)
    (case k12 => k_is)
    (case a13 => k_is)
    (case l13 => k_is)
    (case c13 => k_is)
    (case k13 => k_is)
    (case a14 => k_is)
    (case l14 => k_is)
    (case c14 => k_is)
    (case k14 => k_is)
    (case a15 => k_is)
    (case l15 => k_is)
    (case c15 => k_is)
    (case k15 => k_is)
    (case z_ValueError => k_is)
    (case z_all => kernel_rfl)
    (case z_bool => k_is)
    (case z_int => k_is)
    (case z_isinstance => k_is)
    (case z_len => k_is)
    (case z_list => k_is)
    (case z_range => k_is)
    (case z_str => k_is)
    (case z_FIGURES => k_is)
    (case z_MOST_FIGURES => k_is)
    (case z_MOST_NUMBERS => k_is)
    (case z_NoName => k_is)
    (case z_NoRow => k_is)
    (case z_NoText => k_is)
    (case z_RestError => k_is)
    (case z_TooDeep => k_is)
    (case x_NoText => show PySem.W.excIn _ _ _ _ = true; kernel_rfl)
    (case m_NoText_RestError => kernel_rfl)
    (case f_NoText => exact ⟨by k_is, by k_is, by k_is, by k_is, by k_is, by k_is, by k_is, by k_is⟩)
    (case i_NoText_NoName => kernel_rfl)
    (case i_NoText_NoRow => kernel_rfl)
    (case i_NoText_NoText => kernel_rfl)
    (case i_NoText_RestError => kernel_rfl)
    (case i_NoText_TooDeep => kernel_rfl)
    (case i_NoText_ValueError => kernel_rfl)